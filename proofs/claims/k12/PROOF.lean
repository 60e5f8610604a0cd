import PyProof.Rows.All
import Wide.All
import OpenK.AllK
import Wide.FinOn
import PyProof.EqAt
import PyProof.EqKinds
import PyProof.TupleCall
import PyProof.NeKinds
import PyProof.FactsAll.tuple_2
import PyProof.FactsAll.tuple_3
import PyProof.ListRange
import KE.KSortTup
import PyProof.EnumMake
import PyProof.AutoSeq1
import PyProof.Rows.SeqMore
import KE.KIsAll
import PyProof.ExcArgsOwn
import PyProof.ExcBaseAll.ValueError
import PyProof.ExcAttrAll.ValueError
import OpenK.KOwn
import PyProof.RulesAs
import PyProof.AutoRange
import PyProof.SeqRoads2
import PyProof.ZipIter
import PyProof.StrCalls2
import KE.KDictSum
import PyProof.SumAny
import KE.KRevIter
import PyProof.Rows.FStr
import PyProof.Rows.FStrParts
import KE.KRevSl
import Lean
import PySem.Challenge.RW_rookborders_k12_corners_taken
set_option bootstrap.genMatcherCode false
set_option Elab.async false
set_option linter.all false
set_option maxRecDepth 100000
set_option maxHeartbeats 1000000
namespace L2
open PySem
abbrev Pb:=SetTable.Probe
def Cp(mask:Nat)(p:Pb):Pb:=
 if p.more>0 then {p with j:=p.j+1,more:=p.more-1} else
 {p with j:=(SetTable.leap mask p.i p.perturb).1,more:=SetTable.runEnd mask (SetTable.leap mask p.i p.perturb).1- (SetTable.leap mask p.i p.perturb).1,i:=(SetTable.leap mask p.i p.perturb).1,perturb:=(SetTable.leap mask p.i p.perturb).2}
def zZ(mask i perturb:Nat)(d:Option Nat):Pb:={j:=i,more:=SetTable.runEnd mask i-i,i:=i,perturb:=perturb,dummy:=d}
def Ai(mask:Nat):Nat->Pb->Pb
 |0,p=>p
 |n+1,p=>Ai mask n (Cp mask p)
def Cn(mask:Nat)(h:Int)(d:Option Nat):Pb:=zZ mask (SetTable.bits h % (mask+1)) (SetTable.bits h) d
def Jx(mask:Nat)(h:Int)(m:Nat):Nat:=(Ai mask m (Cn mask h none)).j
def BZ(xs:Array Nat):Prop:=xs.toList.Pairwise (·< ·)
structure TOk(t:SetTable)(hs:List Int):Prop where
 pw: ∃k,3<=k/\k<=12/\t.mask+1=2^k
 sz:t.place.size=hs.length
 sp:BZ t.place
 sd:BZ t.dummies
 lp: ∀j∈t.place.toList,j<=t.mask
 ld: ∀j∈t.dummies.toList,j<=t.mask
 dj: ∀j∈t.dummies.toList,j∉t.place.toList
 fl:t.fill<=t.mask
 rc: ∀x∈hs.zip t.place.toList,∃m,Jx t.mask x.1 m=x.2/\ ∀m',m'<m->Jx t.mask x.1 m'∈t.place.toList\/Jx t.mask x.1 m'∈t.dummies.toList
open PySem PySem.Spec PyProof.Rows
def th(ks:List Int):Int:=reduceHash (Builtin.Tuple.tupleHashOf (ks.map hashInt))
def Cr(x:List Int×Addr):Int×Value:=(th x.1,.ref x.2)
abbrev BM:=List (List Int×Addr)
def Cs(xs:BM):List Int:=xs.map λx=>th x.1
structure SetAt(w:World)(o:Obj)(es:Array (Int×Value))(ep:Nat)(t:SetTable)(xs:BM):Prop where
 ex:o.ExactSet
 hd:o.data=.set es ep t
 he:es.toList=xs.map Cr
 T:TOk t (Cs xs)
 led:t.led= !w.params.followText "set-order"
 pl:t.plain=true
 nd:(xs.map (·.1)).Nodup
structure SetOk(w:World)(o:Obj)(es:Array (Int×Value))(ep:Nat)(t:SetTable)(xs:BM):Prop extends SetAt w o es ep t xs where
 f5:t.fill*5<t.mask*3
abbrev bq:=Sum Int Str
def lg:bq->Value->Bool
 | .inl k,v=>Value.isInt k v
 | .inr x,v=>Value.isStrOf x v
def BQ(w:World):bq->Int
 | .inl k=>hashInt k
 | .inr x=>hashStr w x
theorem bX: ∀ {k:bq} {v:Value},lg k v=true->(∃i t,k=Sum.inl i/\v=Value.int i t)\/(∃x t,k=Sum.inr x/\v=Value.str x t)
 | .inl i,v,h=>by
   obtain⟨t,e⟩:=Value.isInt_shape (k:=i) (v:=v) h
   exact .inl ⟨i,t,rfl,e⟩
 | .inr x,v,h=>by
   obtain⟨t,e⟩:=Value.isStrOf_shape (x:=x) (v:=v) h
   exact .inr ⟨x,t,rfl,e⟩
theorem rG(i:Int)(t:Tok):lg (.inl i) (.int i t)=true:=by simp[lg,Value.isInt]
theorem rN(x:Str)(t:Tok):lg (.inr x) (.str x t)=true:=by simp[lg,Value.isStrOf]
theorem y8(a b:Int):decide ((Sum.inl a:bq)=Sum.inl b)=(a==b):=by
 by_cases e:a=b
 ·subst e;simp
 ·have h: ¬(Sum.inl a:bq)=Sum.inl b:=λq=>e (Sum.inl.inj q)
  rw[decide_eq_false h];exact(beq_eq_false_iff_ne.mpr e).symm
theorem zf(a b:Str):decide ((Sum.inr a:bq)=Sum.inr b)=decide (a=b):=by
 by_cases e:a=b
 ·subst e;simp
 ·have h: ¬(Sum.inr a:bq)=Sum.inr b:=λq=>e (Sum.inr.inj q)
  rw[decide_eq_false h,decide_eq_false e]
theorem yF(a:Int)(b:Str):decide ((Sum.inl a:bq)=Sum.inr b)=false:=decide_eq_false (λq=>nomatch q)
theorem yP(a:Str)(b:Int):decide ((Sum.inr a:bq)=Sum.inl b)=false:=decide_eq_false (λq=>nomatch q)
def cC(prog:Program)(w:World):PySem.KeyKind prog w bq where
 is:=lg
 hash:=BQ w
 inj:=λv a b ha hb=>by
  rcases bX ha with⟨i,t,rfl,rfl⟩|⟨x,t,rfl,rfl⟩
  ·rcases bX hb with⟨j,u,rfl,e⟩|⟨y,u,rfl,e⟩
   ·injection e with e1 _;rw[e1]
   ·exact nomatch e
  ·rcases bX hb with⟨j,u,rfl,e⟩|⟨y,u,rfl,e⟩
   ·exact nomatch e
   ·injection e with e1 _;rw[e1]
 byValue:=λk v h=>by
  rcases bX h with⟨i,t,rfl,rfl⟩|⟨x,t,rfl,rfl⟩<;>rfl
 pyHash:=λhv h=>by
  rcases bX hv with⟨i,t,rfl,rfl⟩|⟨x,t,rfl,rfl⟩
  ·exact wpAny_pyHash_int h
  ·exact wpAny_pyHash_str h
 eqBool:=λhu hv h=>by
  rcases bX hu with⟨i,t,rfl,rfl⟩|⟨x,t,rfl,rfl⟩
  ·rcases bX hv with⟨j,u,rfl,rfl⟩|⟨y,u,rfl,rfl⟩
   ·rw[y8] at h;exact wpAny_eqBool_int h
   ·rw[yF] at h;exact SeqAt.EqAt.int_str i t y u _ _ _ _ h
  ·rcases bX hv with⟨j,u,rfl,rfl⟩|⟨y,u,rfl,rfl⟩
   ·rw[yP] at h;exact SeqAt.EqAt.str_int x t j u _ _ _ _ h
   ·rw[zf] at h;exact wpAny_eqBool_str h
 «strs»:=λk x t v h=>by
  rcases bX h with⟨i,u,rfl,e⟩|⟨y,u,rfl,e⟩
  ·exact nomatch e
  ·injection e with e1 _
   subst e1;cases v<;>rfl
theorem ng(prog:Program)(w:World)(i:Int)(t:Tok):(cC prog w).is (.inl i) (.int i t)=true:=rG i t
theorem n5(prog:Program)(w:World)(x:Str)(t:Tok):(cC prog w).is (.inr x) (.str x t)=true:=rN x t
inductive V where
 |non|bl (b:Bool)|int (i:Int)|str (x:Str)|byt (b:Array UInt8)|flt (b:UInt64)|ref (a:Addr)|ty (n:String)
 deriving DecidableEq
def RelV:V->Value->Prop
 | .non,u=>u=Value.none
 | .bl b,u=>u=Value.bool b
 | .int i,u=> ∃t,u=Value.int i t
 | .str x,u=> ∃t,u=Value.str x t
 | .byt b,u=> ∃t,u=Value.bytes b t
 | .flt b,u=> ∃t,u=Value.float b t
 | .ref a,u=>u=Value.ref a
 | .ty n,u=>u=Value.type n
abbrev Vals:List V->List Value->Prop:=Paired RelV
theorem Vals.length {xs:List V}{us:List Value}(r:Vals xs us):xs.length=us.length:=Paired.length r
theorem Vals.get: ∀ {xs:List V} {us:List Value} {i:Nat} {x:V},Vals xs us->xs[i]? =some x-> ∃u,us[i]? =some u/\RelV x u
 |_,_,_,_,.nil,e=>by simp at e
 |_,_,0,_,.cons r _,e=>by simp at e;subst e;exact⟨_,rfl,r⟩
 |_,_,i+1,x,.cons _ t,e=>by
  obtain⟨u,h1,h2⟩:=Vals.get (i:=i) (x:=x) t (by simpa using e)
  exact⟨u,by simpa using h1,h2⟩
theorem Vals.set {x:V}{u:Value}(r:RelV x u): ∀ {xs:List V} {us:List Value} (i:Nat),Vals xs us->Vals (xs.set i x) (us.set i u)
 |_,_,_,.nil=>.nil
 |_,_,0,.cons _ t=>.cons r t
 |_,_,i+1,.cons q t=>.cons q (Vals.set r i t)
theorem Vals.append: ∀ {xs ys:List V} {us ws:List Value},Vals xs us->Vals ys ws->Vals (xs++ys) (us++ws)
 |_,_,_,_,.nil,s=>s
 |_,_,_,_,.cons r t,s=>.cons r (Vals.append t s)
def RelO:Option V->Option Value->Prop
 |some v,some u=>RelV v u
 |none,none=>True
 |_,_=>False
def KV {κ:Type}:List (κ×V)->List (κ×Value)->Prop:=Paired λ(p:κ×V) (q:κ×Value)=>p.1=q.1/\RelV p.2 q.2
def kV:bq->V
 | .inl i=>.int i
 | .inr x=>.str x
inductive HO where
 |lst (xs:List V)
 |tup (xs:List V)
 |dK (kvs:List (bq×V))|dT (kvs:List (List bq×V))
 |set (S:Int->Bool) (n:Nat)
 |tst (xs:List (List Int×Addr))
 |ins (C dx:Addr) (fs:List (Str×V))
 |own (x:Addr)
 |xd (fs:List (Str×V))
 |met (f x:Addr)
 |rng (lo hi:Int)
 |frz (o:Obj) (u:HO)
 |nst (p:Addr) (u:HO)
 |tbl (ps:Array Value)
 |ext (φ:Heap->Prop)
abbrev Hp:=Addr->Option HO
def bf(H:Hp)(a:Addr)(o:HO):Hp:=λb=>if b=a then some o else H b
theorem ax {H:Hp}{a:Addr}{o:HO}:bf H a o a=some o:=by unfold bf;rw[if_pos rfl]
theorem ar {H:Hp}{a b:Addr}{o:HO}(h:b≠a):bf H a o b=H b:=by unfold bf;rw[if_neg h]
theorem qD {H:Hp}{a:Addr}{o u:HO}:bf (bf H a o) a u=bf H a u:=by
 funext b;unfold bf;split<;>rfl
theorem zX {H:Hp}{a b:Addr}{o u:HO}(h:H a=some o)(h':H b=some u)(d:o≠u):a≠b:=by
 intro e;subst e;rw[h] at h';exact d (Option.some.inj h')
theorem bv {H:Hp}{a b:Addr}{o:HO}(h:H a=some o)(h':H b=none):a≠b:=by
 intro e;subst e;rw[h] at h';cases h'
section
variable(P:Program)(w:World)
def ObjOk(H:Hp)(h:Heap)(a:Addr):HO->Prop
 | .lst xs=>xs.length<=sizeLine/\ ∃(its:List Value) (n:Nat),Vals xs its/\h.get? a=some {cls:=.type "list",data:=.seq its.toArray n}
 | .tup xs=>xs.length<=sizeLine/\ ∃its:List Value,Vals xs its/\IsTup h a its.toArray/\ ∃o,h.get? a=some o/\o.dict=none
 | .dK kvs=>kvs.length<=sizeLine/\(a==sysModules)=false/\ ∃vs,KV kvs vs/\h.DictOf (cC P w) a vs
 | .dT kvs=>kvs.length<=sizeLine/\(a==sysModules)=false/\ ∃xs:List (List bq×Addr×Value),
    Paired (λ(p:List bq×V) (q:List bq×Addr×Value)=>p.1=q.1/\H q.2.1=some (.tup (p.1.map kV))/\RelV p.2 q.2.2) kvs xs/\
    ∃o es ep,h.get? a=some o/\o.ExactDict/\o.data=.dict es ep/\es.toList=xs.map (entryOfKey (tupleKind (cC P w)))/\(xs.map (·.1)).Nodup
 | .set S n=>h.SetOf (intKind P w) a S n
 | .tst xs=> ∃o es ep t,h.get? a=some o/\SetOk w o es ep t xs
 | .ins C dx fs=>H dx=some (.own a)/\fs.length<=1000/\dx≠a/\h.get? a=some (W.instObj C dx)/\
    ∃mA,h.Ns1 dx mA/\(∀f,RelO (fs.lookup f) (mA f))/\PySem.Within mA (fs.map (·.1))
 | .own _=> ∃o,h.get? a=some o
 | .xd fs=> ∃mA,h.Ns1 a mA/\ ∀f,RelO (fs.lookup f) (mA f)
 | .rng lo hi=> ∃t u v,h.get? a=some {cls:=.type "range",data:=.fields #[.int lo t,.int hi u,.int 1 v]}
 | .frz o u=>h.get? a=some o/\ObjOk H h a u
 | .nst _ u=>ObjOk H h a u
 | .tbl ps=>h.get? a=some {cls:=.none,data:=.fields ps}
 | .met f x=>h.get? a=some (W.methodObj (.ref f) (.ref x))
 | .ext φ=>φ h/\(∃o,h.get? a=some o)/\ ∀h1 h2:Heap,φ h1->(∀o,h1.get? a=some o->h2.get? a=some o)->φ h2
def HOk(H:Hp)(h:Heap):Prop:= ∀a o,H a=some o->ObjOk P w H h a o
end
section
variable {P:Program}{w:World}{H H':Hp}{h h':Heap}{a:Addr}{o:HO}
theorem ObjOk.lt(x:ObjOk P w H h a o):a<h.objs.size:=by
 induction o with
 |lst xs=>obtain⟨_,_,_,_,e⟩:=x;exact Heap.lt_size e
 |tup xs=>obtain⟨_,_,_,p,_⟩:=x;exact p.lt
 |dK kvs=>obtain⟨_,_,_,_,o,_,_,e,_⟩:=x;exact Heap.lt_size e
 |dT kvs=>obtain⟨_,_,_,_,o,_,_,e,_⟩:=x;exact Heap.lt_size e
 |set S n=>obtain⟨o,_,_,_,e,_⟩:=x;exact Heap.lt_size e
 |tst xs=>obtain⟨o,_,_,_,e,_⟩:=x;exact Heap.lt_size e
 |ins C dx fs=>obtain⟨_,_,_,e,_⟩:=x;exact Heap.lt_size e
 |own y=>obtain⟨_,e⟩:=x;exact Heap.lt_size e
 |xd fs=>obtain⟨_,⟨_,_,_,e,_⟩,_⟩:=x;exact Heap.lt_size e
 |rng lo hi=>obtain⟨_,_,_,e⟩:=x;exact Heap.lt_size e
 |frz ob u ih=>obtain⟨e,_⟩:=x;exact Heap.lt_size e
 |nst p u ih=>exact ih x
 |tbl ps=>exact Heap.lt_size (show h.get? a=some _ from x)
 |met f y=>exact Heap.lt_size (show h.get? a=some _ from x)
 |ext φ=>obtain⟨_,⟨_,e⟩,_⟩:=x;exact Heap.lt_size e
theorem Paired.mapP {α β:Type}{F G:α->β->Prop}: ∀ {l₁:List α} {l₂:List β},Paired F l₁ l₂->(∀a b,F a b->G a b)->Paired G l₁ l₂
 |_,_,.nil,_=>.nil
 |_,_,.cons r t,f=>.cons (f _ _ r) (Paired.mapP t f)
theorem ObjOk.stay(x:ObjOk P w H h a o)(k: ∀b u,(b=a\/H b=some (.own a))->h.get? b=some u->h'.get? b=some u)
 (ho: ∀b,H b=some (.own a)->H' b=some (.own a)) (ht: ∀b xs,H b=some (.tup xs)->H' b=some (.tup xs)):ObjOk P w H' h' a o:=by
 induction o with
 |lst xs=>obtain⟨z,its,n,r,e⟩:=x;exact⟨z,its,n,r,k _ _ (.inl rfl) e⟩
 |tup xs=>obtain⟨z,its,r,⟨ob,e,c⟩,ob2,e2,c2⟩:=x;exact⟨z,its,r,⟨ob,k _ _ (.inl rfl) e,c⟩,ob2,k _ _ (.inl rfl) e2,c2⟩
 |dK kvs=>obtain⟨z,y,vs,r,ob,es,ep,e,c⟩:=x;exact⟨z,y,vs,r,ob,es,ep,k _ _ (.inl rfl) e,c⟩
 |dT kvs=>
  obtain⟨z,y,xs,r,ob,es,ep,e,c⟩:=x
  exact⟨z,y,xs,Paired.mapP r λp q z=>⟨z.1,ht _ _ z.2.1,z.2.2⟩,ob,es,ep,k _ _ (.inl rfl) e,c⟩
 |set S n=>obtain⟨ob,es,ep,t,e,c⟩:=x;exact⟨ob,es,ep,t,k _ _ (.inl rfl) e,c⟩
 |tst xs=>obtain⟨ob,es,ep,t,e,c⟩:=x;exact⟨ob,es,ep,t,k _ _ (.inl rfl) e,c⟩
 |ins C dx fs=>
  obtain⟨d,z,ne,e,mA,⟨od,es,ep,e2,c⟩,r⟩:=x
  exact⟨ho _ d,z,ne,k _ _ (.inl rfl) e,mA,⟨od,es,ep,k _ _ (.inr d) e2,c⟩,r⟩
 |own y=>obtain⟨ob,e⟩:=x;exact⟨ob,k _ _ (.inl rfl) e⟩
 |xd fs=>obtain⟨mA,⟨od,es,ep,e,c⟩,r⟩:=x;exact⟨mA,⟨od,es,ep,k _ _ (.inl rfl) e,c⟩,r⟩
 |rng lo hi=>obtain⟨t,u,v,e⟩:=x;exact⟨t,u,v,k _ _ (.inl rfl) e⟩
 |frz ob u ih=>obtain⟨e,q⟩:=x;exact⟨k _ _ (.inl rfl) e,ih q⟩
 |nst p u ih=>exact ih x
 |tbl ps=>
  have e:h.get? a=some {cls:=.none,data:=.fields ps}:=x
  show h'.get? a=some {cls:=.none,data:=.fields ps};exact k a _ (.inl rfl) e
 |met f y=>
  have e:h.get? a=some (W.methodObj (.ref f) (.ref y)):=x
  show h'.get? a=some (W.methodObj (.ref f) (.ref y));exact k a _ (.inl rfl) e
 |ext φ=>obtain⟨p,⟨o,e⟩,st⟩:=x;exact⟨st _ _ p λo q=>k _ _ (.inl rfl) q,⟨o,k _ _ (.inl rfl) e⟩,st⟩
theorem HOk.lt(x:HOk P w H h)(e:H a=some o):a<h.objs.size:=(x a o e).lt
theorem HOk.fresh(x:HOk P w H h)(e:h.objs.size<=a):H a=none:=by
 cases q:H a with
 |none=>rfl
 |some u=>exact absurd (Nat.lt_of_lt_of_le (x.lt q) e) (Nat.lt_irrefl _)
theorem HOk.kept(x:HOk P w H h)(k: ∀b u,h.get? b=some u->h'.get? b=some u):HOk P w H h':=λa o e=>
 (x a o e).stay (λb u _ q=>k b u q) (λ_ q=>q) λ_ _ q=>q
theorem HOk.laid(x:HOk P w H h)(k: ∀b u,h.get? b=some u->h'.get? b=some u)(hp:h.objs.size<=a)(new:ObjOk P w (bf H a o) h' a o):HOk P w (bf H a o) h':=λb u e=>by
 have hn:=x.fresh hp
 by_cases hb:b=a
 ·subst hb;rw[ax] at e;cases e;exact new
 ·rw[ar hb] at e
  exact(x b u e).stay (λc v _ q=>k c v q) (λc q=>by rw[ar (bv q hn)];exact q) λc xs q=>by rw[ar (bv q hn)];exact q
end
def Rd(H:Hp)(a:Addr)(u:HO):Prop:=H a=some u\/ ∃o,H a=some (.frz o u)
theorem Rd.ok {P:Program}{w:World}{H:Hp}{h:Heap}{a:Addr}{u:HO}(r:Rd H a u)(x:HOk P w H h):ObjOk P w H h a u:=by
 rcases r with r|⟨o,r⟩
 ·exact x a u r
 ·obtain⟨_,q⟩:=x a _ r
  exact q
def zl:Option HO->Prop
 |some (.lst _)=>True
 |some (.dK _)=>True
 |some (.dT _)=>True
 |some (.set _ _)=>True
 |some (.tst _)=>True
 |some (.ins _ _ _)=>True
 |some (.ext _)=>True
 |some (.nst _ _)=>True
 |_=>False
section
variable {P:Program}{w:World}{H:Hp}{h h':Heap}{x e:Addr}{o':HO}
theorem HOk.write(ok:HOk P w H h)(mu:zl (H x))(he:e=x\/H e=some (.own x))(k: ∀b u,b≠e->h.get? b=some u->h'.get? b=some u)(heo: ∃u,h'.get? e=some u)
 (new:ObjOk P w (bf H x o') h' x o'):HOk P w (bf H x o') h':=λb u q=>by
 have nown: ∀c y,H c=some (.own y)->c≠x:=λc y r z=>by subst z;rw[r] at mu;exact mu
 have ntup: ∀c xs,H c=some (.tup xs)->c≠x:=λc xs r z=>by subst z;rw[r] at mu;exact mu
 by_cases hb:b=x
 ·subst hb;rw[ax] at q;cases q;exact new
 ·rw[ar hb] at q
  by_cases hbe:b=e
  ·have q':H b=some (.own x):=by
    rcases he with z|z
    ·exact absurd (hbe.trans z) hb
    ·rw[hbe];exact z
   rw[q] at q';cases q';obtain⟨v,hv⟩:=heo
   exact⟨v,by rw[hbe];exact hv⟩
  ·refine(ok b u q).stay (λc v hc r=>k c v ?_ r) (λc r=>by rw[ar (nown c b r)];exact r) λc xs r=>by rw[ar (ntup c xs r)];exact r
   rcases hc with rfl|hc
   ·exact hbe
   ·rintro rfl
    rcases he with z|z
    ·exact nown c b hc z
    ·rw[hc] at z;cases z;exact hb rfl
end
structure Un(fs ex:List Addr)(H H':Hp)(h h':Heap):Prop where
 keep: ∀b o,h.get? b=some o->H b=none->b∉fs->b∉ex->h'.get? b=some o
 slot: ∀b o,h.get? b=some o->H b=none->b∈fs->b∉ex-> ∃sl,h'.get? b=some {o with slots:=sl}
 free: ∀b o,h.get? b=some o->H b=none->b∉ex->H' b=none
 there: ∀b o,h.get? b=some o->b∉ex-> ∃o',h'.get? b=some o'
 tups: ∀b xs,H b=some (.tup xs)->H' b=some (.tup xs)
 frzs: ∀b o u,H b=some (.frz o u)->H' b=some (.frz o u)
 tbls: ∀b ps,H b=some (.tbl ps)-> ∃more,H' b=some (.tbl (ps++more))
section
variable {fs fs' ex ex':List Addr}{H H1 H2:Hp}{h h1 h2 h':Heap}{a x e:Addr}{o:HO}
theorem Un.any(u:Un fs ex H H1 h h1){b:Addr}{ob:Obj}(q:h.get? b=some ob)(n:H b=none)(hx:b∉ex): ∃sl,h1.get? b=some {ob with slots:=sl}:=by
 by_cases hb:b∈fs
 ·exact u.slot b ob q n hb hx
 ·exact⟨ob.slots,u.keep b ob q n hb hx⟩
theorem Un.trans(a:Un fs ex H H1 h h1)(b:Un fs ex H1 H2 h1 h2):Un fs ex H H2 h h2 where
 keep:=λc ob q n hc hx=>b.keep c ob (a.keep c ob q n hc hx) (a.free c ob q n hx) hc hx
 slot:=λc ob q n hc hx=>by
  obtain⟨sl,e1⟩:=a.slot c ob q n hc hx
  obtain⟨sl',e2⟩:=b.slot c _ e1 (a.free c ob q n hx) hc hx
  exact⟨sl',e2⟩
 free:=λc ob q n hx=>by
  obtain⟨o',e1⟩:=a.there c ob q hx
  exact b.free c o' e1 (a.free c ob q n hx) hx
 there:=λc ob q hx=>by
  obtain⟨o',e1⟩:=a.there c ob q hx
  exact b.there c o' e1 hx
 tups:=λc xs q=>b.tups c xs (a.tups c xs q)
 frzs:=λc ob xs q=>b.frzs c ob xs (a.frzs c ob xs q)
 tbls:=λc ps q=>by
  obtain⟨m1,e1⟩:=a.tbls c ps q
  obtain⟨m2,e2⟩:=b.tbls c _ e1
  exact⟨m1++m2,by rw[e2,Array.append_assoc]⟩
theorem Un.kept(k: ∀b u,h.get? b=some u->h'.get? b=some u):Un fs ex H H h h':=
 ⟨λb ob q _ _ _=>k b ob q,λb ob q _ _ _=>⟨ob.slots,k b ob q⟩,λ_ _ _ n _=>n,λb ob q _=>⟨ob,k b ob q⟩,λ_ _ q=>q,λ_ _ _ q=>q,λ_ ps q=>⟨#[],by rw[q];simp⟩⟩
theorem Un.refl:Un fs ex H H h h:=Un.kept λ_ _ q=>q
theorem Un.laid(k: ∀b u,h.get? b=some u->h'.get? b=some u)(hp:h.objs.size<=a)(hn:H a=none):Un fs ex H (bf H a o) h h' where
 keep:=λb u q _ _ _=>k b u q
 slot:=λb u q _ _ _=>⟨u.slots,k b u q⟩
 free:=λb u q n _=>by rw[ar (Nat.ne_of_lt (Nat.lt_of_lt_of_le (Heap.lt_size q) hp))];exact n
 there:=λb u q _=>⟨u,k b u q⟩
 tups:=λb xs q=>by rw[ar (bv q hn)];exact q
 frzs:=λb u xs q=>by rw[ar (bv q hn)];exact q
 tbls:=λb ps q=>⟨#[],by rw[ar (bv q hn),q];simp⟩
theorem Un.write(mu:zl (H x))(he:e=x\/H e=some (.own x))(k: ∀b u,b≠e->h.get? b=some u->h'.get? b=some u)(heo: ∃u,h'.get? e=some u):Un fs ex H (bf H x o) h h':=by
 have hx: ∀b,H b=none->b≠x:=λb n z=>by subst z;rw[n] at mu;exact mu
 have hb: ∀b,H b=none->b≠e:=λb n z=>by
  subst z;rcases he with r|r
  ·exact hx b n r
  ·rw[n] at r;cases r
 have hm: ∀b u,H b=some u-> ¬zl (some u)->b≠x:=λb u q nm z=>by subst z;rw[q] at mu;exact nm mu
 refine⟨λb u q n _ _=>k b u (hb b n) q,λb u q n _ _=>⟨u.slots,k b u (hb b n) q⟩,λb u q n _=>by rw[ar (hx b n)];exact n,λb u q _=>?_,
  λb xs q=>by rw[ar (hm b _ q λz=>z)];exact q,λb u xs q=>by rw[ar (hm b _ q λz=>z)];exact q,λb ps q=>⟨#[],by rw[ar (hm b _ q λz=>z),q];simp⟩⟩
 by_cases hbe:b=e
 ·subst hbe;exact heo
 ·exact⟨u,k b u hbe q⟩
end
def trk(h:Heap)(H:Hp):List Addr:=(List.range h.objs.size).filter λa=>(H a).isSome
def mY(h:Heap)(H:Hp):Heap:=W.hideAll h (trk h H)
theorem q9(h:Heap)(H:Hp):(mY h H).objs.size=h.objs.size:=W.hideAll_size _ _
theorem u8 {h:Heap}{H:Hp}{b:Addr}{o:Obj}(e:h.get? b=some o)(n:H b=none):(mY h H).get? b=some o:=
 W.hideAll_get _ e λhm=>by
  have q:(H b).isSome=true:=(List.mem_filter.mp hm).2
  rw[n] at q;simp at q
theorem xj {h:Heap}{H:Hp}{b:Addr}{o:Obj}(e:(mY h H).get? b=some o):h.get? b=some o/\H b=none:=by
 have e':h.get? b=some o:=W.of_hideAll (trk h H) e
 refine⟨e',?_⟩
 cases q:H b with
 |none=>rfl
 |some x=>
  have hm:b∈trk h H:=List.mem_filter.mpr ⟨List.mem_range.mpr (Heap.lt_size e'),by simp[q]⟩
  have z:(mY h H).get? b=none:=W.hideAll_none (trk h H) hm
  rw[z] at e;cases e
structure Mod(K:W.Frag)(mg:Str->Option Value)(base:Heap):Prop where
 kin:K.In base
 glob:base.Ns mainGlobals mg
 blt: ∃mb,base.Ns builtinsNs mb/\ ∀x:Str,x≠"__name__"->mb x=bootBuiltins x
 nolimit:base.NoLimit
structure Cx where
 prog:Program
 w:World
 K:W.Frag
 mg:Str->Option Value
 base:Heap
 A:Around
 N:List Str
 s₀:Shared
 H₀:Hp
 env:Env
 outer:List Env
 stack:List Env
 ex:List Addr
 fn:Str->Bool
 calm:Bool
 pn:List (Addr×Obj)
 xe:Value->Shared->Prop
def gj(l:List Env):List Addr:=l.filterMap (·.frame)
abbrev Cx.fs(X:Cx):List Addr:=gj X.outer
def m5(sc:Scope)(x:Str):Prop:=sc.names.lookup x=some .local\/sc.names.lookup x=some .cell\/sc.names.lookup x=some .free
def sJ(sc:Scope)(x:Str):Prop:=sc.names.lookup x=some .local\/sc.names.lookup x=some .cell
def A8(env:Env)(h:Heap)(m:Str->Option Value)(x:Str)(u:Value):Prop:=
 (env.kindOf x=some .local/\m x=some u)\/((env.kindOf x=some .cell\/env.kindOf x=some .free)/\ ∃c,env.cells.lookup x=some c/\h.IsCell c (some u))
structure Cx.Ok(X:Cx):Prop where
 mod:Mod X.K X.mg X.base
 kind:X.env.scope.kind=.function
 glob:X.env.globals=mainGlobals
 blt:X.env.builtins=builtinsNs
 above:X.s₀.heap.objs.size<=X.env.locals
 inj: ∀x y c,X.env.cells.lookup x=some c->X.env.cells.lookup y=some c->x=y
 has: ∀x,(X.env.kindOf x=some .cell\/X.env.kindOf x=some .free)-> ∃c,X.env.cells.lookup x=some c
 cab: ∀x c,X.fn x=true->X.env.cells.lookup x=some c->X.s₀.heap.objs.size<=c
 hd:X.calm=true->X.A.handled=none
 frames:X.A.frames=some X.stack
 stk:X.stack=X.outer\/(X.stack=X.env::X.outer/\X.env.frame=some X.env.locals)
 exf: ∀b∈X.ex,b≠X.env.locals/\ ∀x c,X.env.cells.lookup x=some c->c≠b
 bs: ∀b o,X.base.get? b=some o->X.s₀.heap.get? b=some o/\X.H₀ b=none
 bsz:X.base.objs.size<=X.s₀.heap.objs.size
 noex: ∀b o,X.base.get? b=some o->b∉X.ex
 exfs: ∀b∈X.ex,b∉X.fs
 funs:X.s₀.heap.FunFrames X.base X.outer
 frf: ∀b∈X.fs,X.H₀ b=none
structure Inv(X:Cx)(ae:List (Addr×Obj))(σ:List (Option V))(H:Hp)(s:Shared):Prop where
 ok:X.Ok
 os:s.os=X.s₀.os
 bare:AllBare s.gens
 base:Un X.fs X.ex X.H₀ H X.s₀.heap s.heap
 loc: ∃m,s.heap.Ns X.env.locals m/\ ∀(i:Nat) (x:Str) (v:V),X.N[i]? =some x->σ[i]? =some (some v)->m5 X.env.scope x-> ∃u,RelV v u/\A8 X.env s.heap m x u
 cell: ∀x c,X.env.cells.lookup x=some c-> ∃v,s.heap.IsCell c v
 free:H X.env.locals=none
 freeC: ∀x c,X.env.cells.lookup x=some c->H c=none
 pin: ∀p∈X.pn++ae,s.heap.get? p.1=some p.2/\H p.1=none/\p.1≠X.env.locals/\p.1∉X.fs/\ ∀v,p.2.data≠ .cell v
 hok:HOk X.prog X.w H s.heap
 len:σ.length=X.N.length
section
variable {X:Cx}{ae:List (Addr×Obj)}{σ:List (Option V)}{H H':Hp}{s:Shared}{h':Heap}
theorem Cx.Ok.nofr(ok:X.Ok){b:Addr}{o:Obj}(e:X.base.get? b=some o):b∉X.fs:=λhb=>by
 have:=(ok.funs.mem hb).1
 rw[e] at this;cases this
theorem Inv.bs(I:Inv X ae σ H s): ∀b o,X.base.get? b=some o->s.heap.get? b=some o/\H b=none:=λb o e=>
 ⟨I.base.keep b o (I.ok.bs b o e).1 (I.ok.bs b o e).2 (I.ok.nofr e) (I.ok.noex b o e),I.base.free b o (I.ok.bs b o e).1 (I.ok.bs b o e).2 (I.ok.noex b o e)⟩
theorem Inv.bk(I:Inv X ae σ H s): ∀b o,X.base.get? b=some o->s.heap.get? b=some o:=λb o e=>(I.bs b o e).1
theorem Inv.mod(I:Inv X ae σ H s):Mod X.K X.mg X.base:=I.ok.mod
theorem Inv.kIn(I:Inv X ae σ H s):X.K.In s.heap:=I.ok.mod.kin.keeps I.bk
theorem Inv.lt(I:Inv X ae σ H s):X.env.locals<s.heap.objs.size:=let⟨_,hn,_⟩:=I.loc;hn.lt
theorem Inv.sz(I:Inv X ae σ H s):X.s₀.heap.objs.size<=s.heap.objs.size:=Nat.le_trans I.ok.above (Nat.le_of_lt I.lt)
theorem Inv.nofs(I:Inv X ae σ H s){a:Addr}(h:s.heap.objs.size<=a):a∉X.fs:=λhb=>by
 obtain⟨_,o,ho,_⟩:=I.ok.funs.mem hb
 exact absurd (Nat.lt_of_lt_of_le (Heap.lt_size ho) (Nat.le_trans I.sz h)) (Nat.lt_irrefl _)
theorem Inv.cne(I:Inv X ae σ H s): ∀x c,X.env.cells.lookup x=some c->c≠X.env.locals:=λx c e z=>by
 obtain⟨v,o,ho,hd⟩:=I.cell x c e
 obtain⟨m,⟨o',es,ep,ho',hd',_⟩,_⟩:=I.loc
 rw[z,ho'] at ho;cases ho;rw[hd'] at hd;cases hd
theorem Inv.funs(I:Inv X ae σ H s):s.heap.FunFrames X.base X.outer:=by
 have all: ∀(l:List Env),(∀b∈gj l,b∈X.fs)->X.s₀.heap.FunFrames X.base l->s.heap.FunFrames X.base l:=by
  intro l
  induction l with
  |nil=>intro _ _;trivial
  |cons env r ih=>
   intro hs hl;obtain⟨hk,⟨L,o,hf,hn,ho,hd⟩,hr⟩:=hl
   have hL:L∈X.fs:=hs L (by unfold gj;rw[List.filterMap_cons,hf];exact List.mem_cons_self)
   obtain⟨sl,e⟩:=I.base.slot L o ho (I.ok.frf L hL) hL λz=>I.ok.exfs L z hL
   exact⟨hk,⟨L,_,hf,hn,e,hd⟩,ih (λb hb=>hs b (by unfold gj;rw[List.filterMap_cons,hf];exact List.mem_cons_of_mem _ hb)) hr⟩
 exact all X.outer (λ_ hb=>hb) I.ok.funs
theorem Inv.stack(I:Inv X ae σ H s):s.heap.FunFrames X.base X.stack:=by
 rcases I.ok.stk with e|⟨e,hf⟩
 ·rw[e];exact I.funs
 ·rw[e]
  obtain⟨m,hn,_⟩:=I.loc
  refine .cons (by rw[I.ok.kind];decide) hf hn ?_ I.funs
  exact Heap.get?_none_of_le (Nat.le_trans I.ok.bsz I.ok.above)
theorem Inv.stkSub(I:Inv X ae σ H s): ∀b∈gj X.stack,b∈X.env.locals::X.fs:=λb hb=>by
 rcases I.ok.stk with e|⟨e,hf⟩
 ·rw[e] at hb;exact List.mem_cons_of_mem _ hb
 ·rw[e] at hb
  unfold gj at hb;rw[List.filterMap_cons,hf] at hb;exact hb
theorem Inv.stkFree(I:Inv X ae σ H s): ∀b∈gj X.stack,H b=none:=λb hb=>by
 rcases List.mem_cons.mp (I.stkSub b hb) with e|hb
 ·rw[e];exact I.free
 ·obtain⟨_,o,ho,_⟩:=I.ok.funs.mem hb
  exact I.base.free b o ho (I.ok.frf b hb) λz=>I.ok.exfs b z hb
theorem Inv.step {g':Array GenState}{t':Nat}{d':Drawn}{ch:List Addr}(I:Inv X ae σ H s)
 (hch: ∀b∈ch,(b∈X.ex\/X.s₀.heap.objs.size<=b)/\b≠X.env.locals/\(∀x c,X.env.cells.lookup x=some c->c≠b)/\ ∀p∈X.pn++ae,p.1≠b)
 (keep: ∀b o,b≠X.env.locals->b∉X.fs->b∉ch->s.heap.get? b=some o->H b=none->h'.get? b=some o)
 (slot: ∀b o,b≠X.env.locals->b∈X.fs->b∉ch->s.heap.get? b=some o->H b=none-> ∃sl,h'.get? b=some {o with slots:=sl}) (free: ∀b o,b∉ch->s.heap.get? b=some o->H b=none->H' b=none)
 (there: ∀b o,b∉ch->s.heap.get? b=some o-> ∃o',h'.get? b=some o')
 (tups: ∀b xs,H b=some (.tup xs)->H' b=some (.tup xs)) (frzs: ∀b o u,H b=some (.frz o u)->H' b=some (.frz o u)) (tbls: ∀b ps,H b=some (.tbl ps)-> ∃more,H' b=some (.tbl (ps++more)))
 (ns: ∀m,s.heap.Ns X.env.locals m->h'.Ns X.env.locals m) (hok:HOk X.prog X.w H' h') (hg:AllBare g'):
 Inv X ae σ H' {s with heap:=h',gens:=g',drawn:=d',toks:=t'}:=by
 have neL: ∀b o,X.s₀.heap.get? b=some o->b≠X.env.locals:=λb o e=>Nat.ne_of_lt (Nat.lt_of_lt_of_le (Heap.lt_size e) I.ok.above)
 have neC: ∀b o,X.s₀.heap.get? b=some o->b∉X.ex->b∉ch:=λb o e hx hb=>by
  rcases(hch b hb).1 with z|z
  ·exact hx z
  ·exact absurd (Nat.lt_of_lt_of_le (Heap.lt_size e) z) (Nat.lt_irrefl _)
 have cellK: ∀x c,X.env.cells.lookup x=some c-> ∀v,s.heap.IsCell c v->h'.IsCell c v:=λx c e v hq_=>by
  obtain⟨o,ho,hd⟩:=hq_
  have nch:c∉ch:=λz=>(hch c z).2.2.1 x c e rfl
  by_cases hc:c∈X.fs
  ·obtain⟨sl,q⟩:=slot c o (I.cne x c e) hc nch ho (I.freeC x c e)
   exact⟨_,q,hd⟩
  ·exact⟨o,keep c o (I.cne x c e) hc nch ho (I.freeC x c e),hd⟩
 refine⟨I.ok,I.os,hg,⟨λb o e n hb hx=>?_,λb o e n hb hx=>?_,λb o e n hx=>?_,λb o e hx=>?_,λb xs e=>tups b xs (I.base.tups b xs e),λb o xs e=>frzs b o xs (I.base.frzs b o xs e),λb ps e=>?_⟩,?_,λx c e=>?_,?_,λx c e=>?_,λp hp=>?_,hok,I.len⟩
 ·exact keep b o (neL b o e) hb (neC b o e hx) (I.base.keep b o e n hb hx) (I.base.free b o e n hx)
 ·obtain⟨sl,e1⟩:=I.base.slot b o e n hb hx
  obtain⟨sl',e2⟩:=slot b _ (neL b o e) hb (neC b o e hx) e1 (I.base.free b o e n hx)
  exact⟨sl',e2⟩
 ·obtain⟨o',e1⟩:=I.base.there b o e hx
  exact free b o' (neC b o e hx) e1 (I.base.free b o e n hx)
 ·obtain⟨o',e1⟩:=I.base.there b o e hx
  exact there b o' (neC b o e hx) e1
 ·obtain⟨m1,e1⟩:=I.base.tbls b ps e
  obtain⟨m2,e2⟩:=tbls b _ e1
  exact⟨m1++m2,by rw[e2,Array.append_assoc]⟩
 ·obtain⟨m,hn,hl⟩:=I.loc
  refine⟨m,ns m hn,λi x v e1 e2 e3=>?_⟩
  obtain⟨u,r,l⟩:=hl i x v e1 e2 e3
  refine⟨u,r,?_⟩
  rcases l with l|⟨k,c,e,z⟩
  ·exact .inl l
  ·exact .inr ⟨k,c,e,cellK x c e _ z⟩
 ·obtain⟨v,z⟩:=I.cell x c e
  exact⟨v,cellK x c e v z⟩
 ·obtain⟨m,⟨o,_,_,ho,_⟩,_⟩:=I.loc
  exact free _ o (λz=>(hch _ z).2.1 rfl) ho I.free
 ·obtain⟨v,o,ho,hd⟩:=I.cell x c e
  exact free c o (λz=>(hch c z).2.2.1 x c e rfl) ho (I.freeC x c e)
 ·obtain⟨e,n,ne,nf,d⟩:=I.pin p hp
  have nch:p.1∉ch:=λz=>(hch p.1 z).2.2.2 p hp rfl
  exact⟨keep p.1 p.2 ne nf nch e n,free p.1 p.2 nch e n,ne,nf,d⟩
theorem Inv.un {t':Nat}(I:Inv X ae σ H s)(u:Un X.fs [] H H' s.heap h')(hok:HOk X.prog X.w H' h'):Inv X ae σ H' {s with heap:=h',toks:=t'}:=by
 obtain⟨m,⟨o,es,ep,ho,r⟩,_⟩:=id I.loc
 obtain⟨sl,hL⟩:=u.any ho I.free (by simp)
 exact I.step (g':=s.gens) (d':=s.drawn) (ch:=[]) (λ_ z=>nomatch z) (λb o _ hb _ e n=>u.keep b o e n hb (by simp)) (λb o _ hb _ e n=>u.slot b o e n hb (by simp)) (λb o _ e n=>u.free b o e n (by simp)) (λb o _ e=>u.there b o e (by simp)) u.tups u.frzs u.tbls (λm' hm=>by
  obtain⟨o',es',ep',ho',r'⟩:=hm
  rw[ho] at ho';cases ho';exact⟨_,es',ep',hL,r'⟩) hok I.bare
theorem Inv.call {g':Array GenState}{t':Nat}{d':Drawn}{ch:List Addr}(I:Inv X ae σ H s)(u:Un (gj X.stack) ch H H' s.heap h')(hok:HOk X.prog X.w H' h')(hg:AllBare g')
 (hch: ∀b∈ch,(b∈X.ex\/X.s₀.heap.objs.size<=b)/\b≠X.env.locals/\(∀x c,X.env.cells.lookup x=some c->c≠b)/\ ∀p∈X.pn++ae,p.1≠b):
 Inv X ae σ H' {s with heap:=h',gens:=g',drawn:=d',toks:=t'}:=by
 obtain⟨m,⟨o,es,ep,ho,r⟩,_⟩:=id I.loc
 obtain⟨sl,hL⟩:=u.any ho I.free λz=>(hch _ z).2.1 rfl
 exact I.step (ch:=ch) hch (λb o hL hb hc e n=>u.keep b o e n (λz=>(List.mem_cons.mp (I.stkSub b z)).elim hL hb) hc) (λb o _ _ hc e n=>u.any e n hc) (λb o hc e n=>u.free b o e n hc) (λb o hc e=>u.there b o e hc) u.tups u.frzs u.tbls (λm' hm=>by
  obtain⟨o',es',ep',ho',r'⟩:=hm
  rw[ho] at ho';cases ho';exact⟨_,es',ep',hL,r'⟩) hok hg
theorem Inv.turned {t':Nat}{it:Addr}(I:Inv X ae σ H s)(k: ∀b o,b≠it->s.heap.get? b=some o->h'.get? b=some o)(hn:H it=none)(hL:it≠X.env.locals)
 (h1:it∈X.ex\/X.s₀.heap.objs.size<=it) (h2: ∀x c,X.env.cells.lookup x=some c->c≠it) (h3: ∀p∈X.pn++ae,p.1≠it):Inv X ae σ H {s with heap:=h',toks:=t'}:=by
 have nit: ∀b u,H b=some u->b≠it:=λb u e z=>by rw[z,hn] at e;cases e
 refine I.step (g':=s.gens) (d':=s.drawn) (ch:=[it]) (λb hb=>?_) (λb o _ _ hc e _=>k b o (λz=>hc (by simp[z])) e) (λb o _ _ hc e _=>⟨o.slots,k b o (λz=>hc (by simp[z])) e⟩) (λ_ _ _ _ n=>n)
  (λb o hc e=>⟨o,k b o (λz=>hc (by simp[z])) e⟩) (λ_ _ e=>e) (λ_ _ _ e=>e) (λb ps e=>⟨#[],by rw[e];simp⟩) (λm hm=>?_) (λb u e=>?_) I.bare
 ·have e:b=it:=by simpa using hb
  subst e;exact⟨h1,hL,h2,h3⟩
 ·obtain⟨o,es,ep,ho,r⟩:=hm
  exact⟨o,es,ep,k _ o (Ne.symm hL) ho,r⟩
 ·refine(I.hok b u e).stay (λc v hc q=>k c v ?_ q) (λ_ q=>q) λ_ _ q=>q
  rcases hc with z|z
  ·rw[z];exact nit b u e
  ·exact nit c _ z
theorem Inv.tok(I:Inv X ae σ H s)(t:Nat):Inv X ae σ H {s with toks:=t}:=I.un (h':=s.heap) (t':=t) Un.refl I.hok
theorem Inv.kept {t':Nat}(I:Inv X ae σ H s)(k: ∀b u,s.heap.get? b=some u->h'.get? b=some u):Inv X ae σ H {s with heap:=h',toks:=t'}:=I.un (Un.kept k) (I.hok.kept k)
theorem Inv.laid {a:Addr}{o:HO}{t':Nat}(I:Inv X ae σ H s)(k: ∀b u,s.heap.get? b=some u->h'.get? b=some u)(hp:s.heap.objs.size<=a)(new:ObjOk X.prog X.w (bf H a o) h' a o):
 Inv X ae σ (bf H a o) {s with heap:=h',toks:=t'}:=I.un (Un.laid k hp (I.hok.fresh hp)) (I.hok.laid k hp new)
theorem Inv.write {x e:Addr}{o:HO}{t':Nat}(I:Inv X ae σ H s)(mu:zl (H x))(he:e=x\/H e=some (.own x))(k: ∀b u,b≠e->s.heap.get? b=some u->h'.get? b=some u)(heo: ∃u,h'.get? e=some u)
 (new:ObjOk X.prog X.w (bf H x o) h' x o):Inv X ae σ (bf H x o) {s with heap:=h',toks:=t'}:=I.un (Un.write mu he k heo) (I.hok.write mu he k heo new)
theorem Inv.pins_of {pins':List (Addr×Obj)}(I:Inv X ae σ H s)(h: ∀p∈pins',s.heap.get? p.1=some p.2/\H p.1=none/\p.1≠X.env.locals/\p.1∉X.fs/\ ∀v,p.2.data≠ .cell v):Inv X pins' σ H s:=
 ⟨I.ok,I.os,I.bare,I.base,I.loc,I.cell,I.free,I.freeC,λp hp=>(List.mem_append.mp hp).elim (λz=>I.pin p (List.mem_append_left _ z)) (h p),I.hok,I.len⟩
theorem nH {N:List Str}(hN:N.Nodup){i j:Nat}{x:Str}(a:N[i]? =some x)(b:N[j]? =some x):i=j:=by
 obtain⟨h1,e1⟩:=List.getElem?_eq_some_iff.mp a
 obtain⟨h2,e2⟩:=List.getElem?_eq_some_iff.mp b
 exact(List.getElem_inj hN).mp (e1.trans e2.symm)
theorem ly {M:Model}{A:Around}{E:Value->Shared->Prop}{i:Nat}{x:Str}{v:V}{u:Value}{Q:Unit->Shared->Prop}(I:Inv X ae σ H s)(hN:X.N.Nodup)(hi:X.N[i]? =some x)(hx:sJ X.env.scope x)(r:RelV v u)
 (h: ∀s',Inv X ae (σ.set i (some v)) H s'->(∃a,Heap.SameBut a s.heap s'.heap/\(a=X.env.locals\/X.env.cells.lookup x=some a))->Q () s') (hf:X.fn x=true\/X.env.scope.names.lookup x=some .local:=by first|exact .inl rfl|exact .inr rfl|assumption):wpAny M A (storeName X.env x u) Q E s:=by
 obtain⟨m,hn,hl⟩:=id I.loc
 have hcls:(X.env.scope.kind== .class||(X.env.scope.kind== .module&&X.env.locals !=X.env.globals))=false:=by rw[I.ok.kind];rfl
 have hiσ:i<σ.length:=by rw[I.len];exact(List.getElem?_eq_some_iff.mp hi).1
 have cne:=I.cne
 have tracked: ∀ {a:Addr} {h':Heap},(∃o,s.heap.get? a=some o/\H a=none)->Heap.SameBut a s.heap h'->HOk X.prog X.w H h':=λ{a h'} ha hs b ob e=>by
  obtain⟨_,_,hfree⟩:=ha
  refine(I.hok b ob e).stay (λc w' hc q=>(hs.2 c ?_).trans q) (λ_ q=>q) λ_ _ q=>q
  rintro rfl
  rcases hc with rfl|hc
  ·rw[hfree] at e;cases e
  ·rw[hfree] at hc;cases hc
 rcases hx with hk|hk
 ·refine wpAny_storeName_local hk hn (λh' hn' hs=>?_) hcls
  obtain⟨oL,_,_,hoL,_⟩:=id hn
  refine h _ ⟨I.ok,I.os,I.bare,⟨λb o e n hb hx=>?_,λb o e n hb hx=>?_,I.base.free,λb o e hx=>?_,I.base.tups,I.base.frzs,I.base.tbls⟩,⟨_,hn',λj y v' e1 e2 e3=>?_⟩,λy c e=>?_,I.free,I.freeC,λp hp=>?_,tracked ⟨oL,hoL,I.free⟩ hs,by simpa using I.len⟩ ⟨_,hs,.inl rfl⟩
  ·exact(hs.2 b (Nat.ne_of_lt (Nat.lt_of_lt_of_le (Heap.lt_size e) I.ok.above))).trans (I.base.keep b o e n hb hx)
  ·obtain⟨sl,e1⟩:=I.base.slot b o e n hb hx
   exact⟨sl,(hs.2 b (Nat.ne_of_lt (Nat.lt_of_lt_of_le (Heap.lt_size e) I.ok.above))).trans e1⟩
  ·obtain⟨o',e1⟩:=I.base.there b o e hx
   exact⟨o',(hs.2 b (Nat.ne_of_lt (Nat.lt_of_lt_of_le (Heap.lt_size e) I.ok.above))).trans e1⟩
  ·by_cases hj:j=i
   ·subst hj
    rw[hi] at e1;cases e1;rw[List.getElem?_set_self hiσ] at e2;cases e2
    exact⟨u,r,.inl ⟨hk,by simp⟩⟩
   ·rw[List.getElem?_set_ne (Ne.symm hj)] at e2
    obtain⟨u',r',q⟩:=hl j y v' e1 e2 e3
    refine⟨u',r',?_⟩
    rcases q with⟨k,e⟩|⟨k,c,e,z⟩
    ·refine .inl ⟨k,?_⟩
     have:y≠x:=λe=>hj (nH hN e1 (e▸hi))
     simp[this,e]
    ·exact .inr ⟨k,c,e,z.sameBut hs (cne y c e)⟩
  ·obtain⟨w',z⟩:=I.cell y c e
   exact⟨w',z.sameBut hs (cne y c e)⟩
  ·obtain⟨e,n,ne,nf,d⟩:=I.pin p hp
   exact⟨(hs.2 p.1 ne).trans e,n,ne,nf,d⟩
 ·have hfn:X.fn x=true:=by
   rcases hf with z|z
   ·exact z
   ·rw[z] at hk;cases hk
  obtain⟨c,hc⟩:=I.ok.has x (.inl hk)
  obtain⟨w',z⟩:=I.cell x c hc
  refine wpAny_storeName_cell I.ok.kind hk hc z (λh' hc' hs=>?_)
  obtain⟨oc,hoc,hocd⟩:=id z
  refine h {s with heap:=h'} ⟨I.ok,I.os,I.bare,⟨λb o e n hb hx=>?_,λb o e n hb hx=>?_,I.base.free,λb o e hx=>?_,I.base.tups,I.base.frzs,I.base.tbls⟩,⟨m,hn.sameBut hs (Ne.symm (cne x c hc)),λj y v' e1 e2 e3=>?_⟩,λy c' e=>?_,I.free,I.freeC,λp hp=>?_,tracked ⟨oc,hoc,I.freeC x c hc⟩ hs,by simpa using I.len⟩ ⟨c,hs,.inr hc⟩
  ·exact(hs.2 b (Nat.ne_of_lt (Nat.lt_of_lt_of_le (Heap.lt_size e) (I.ok.cab x c hfn hc)))).trans (I.base.keep b o e n hb hx)
  ·obtain⟨sl,e1⟩:=I.base.slot b o e n hb hx
   exact⟨sl,(hs.2 b (Nat.ne_of_lt (Nat.lt_of_lt_of_le (Heap.lt_size e) (I.ok.cab x c hfn hc)))).trans e1⟩
  ·obtain⟨o',e1⟩:=I.base.there b o e hx
   exact⟨o',(hs.2 b (Nat.ne_of_lt (Nat.lt_of_lt_of_le (Heap.lt_size e) (I.ok.cab x c hfn hc)))).trans e1⟩
  ·by_cases hj:j=i
   ·subst hj
    rw[hi] at e1;cases e1;rw[List.getElem?_set_self hiσ] at e2;cases e2
    exact⟨u,r,.inr ⟨.inl hk,c,hc,hc'⟩⟩
   ·rw[List.getElem?_set_ne (Ne.symm hj)] at e2
    obtain⟨u',r',q⟩:=hl j y v' e1 e2 e3
    refine⟨u',r',?_⟩
    rcases q with q|⟨k,c',e,z'⟩
    ·exact .inl q
    ·refine .inr ⟨k,c',e,z'.sameBut hs ?_⟩
     rintro rfl
     exact hj (nH hN e1 (I.ok.inj _ _ _ e hc▸hi))
  ·by_cases hcc:c'=c
   ·subst hcc;exact⟨_,hc'⟩
   ·obtain⟨w2,z2⟩:=I.cell y c' e
    exact⟨w2,z2.sameBut hs hcc⟩
  ·obtain⟨e,n,ne,nf,d⟩:=I.pin p hp
   refine⟨(hs.2 p.1 ?_).trans e,n,ne,nf,d⟩
   intro q;rw[q,hoc] at e;have q':oc=p.2:=Option.some.inj e
   exact d w' (by rw[<-q'];exact hocd)
theorem gu {M:Model}{A:Around}{E:Value->Shared->Prop}{i:Nat}{x:Str}{v:V}{u:Value}{Q:Unit->Shared->Prop}(I:Inv X ae σ H s)(hN:X.N.Nodup)(hi:X.N[i]? =some x)(hx:sJ X.env.scope x)(r:RelV v u)
 (h: ∀s',Inv X ae (σ.set i (some v)) H s'->Q () s') (hf:X.fn x=true\/X.env.scope.names.lookup x=some .local:=by first|exact .inl rfl|exact .inr rfl|assumption):wpAny M A (storeName X.env x u) Q E s:=
 ly I hN hi hx r (λs' I' _=>h s' I') hf
theorem Inv.call' {s':Shared}{ch:List Addr}(I:Inv X ae σ H s)(ho:s'.os=s.os)(u:Un (gj X.stack) ch H H' s.heap s'.heap)(hok:HOk X.prog X.w H' s'.heap)(hg:AllBare s'.gens)
 (hch: ∀b∈ch,(b∈X.ex\/X.s₀.heap.objs.size<=b)/\b≠X.env.locals/\(∀x c,X.env.cells.lookup x=some c->c≠b)/\ ∀p∈X.pn++ae,p.1≠b):Inv X ae σ H' s':=by
 obtain⟨h',g',d',t',o'⟩:=s'
 have e:o'=s.os:=ho
 subst e;exact I.call (g':=g') (t':=t') (d':=d') u hok hg hch
end
abbrev XK:=Value->Option Addr->Hp->Prop
abbrev St:=List (Option V)
abbrev VK:=V->Hp->Prop
abbrev TE:=St->Hp->VK->Prop
abbrev TT:=St->Hp->(Bool->Hp->Prop)->Prop
abbrev TA:=St->Hp->(List V->Hp->Prop)->Prop
structure Ends where
 nx:St->Hp->Prop
 rt:VK
 bk:St->Hp->Prop:=λ_ _=>False
 ct:St->Hp->Prop:=λ_ _=>False
abbrev TS:=Ends->St->Hp->Prop
def EP(X:Cx)(ae:List (Addr×Obj))(σ:St)(Q:VK)(u:Value)(s':Shared):Prop:= ∃v H',Inv X ae σ H' s'/\RelV v u/\Q v H'
def TP(X:Cx)(ae:List (Addr×Obj))(σ:St)(Q:Bool->Hp->Prop)(b:Bool)(s':Shared):Prop:= ∃H',Inv X ae σ H' s'/\Q b H'
def AP(X:Cx)(ae:List (Addr×Obj))(σ:St)(Q:List V->Hp->Prop)(us:List Value)(s':Shared):Prop:= ∃vs H',Inv X ae σ H' s'/\Vals vs us/\Q vs H'
def SP(X:Cx)(ae:List (Addr×Obj))(D:Ends)(f:Flow)(s':Shared):Prop:=
 match f with
 | .next=> ∃σ' H',Inv X ae σ' H' s'/\D.nx σ' H'
 | .brk=> ∃σ' H',Inv X ae σ' H' s'/\D.bk σ' H'
 | .cont=> ∃σ' H',Inv X ae σ' H' s'/\D.ct σ' H'
 | .ret u=> ∃v σ' H',Inv X ae σ' H' s'/\RelV v u/\D.rt v H'
def PE(X:Cx)(e:Expr)(t:TE):Prop:=
 ∀(ae:List (Addr×Obj)) (s:Shared) (σ:St) (H:Hp) (Q:VK),Inv X ae σ H s->t σ H Q->wpAny (model X.prog X.w) X.A (eval e X.env) (EP X ae σ Q) X.xe s
def PT(X:Cx)(e:Expr)(t:TT):Prop:=
 ∀(ae:List (Addr×Obj)) (s:Shared) (σ:St) (H:Hp) (Q:Bool->Hp->Prop),Inv X ae σ H s->t σ H Q->wpAny (model X.prog X.w) X.A (isTrue e X.env (eval e X.env)) (TP X ae σ Q) X.xe s
def PW(X:Cx)(e:Expr)(t:TT):Prop:=
 ∀(whole:Sem Value) (ae:List (Addr×Obj)) (s:Shared) (σ:St) (H:Hp) (Q:Bool->Hp->Prop),Inv X ae σ H s->t σ H Q->wpAny (model X.prog X.w) X.A (isTrue e X.env whole) (TP X ae σ Q) X.xe s
theorem PW.pt {X:Cx}{e:Expr}{t:TT}(h:PW X e t):PT X e t:=h _
def PA(X:Cx)(es:List Expr)(t:TA):Prop:=
 ∀(pos:Pos) (ae:List (Addr×Obj)) (s:Shared) (σ:St) (H:Hp) (Q:List V->Hp->Prop),Inv X ae σ H s->t σ H Q->wpAny (model X.prog X.w) X.A (spliced (backTo pos (starEach es X.env))) (AP X ae σ Q) X.xe s
def PS(X:Cx)(st:Stmt)(t:TS):Prop:=
 ∀(ae:List (Addr×Obj)) (s:Shared) (σ:St) (H:Hp) (D:Ends),Inv X ae σ H s->t D σ H->wpAny (model X.prog X.w) X.A (exec st X.env) (SP X ae D) X.xe s
def PSs(X:Cx)(st:List Stmt)(t:TS):Prop:=
 ∀(ae:List (Addr×Obj)) (s:Shared) (σ:St) (H:Hp) (D:Ends),Inv X ae σ H s->t D σ H->wpAny (model X.prog X.w) X.A (execs st X.env) (SP X ae D) X.xe s
theorem cv {α:Type}{t:Sem α}{Q Q':α->Shared->Prop}{M:Model}{A:Around}{E:Value->Shared->Prop}{s:Shared}(h:wpAny M A t Q E s)(hQ: ∀a s,Q a s->Q' a s):wpAny M A t Q' E s:=wpAny_mono h hQ λ_ _ x=>x
section
variable {X:Cx}
def Av(i:Nat):TE:=λσ H Q=> ∃v,σ[i]? =some (some v)/\Q v H
def tC(v:V):TE:=λ_ H Q=>Q v H
theorem zm {i:Nat}{x:Str}{pos:Pos}(hN:X.N[i]? =some x)(hv:m5 X.env.scope x)(hd:(x==("__debug__":Str))=false:=by decide)(hcd:(x==("__classdict__":Str))=false:=by decide):PE X (.Name x pos) (Av i):=by
 intro ae s σ H Q I h;obtain⟨v,e,h⟩:=h
 obtain⟨m,hn,hl⟩:=I.loc
 obtain⟨u,r,l⟩:=hl i x v hN e hv
 have fin:EP X ae σ Q u s:=⟨v,H,I,r,h⟩
 rcases l with⟨hk,hm⟩|⟨hk,c,hc,hcell⟩
 ·exact wpAny_Name (wpAny_loadName_local I.ok.kind hk hn hm fin) hd
 ·rcases hk with hk|hk
  ·exact wpAny_Name (wpAny_loadName_cell I.ok.kind hk hc hcell fin) hd
  ·exact wpAny_Name (wpAny_loadName_free I.ok.kind hk hc hcell fin hcd) hd
theorem zg {i j pos}:PE X (.Constant (.int i) j pos) (tC (.int i)):=λ_ _ _ H _ I h=>wpAny_Constant_int ⟨.int i,H,I.tok _,⟨_,rfl⟩,h⟩
theorem z0 {b j pos}:PE X (.Constant (.bool b) j pos) (tC (.bl b)):=λ_ _ _ H _ I h=>Constant_bool ⟨.bl b,H,I,rfl,h⟩
theorem yi {j pos}:PE X (.Constant .none j pos) (tC .non):=λ_ _ _ H _ I h=>Constant_none ⟨.non,H,I,rfl,h⟩
theorem xO {x j pos}:PE X (.Constant (.str x) j pos) (tC (.str x)):=λ_ _ _ H _ I h=>Calls.Constant_str ⟨.str x,H,I.tok _,⟨_,rfl⟩,h⟩
def Gl(X:Cx)(x:Str):Prop:=X.env.kindOf x=some .globalImplicit
theorem gQ {E:Value->Shared->Prop}{ae:List (Addr×Obj)}{s:Shared}{σ:St}{H:Hp}{x:Str}{u:Value}{pos:Pos}{Q:Value->Shared->Prop}(I:Inv X ae σ H s)(hg:Gl X x)(hm:X.mg x=some u)(h:Q u s)
 (hd:(x==("__debug__":Str))=false:=by decide):wpAny (model X.prog X.w) X.A (eval (.Name x pos) X.env) Q E s:=
 Calls.Name_function_global I.ok.kind hg (Calls.loadGlobal_global (by rw[I.ok.glob];exact I.mod.glob.keeps I.bk) hm h) hd
theorem ke {E:Value->Shared->Prop}{ae:List (Addr×Obj)}{s:Shared}{σ:St}{H:Hp}{x:Str}{u:Value}{pos:Pos}{Q:Value->Shared->Prop}(I:Inv X ae σ H s)(hg:Gl X x)(hm:X.mg x=none)(hv:bootBuiltins x=some u)(h:Q u s)
 (hn:x≠"__name__":=by decide) (hd:(x==("__debug__":Str))=false:=by decide):wpAny (model X.prog X.w) X.A (eval (.Name x pos) X.env) Q E s:=by
 obtain⟨mb,h1,h2⟩:=I.mod.blt
 exact Calls.Name_function_global I.ok.kind hg (Calls.loadGlobal_builtin (by rw[I.ok.glob];exact I.mod.glob.keeps I.bk) hm (by rw[I.ok.blt];exact h1.keeps I.bk) ((h2 x hn).trans hv) h) hd
theorem mh {x:Str}{v:V}{u:Value}{pos:Pos}(hg:Gl X x)(hm:X.mg x=some u)(r:RelV v u)(hd:(x==("__debug__":Str))=false:=by decide):PE X (.Name x pos) (tC v):=
 λ_ _ _ H _ I h=>gQ I hg hm ⟨v,H,I,r,h⟩ hd
theorem wY {x:Str}{v:V}{u:Value}{pos:Pos}(hg:Gl X x)(hm:X.mg x=none)(hv:bootBuiltins x=some u)(r:RelV v u)(hn:x≠"__name__":=by decide)(hd:(x==("__debug__":Str))=false:=by decide):PE X (.Name x pos) (tC v):=
 λ_ _ _ H _ I h=>ke I hg hm hv ⟨v,H,I,r,h⟩ hn hd
variable {a b:Expr}{ta tb:TE}{pos:Pos}
theorem RelV.none_iff {x:V}{v:Value}(r:RelV x v):(v==Value.none)=decide (x=.non):=by
 cases x with
 |non=>cases r;rfl
 |bl _=>cases r;rfl
 |int _=>obtain⟨t,rfl⟩:=r;rfl
 |str _=>obtain⟨t,rfl⟩:=r;rfl
 |byt _=>obtain⟨t,rfl⟩:=r;rfl
 |flt _=>obtain⟨t,rfl⟩:=r;rfl
 |ref _=>cases r;rfl
 |ty _=>cases r;rfl
variable {tA tB':TT}{rest:List Expr}
def A9(t u:TT):TT:=λσ H Q=>t σ H λc H1=>if c=true then u σ H1 Q else Q false H1
def Co(t u:TT):TT:=λσ H Q=>t σ H λc H1=>if c=true then Q true H1 else u σ H1 Q
def BG(t:TT):TT:=λσ H Q=>t σ H λc H1=>Q (!c) H1
theorem pw_and1(ha:PT X a tA):PW X (.BoolOp .And [a] pos) tA:=by
 intro wh ae s σ H Q I h;refine isTrue_and (cv (ha ae s σ H Q I h) λc s1 e=>?_)
 cases c with
 |true=>exact isTrue_and_nil e
 |false=>exact e
theorem pw_or1(ha:PT X a tA):PW X (.BoolOp .Or [a] pos) tA:=by
 intro wh ae s σ H Q I h;refine isTrue_or (cv (ha ae s σ H Q I h) λc s1 e=>?_)
 cases c with
 |false=>exact isTrue_or_nil e
 |true=>exact e
theorem pw_and(ha:PT X a tA)(hb:PW X (.BoolOp .And (b::rest) pos) tB'):PW X (.BoolOp .And (a::b::rest) pos) (A9 tA tB'):=by
 intro wh ae s σ H Q I h;refine isTrue_and (cv (ha ae s σ H _ I h) λc s1 hq_=>?_)
 obtain⟨H1,I1,q1⟩:=hq_
 cases c with
 |true=>exact hb wh ae s1 σ H1 Q I1 q1
 |false=>exact⟨H1,I1,q1⟩
theorem pw_or(ha:PT X a tA)(hb:PW X (.BoolOp .Or (b::rest) pos) tB'):PW X (.BoolOp .Or (a::b::rest) pos) (Co tA tB'):=by
 intro wh ae s σ H Q I h;refine isTrue_or (cv (ha ae s σ H _ I h) λc s1 hq_=>?_)
 obtain⟨H1,I1,q1⟩:=hq_
 cases c with
 |true=>exact⟨H1,I1,q1⟩
 |false=>exact hb wh ae s1 σ H1 Q I1 q1
theorem yC(ha:PT X a tA):PT X (.UnaryOp .Not a pos) (BG tA):=by
 intro ae s σ H Q I h;exact isTrue_not (ha ae s σ H (λc H1=>Q (!c) H1) I h)
def Ak(ta tb:TE):TE:=λσ H Q=>ta σ H λx H1=> ∃c,x=.bl c/\if c=true then tb σ H1 Q else Q (.bl false) H1
def Bp(ta tb:TE):TE:=λσ H Q=>ta σ H λx H1=> ∃c,x=.bl c/\if c=true then Q (.bl true) H1 else tb σ H1 Q
def zP(ta:TE):TE:=λσ H Q=>ta σ H λx H1=> ∃c,x=.bl c/\Q (.bl (!c)) H1
theorem y9 {op}{t:TE}(h:PE X a t):PE X (.BoolOp op [a] pos) t:=λae s σ H Q I hw=>BoolOp_one (h ae s σ H Q I hw)
theorem xU(ha:PE X a ta)(hb:PE X (.BoolOp .And (b::rest) pos) tb):PE X (.BoolOp .And (a::b::rest) pos) (Ak ta tb):=by
 intro ae s σ H Q I h;refine BoolOp_and (cv (ha ae s σ H _ I h) λv s1 hq_=>?_)
 obtain⟨x,H1,I1,r1,q1⟩:=hq_
 obtain⟨c,rfl,q1⟩:=q1
 cases r1
 refine wpAny_truthy_bool ?_
 cases c with
 |true=>exact hb ae s1 σ H1 Q I1 q1
 |false=>exact⟨.bl false,H1,I1,rfl,q1⟩
theorem Aa(ha:PE X a ta)(hb:PE X (.BoolOp .Or (b::rest) pos) tb):PE X (.BoolOp .Or (a::b::rest) pos) (Bp ta tb):=by
 intro ae s σ H Q I h;refine BoolOp_or (cv (ha ae s σ H _ I h) λv s1 hq_=>?_)
 obtain⟨x,H1,I1,r1,q1⟩:=hq_
 obtain⟨c,rfl,q1⟩:=q1
 cases r1
 refine wpAny_truthy_bool ?_
 cases c with
 |false=>exact hb ae s1 σ H1 Q I1 q1
 |true=>exact⟨.bl true,H1,I1,rfl,q1⟩
theorem yL(ha:PE X a ta):PE X (.UnaryOp .Not a pos) (zP ta):=by
 intro ae s σ H Q I h;refine UnaryOp_ (cv (ha ae s σ H _ I h) λv s1 hq_=>?_)
 obtain⟨x,H1,I1,r1,q1⟩:=hq_
 obtain⟨c,rfl,q1⟩:=q1
 cases r1
 exact not_of (wpAny_truthy_bool ⟨.bl (!c),H1,I1,rfl,q1⟩)
def CB(t:TT)(ta tb:TE):TE:=λσ H Q=>t σ H λc H1=>if c=true then ta σ H1 Q else tb σ H1 Q
theorem uZ {c:Expr}(hc:PT X c tA)(ha:PE X a ta)(hb:PE X b tb):PE X (.IfExp c a b pos) (CB tA ta tb):=by
 intro ae s σ H Q I h;refine wpAny_IfExp (cv (hc ae s σ H _ I h) λd s1 hq_=>?_)
 obtain⟨H1,I1,q1⟩:=hq_
 cases d with
 |true=>exact ha ae s1 σ H1 Q I1 q1
 |false=>exact hb ae s1 σ H1 Q I1 q1
end
def SqL(K:W.Frag)(H:Hp)(a:Addr)(xs:List V):Prop:=
 Rd H a (.lst xs)\/
  ∃(o:Obj) (its:Array Value) (n:Nat),K.lookup a=some o/\o.cls=.type "list"/\o.dict=none/\o.data=.seq its n/\its.size<=sizeLine/\Vals xs its.toList
def SqT(K:W.Frag)(H:Hp)(a:Addr)(xs:List V):Prop:=
 Rd H a (.tup xs)\/
  ∃(o:Obj) (its:Array Value) (n:Nat),K.lookup a=some o/\o.cls=.type "tuple"/\o.data=.seq its n/\its.size<=sizeLine/\Vals xs its.toList/\o.dict=none
def BW:Value->Option V
 | .none=>some .non
 | .bool b=>some (.bl b)
 | .int i _=>some (.int i)
 | .str x _=>some (.str x)
 | .bytes b _=>some (.byt b)
 | .float b _=>some (.flt b)
 | .ref a=>some (.ref a)
 | .type n=>some (.ty n)
 |_=>none
theorem RelV.abs {x:V}{u:Value}(r:RelV x u):BW u=some x:=by
 cases x with
 |non=>cases r;rfl
 |bl _=>cases r;rfl
 |int _=>obtain⟨t,rfl⟩:=r;rfl
 |str _=>obtain⟨t,rfl⟩:=r;rfl
 |byt _=>obtain⟨t,rfl⟩:=r;rfl
 |flt _=>obtain⟨t,rfl⟩:=r;rfl
 |ref _=>cases r;rfl
 |ty _=>cases r;rfl
theorem RelV.inj {x y:V}{u:Value}(r:RelV x u)(q:RelV y u):x=y:=Option.some.inj (r.abs.symm.trans q.abs)
theorem Vals.inj: ∀ {xs ys:List V} {us:List Value},Vals xs us->Vals ys us->xs=ys
 |_,_,_,.nil,.nil=>rfl
 |_,_,_,.cons r t,.cons r' t'=>by rw[r.inj r',Vals.inj t t']
section
variable {X:Cx}{ae:List (Addr×Obj)}{σ:St}{H:Hp}{s:Shared}{a:Addr}{xs ys:List V}
theorem SqL.of {K:W.Frag}(h:H a=some (.lst xs)):SqL K H a xs:=.inl (.inl h)
theorem SqT.of {K:W.Frag}(h:H a=some (.tup xs)):SqT K H a xs:=.inl (.inl h)
theorem Inv.list(I:Inv X ae σ H s)(h:SqL X.K H a xs): ∃its:List Value,Vals xs its/\PlainL s.heap a its.toArray/\xs.length<=sizeLine:=by
 rcases h with h|⟨o,its,n,hk,hc,hd,hs,hz,r⟩
 ·obtain⟨z,its,n,r,e⟩:=h.ok I.hok
  exact⟨its,r,⟨_,n,e,rfl,rfl,rfl⟩,z⟩
 ·refine⟨its.toList,r,⟨o,n,I.kIn a o hk,hc,hd,by simpa using hs⟩,?_⟩
  have e:=r.length
  simp only[Array.length_toList] at e;omega
theorem Inv.tuple(I:Inv X ae σ H s)(h:SqT X.K H a xs): ∃its:List Value,Vals xs its/\IsTup s.heap a its.toArray/\xs.length<=sizeLine:=by
 rcases h with h|⟨o,its,n,hk,hc,hs,hz,r,_⟩
 ·obtain⟨z,its,r,p,_⟩:=h.ok I.hok
  exact⟨its,r,p,z⟩
 ·refine⟨its.toList,r,⟨o,I.kIn a o hk,hc,n,by simpa using hs⟩,?_⟩
  have e:=r.length
  simp only[Array.length_toList] at e;omega
theorem Inv.tupleN(I:Inv X ae σ H s)(h:SqT X.K H a xs):(∃o,s.heap.get? a=some o/\o.cls=.type "tuple")/\ ∃o,s.heap.get? a=some o/\o.dict=none:=by
 rcases h with h|⟨o,its,n,hk,hc,hs,hz,r,hd⟩
 ·obtain⟨z,its,r,⟨ob,e,c,_⟩,o2,e2,d2⟩:=h.ok I.hok
  exact⟨⟨ob,e,c⟩,o2,e2,d2⟩
 ·exact⟨⟨o,I.kIn a o hk,hc⟩,o,I.kIn a o hk,hd⟩
theorem Inv.list_inj(I:Inv X ae σ H s)(h:SqL X.K H a xs)(h':SqL X.K H a ys):xs=ys:=by
 obtain⟨its,r,⟨o,n,e,_,_,d⟩,_⟩:=I.list h
 obtain⟨its',r',⟨o',n',e',_,_,d'⟩,_⟩:=I.list h'
 rw[e] at e';cases e';rw[d] at d';injection d' with d1 _
 have:its=its':=by simpa using congrArg Array.toList d1
 subst this;exact r.inj r'
theorem Inv.tuple_inj(I:Inv X ae σ H s)(h:SqT X.K H a xs)(h':SqT X.K H a ys):xs=ys:=by
 obtain⟨its,r,⟨o,e,_,n,d⟩,_⟩:=I.tuple h
 obtain⟨its',r',⟨o',e',_,n',d'⟩,_⟩:=I.tuple h'
 rw[e] at e';cases e';rw[d] at d';injection d' with d1 _
 have:its=its':=by simpa using congrArg Array.toList d1
 subst this;exact r.inj r'
end
abbrev Cx.wish(X:Cx)(E:Value->Shared->Prop):Cx:={X with xe:=E}
abbrev Cx.nox(X:Cx):Cx:=X.wish λ_ _=>False
theorem Cx.Ok.wish {X:Cx}(ok:X.Ok)(E:Value->Shared->Prop):(X.wish E).Ok:=
 ⟨ok.mod,ok.kind,ok.glob,ok.blt,ok.above,ok.inj,ok.has,ok.cab,ok.hd,ok.frames,ok.stk,ok.exf,ok.bs,ok.bsz,ok.noex,ok.exfs,ok.funs,ok.frf⟩
theorem Cx.Ok.unwish {X:Cx}{E:Value->Shared->Prop}(ok:(X.wish E).Ok):X.Ok:=
 ⟨ok.mod,ok.kind,ok.glob,ok.blt,ok.above,ok.inj,ok.has,ok.cab,ok.hd,ok.frames,ok.stk,ok.exf,ok.bs,ok.bsz,ok.noex,ok.exfs,ok.funs,ok.frf⟩
section
variable {X:Cx}{ae:List (Addr×Obj)}{σ:St}{H:Hp}{s:Shared}{E:Value->Shared->Prop}
theorem Inv.wish(I:Inv X ae σ H s)(E:Value->Shared->Prop):Inv (X.wish E) ae σ H s:=⟨I.ok.wish E,I.os,I.bare,I.base,I.loc,I.cell,I.free,I.freeC,I.pin,I.hok,I.len⟩
theorem Inv.unwish(I:Inv (X.wish E) ae σ H s):Inv X ae σ H s:=⟨I.ok.unwish,I.os,I.bare,I.base,I.loc,I.cell,I.free,I.freeC,I.pin,I.hok,I.len⟩
theorem SP.unwish {D:Ends}{f:Flow}{s':Shared}(h:SP (X.wish E) ae D f s'):SP X ae D f s':=by
 cases f with
 |next=>obtain⟨σ',H',I,q⟩:=h;exact⟨σ',H',I.unwish,q⟩
 |brk=>obtain⟨σ',H',I,q⟩:=h;exact⟨σ',H',I.unwish,q⟩
 |cont=>obtain⟨σ',H',I,q⟩:=h;exact⟨σ',H',I.unwish,q⟩
 |ret u=>obtain⟨v,σ',H',I,r,q⟩:=h;exact⟨v,σ',H',I.unwish,r,q⟩
theorem PT.nox {e:Expr}{t:TT}(h:PT X.nox e t):PT X e t:=λae s σ H Q I hw=>
 wpAny_mono (h ae s σ H Q (I.wish _) hw) (λ_ _ ⟨H',I',q⟩=>⟨H',I'.unwish,q⟩) λ_ _ z=>False.elim z
theorem PSs.nox {st:List Stmt}{t:TS}(h:PSs X.nox st t):PSs X st t:=λae s σ H D I hw=>
 wpAny_mono (h ae s σ H D (I.wish _) hw) (λ_ _ q=>q.unwish) λ_ _ z=>False.elim z
end
section
variable {X:Cx}{st:Stmt}{rest:List Stmt}{t u:TS}{e:Expr}{te:TE}{pos:Pos}
def Az:TS:=λD σ H=>D.nx σ H
def Bv(t u:TS):TS:=λD σ H=>t {D with nx:=u D} σ H
theorem qz:PSs X [] Az:=λ_ _ σ H _ I h=>wpAny_execs_nil ⟨σ,H,I,h⟩
theorem nk(h1:PS X st t)(h2:PSs X rest u):PSs X (st::rest) (Bv t u):=by
 intro ae s σ H D I h;refine wpAny_execs_cons (cv (h1 ae s σ H {D with nx:=u D} I h) λf s1 q=>?_)
 cases f with
 |next=>
  obtain⟨σ',H',I',q⟩:=q
  exact h2 ae s1 σ' H' D I' q
 |ret v=>exact q
 |brk=>exact q
 |cont=>exact q
theorem qx(h1:PS X st t):PSs X [st] t:=by
 intro ae s σ H D I h;refine wpAny_execs_cons (cv (h1 ae s σ H D I h) λf s1 q=>?_)
 cases f with
 |next=>exact wpAny_execs_nil q
 |ret v=>exact q
 |brk=>exact q
 |cont=>exact q
theorem Inv.quiet {ae:List (Addr×Obj)}{σ:St}{H:Hp}{s:Shared}(I:Inv X ae σ H s):interactive X.env=false:=by simp[interactive,I.ok.kind]
def zU(te:TE):TS:=λD σ H=>te σ H λ_ H1=>D.nx σ H1
theorem qi(he:PE X e te)(hs:swapsWith e none pos.line X.env=pure false:=by rfl):PS X (.Expr e pos) (zU te):=by
 intro ae s σ H D I h;exact wpAny_Expr_any (cv (he ae s σ H _ I h) λv s1 ⟨x,H1,I1,r1,q1⟩=>⟨σ,H1,I1,q1⟩) I.quiet hs
def Ba(te:TE):TS:=λD σ H=>te σ H D.rt
theorem mD(he:PE X e te):PS X (.Return (some e) pos) (Ba te):=by
 intro ae s σ H D I h;exact wpAny_Return_some (cv (he ae s σ H _ I h) λv s1 ⟨x,H1,I1,r1,q1⟩=>⟨x,σ,H1,I1,r1,q1⟩)
def BJ(c:TT)(t u:TS):TS:=λD σ H=>c σ H λb H1=>if b=true then t D σ H1 else u D σ H1
theorem xE {c:Expr}{a b:List Stmt}{tc:TT}(hc:PT X c tc)(ha:PSs X a t)(hb:PSs X b u):PS X (.If c a b pos) (BJ tc t u):=by
 intro ae s σ H D I h;refine wpAny_If (cv (hc ae s σ H _ I h) λd s1 hq_=>?_)
 obtain⟨H1,I1,q1⟩:=hq_
 cases d with
 |true=>exact ha ae s1 σ H1 D I1 q1
 |false=>exact hb ae s1 σ H1 D I1 q1
end
abbrev TG:=V->St->Hp->(St->Hp->Prop)->Prop
abbrev tT:=List V->St->Hp->(St->Hp->Prop)->Prop
def PG(X:Cx)(target:Expr)(t:TG):Prop:=
 ∀(ae:List (Addr×Obj)) (s:Shared) (σ:St) (H:Hp) (v:V) (u:Value) (Q:St->Hp->Prop),Inv X ae σ H s->RelV v u->t v σ H Q->
  wpAny (model X.prog X.w) X.A (assign target X.env u) (λ_ s'=> ∃σ' H',Inv X ae σ' H' s'/\Q σ' H') X.xe s
def PGs(X:Cx)(ts:List Expr)(t:tT):Prop:=
 ∀(ae:List (Addr×Obj)) (s:Shared) (σ:St) (H:Hp) (vs:List V) (us:List Value) (Q:St->Hp->Prop),Inv X ae σ H s->Vals vs us->t vs σ H Q->
  wpAny (model X.prog X.w) X.A (assignInOrder ((assignEach ts X.env).map (·.2)) us) (λ_ s'=> ∃σ' H',Inv X ae σ' H' s'/\Q σ' H') X.xe s
abbrev tP:=V->V->V->Hp->(Hp->Prop)->Prop
def vX(X:Cx)(t:tP):Prop:=
 ∀(ae:List (Addr×Obj)) (s:Shared) (σ:St) (H:Hp) (o i v:V) (ov iv u:Value) (Q:Hp->Prop),Inv X ae σ H s->RelV o ov->RelV i iv->RelV v u->t o i v H Q->
  wpAny (model X.prog X.w) X.A (setItem ov iv u) (λ_ s'=> ∃H',Inv X ae σ H' s'/\Q H') X.xe s
section
variable {X:Cx}{pos:Pos}
def tt(i:Nat):TG:=λv σ H Q=>Q (σ.set i (some v)) H
theorem qY {i:Nat}{x:Str}(hN:X.N.Nodup)(hi:X.N[i]? =some x)(hx:sJ X.env.scope x)(hf:X.fn x=true\/X.env.scope.names.lookup x=some .local:=by first|exact .inl rfl|exact .inr rfl|assumption):PG X (.Name x pos) (tt i):=by
 intro ae s σ H v u Q I r h;exact wpAny_assign_Name (gu I hN hi hx r (λs' I'=>⟨_,H,I',h⟩) hf)
def BH:tT:=λvs σ H Q=>vs=[]/\Q σ H
def zL(t:TG)(u:tT):tT:=λvs σ H Q=> ∃v r,vs=v::r/\t v σ H λσ' H'=>u r σ' H' Q
theorem qA:PGs X [] BH:=by
 intro ae s σ H vs us Q I r h;obtain⟨e,h⟩:=h
 subst e;cases r
 exact assignInOrder_nil ⟨σ,H,I,h⟩
theorem oB {e:Expr}{es:List Expr}{t:TG}{u:tT}(h1:PG X e t)(h2:PGs X es u)
 (hs:(assignEach (e::es) X.env).map (·.2)=assign e X.env::(assignEach es X.env).map (·.2):=by rfl):PGs X (e::es) (zL t u):=by
 intro ae s σ H vs us Q I r h;obtain⟨v,vr,e1,h⟩:=h
 subst e1;cases r with
 |cons r rr=>
  rw[hs];refine assignInOrder_cons (cv (h1 ae s σ H _ _ _ I r h) λ_ s1 hq_=>?_)
  obtain⟨σ1,H1,I1,q1⟩:=hq_
  exact h2 ae s1 σ1 H1 _ _ Q I1 rr q1
def Bs(K:W.Frag)(n:Nat)(t:tT):TG:=λv σ H Q=> ∃a xs,v=.ref a/\SqT K H a xs/\xs.length=n/\t xs σ H Q
theorem t9 {es:List Expr}{k:Nat}{t:tT}{n:Nat}(hc:X.calm=true)(h:PGs X es t)
 (hn:(assignEach es X.env).length=n:=by rfl) (hst:(assignEach es X.env).findIdx? (·.1)=none:=by rfl):PG X (.Tuple es k pos) (Bs X.K n t):=by
 intro ae s σ H v u Q I r hw;obtain⟨a,xs,e1,hq,hl,hw⟩:=hw
 subst e1;cases r
 obtain⟨its,rv,ht,hz⟩:=I.tuple hq
 refine assign_Tuple_tuple (I.ok.hd hc) ht (by simp[hn,<-hl,rv.length]) hst λh' hx=>?_
 have I1:Inv X ae σ H {s with heap:=h'}:=I.kept (t':=s.toks) λb o e=>hx b o (Nat.ne_of_lt (Heap.lt_size e)) e
 exact h ae _ σ H xs _ Q I1 (by simpa using rv) hw
def BB(to ti:TE)(t:tP):TG:=λv σ H Q=>to σ H λo H1=>ti σ H1 λi H2=>t o i v H2 λH3=>Q σ H3
theorem xN {o i:Expr}{to ti:TE}{t:tP}(ho:PE X o to)(hi:PE X i ti)(hs:vX X t)
 (ha: ∀v,assign (.Subscript o i pos) X.env v=(do
   let ov <-holding [v] (eval o X.env)
   let iv <-holding [v,ov] (eval i X.env)
   standAt pos
   holding [v,ov,iv] (setItem ov iv v)
   release [v,ov,iv] []):=by intro _;rfl):PG X (.Subscript o i pos) (BB to ti t):=by
 intro ae s σ H v u Q I r h;rw[ha];refine wpAny_bind (wpAny_holding (cv (ho ae s σ H _ I h) λov s1 hq_=>?_))
 obtain⟨x,H1,I1,r1,q1⟩:=hq_
 refine wpAny_bind (wpAny_holding (cv (hi ae s1 σ H1 _ I1 q1) λiv s2 hq_=>?_))
 obtain⟨y,H2,I2,r2,q2⟩:=hq_
 refine wpAny_bind (wpAny_standAt (wpAny_bind (wpAny_holding (cv (hs ae s2 σ H2 x y v ov iv u _ I2 r1 r2 r q2) λ_ s3 hq_=>?_))))
 obtain⟨H3,I3,q3⟩:=hq_
 exact wpAny_release ⟨σ,H3,I3,q3⟩
def yA(te:TE)(g:TG):TS:=λD σ H=>te σ H λx H1=>g x σ H1 D.nx
theorem uY {tg e:Expr}{te:TE}{g:TG}(he:PE X e te)(hg:PG X tg g)(hs:swapsWithSole [tg] e pos.line X.env=pure false:=by rfl)(hw:swappedStores [tg] e X.env=pure none:=by rfl)
 (h1:(assignEach [tg] X.env).map (·.2)=[assign tg X.env]:=by rfl):PS X (.Assign [tg] e pos) (yA te g):=by
 intro ae s σ H D I h;refine wpAny_Assign_stores (cv (he ae s σ H _ I h) λv s1 ⟨x,H1,I1,r1,q1⟩=>?_) hs hw
 rw[h1];exact cv (hg ae s1 σ H1 x v _ I1 r1 q1) λ_ s2 q=>q
theorem i7 {i:Nat}{x:Str}{e:Expr}{te:TE}{pos':Pos}(hN:X.N.Nodup)(hi:X.N[i]? =some x)(hx:sJ X.env.scope x)(he:PE X e te)(hs:swapsWith e (some (.Name x pos')) pos.line X.env=pure false:=by rfl)(hf:X.fn x=true\/X.env.scope.names.lookup x=some .local:=by first|exact .inl rfl|exact .inr rfl|assumption):
 PS X (.Assign [.Name x pos'] e pos) (yA te (tt i)):=by
 intro ae s σ H D I h;refine wpAny_Assign_Name (cv (he ae s σ H _ I h) λv s1 ⟨y,H1,I1,r1,q1⟩=>?_) hs
 exact gu I1 hN hi hx r1 (λs2 I2=>⟨_,H1,I2,q1⟩) hf
def Bw(i j:Nat)(ta:TA):TS:=λD σ H=>ta σ H λvs H1=> ∃v w,vs=[v,w]/\D.nx ((σ.set i (some v)).set j (some w)) H1
theorem zA {i j:Nat}{x y:Str}{a b:Expr}{ta:TA}{px py pt:Pos}{kt k2 pt2}(hc:X.calm=true)(hN:X.N.Nodup)(hi:X.N[i]? =some x)(hj:X.N[j]? =some y)(hij:i≠j)
 (hx:X.env.scope.names.lookup x=some .local) (hy:X.env.scope.names.lookup y=some .local) (ha:PA X [a,b] ta)
 (hw:swappedStores [.Tuple [.Name x px,.Name y py] kt pt] (.Tuple [a,b] k2 pt2) X.env=pure (some [x,y]))
 (hs:swapsWithSole [.Tuple [.Name x px,.Name y py] kt pt] (.Tuple [a,b] k2 pt2) pos.line X.env=pure false:=by rfl):
 PS X (.Assign [.Tuple [.Name x px,.Name y py] kt pt] (.Tuple [a,b] k2 pt2) pos) (Bw i j ta):=by
 intro ae s σ H D I h;rw[exec_Assign_arm];refine wpAny_bind (wpAny_standAt ?_)
 rw[hs];refine wpAny_bind (wpAny_pure ?_)
 rw[if_neg (by decide)]
 refine wpAny_bind (Tuple_ (cv (ha _ ae s σ H _ I h) λus s1 hq_=>?_))
 obtain⟨vs,H1,I1,r1,q1⟩:=hq_
 obtain⟨v,w,e1,q1⟩:=q1
 subst e1;obtain⟨u1,u2,rfl,rv,rw'⟩: ∃u1 u2,us=[u1,u2]/\RelV v u1/\RelV w u2:=by
  cases r1 with
  |cons p q=>
   cases q with
   |cons p' q'=>
    cases q'
    exact⟨_,_,rfl,p,p'⟩
 refine wpAny_newObj_type ?_ (by show 2<=sizeLine;decide)
 have I2:Inv X ae σ H1 {s1 with heap:=s1.heap.push {cls:=.type "tuple",data:=.seq [u1,u2].toArray}}:=I1.kept (t':=s1.toks) λb o e=>Heap.get?_push_of_some _ e
 rw[hw];refine wpAny_bind (wpAny_pure ?_)
 show wpAny (model X.prog X.w) X.A (do rule "assign.swapped-stores";let items <-unpackItems (.ref s1.heap.objs.size) 2 none;assignInOrder [λv=>bindName X.env y v,λv=>bindName X.env x v] items.reverse;pure Flow.next) _ _ _
 refine wpAny_bind (wpAny_rule (wpAny_bind (unpackItems_tuple (items:= #[u1,u2]) (I.ok.hd hc) (IsTup.new s1.heap _) λh' hx'=>?_)))
 have I3:=I2.kept (h':=h') (t':=s1.toks) λb o e=>hx' b o (Nat.ne_of_lt (Heap.lt_size e)) e
 show wpAny _ _ (assignInOrder [λv=>bindName X.env y v,λv=>bindName X.env x v] [u2,u1]>>=λ_=>pure Flow.next) _ _ _
 refine wpAny_bind (assignInOrder_cons (wpAny_bindName (gu I3 hN hj (.inl hy) rw' (λs2 I4=>?_) (.inr hy))))
 refine assignInOrder_cons (wpAny_bindName (gu I4 hN hi (.inl hx) rv (λs3 I5=>assignInOrder_nil (wpAny_pure ?_)) (.inr hx)))
 rw[List.set_comm _ _ (Ne.symm hij)] at I5;exact⟨_,H1,I5,q1⟩
end
section
variable {X:Cx}{pos:Pos}
def yK(c:TT)(tb:TS):TS:=λD σ H=> ∃W:Nat->St->Hp->Prop,(∃m,W m σ H)/\ ∀m σ H,W m σ H->
 c σ H λb H1=>if b=true then∃N:St->Hp->Prop,(∀σ' H',N σ' H'-> ∃m',m'<m/\W m' σ' H')/\tb {D with nx:=N,ct:=N,bk:=D.nx} σ H1 else D.nx σ H1
theorem uI {c:Expr}{body:List Stmt}{tc:TT}{tb:TS}(hp:PassesOwn (model X.prog X.w) X.A X.env X.xe)(hc:PT X c tc)(hb:PSs X body tb):PS X (.While c body [] pos) (yK tc tb):=by
 intro ae s σ H D I h;obtain⟨W,⟨m0,w0⟩,turn⟩:=h
 refine wpAny_While (codeAny_whileLoop (λn s'=> ∃σ' H',Inv X ae σ' H' s'/\W n σ' H') ?_ m0 ⟨σ,H,I,w0⟩)
 rintro n s1 ⟨σ1,H1,I1,w1⟩
 refine wpAny_passesOwn hp (cv (hc ae s1 σ1 H1 _ I1 (turn n σ1 H1 w1)) λb s2 hq_=>?_)
 obtain⟨H2,I2,q2⟩:=hq_
 cases b with
 |true=>
  obtain⟨N,hN,q2⟩:=q2
  rw[if_pos rfl];refine wpAny_passesOwn hp (cv (hb ae s2 σ1 H2 _ I2 q2) λf s3 q3=>?_)
  cases f with
  |next=>
   obtain⟨σ3,H3,I3,n3⟩:=q3
   obtain⟨m',hm,w3⟩:=hN σ3 H3 n3
   exact⟨m',hm,σ3,H3,I3,w3⟩
  |cont=>
   obtain⟨σ3,H3,I3,n3⟩:=q3
   obtain⟨m',hm,w3⟩:=hN σ3 H3 n3
   exact⟨m',hm,σ3,H3,I3,w3⟩
  |brk=>exact q3
  |ret v=>exact q3
 |false=>
  rw[if_neg Bool.false_ne_true];exact wpAny_execs_nil ⟨σ1,H2,I2,q2⟩
end
structure It where
 go:Nat->Hp->Prop
 yld:Nat->Hp->V->Hp->Prop
 stop:Nat->Hp->Prop
def kA(X:Cx)(ae:List (Addr×Obj))(H:Hp)(b:Addr):Prop:=
 H b=none/\b≠X.env.locals/\b∉X.fs/\(b∈X.ex\/X.s₀.heap.objs.size<=b)/\(∀x c,X.env.cells.lookup x=some c->c≠b)/\ ∀p∈X.pn++ae,p.1≠b
theorem Inv.fpOk {X:Cx}{ae:List (Addr×Obj)}{σ:St}{H H':Hp}{s:Shared}{b:Addr}(I:Inv X ae σ H s)(hb:s.heap.objs.size<=b)(hn:H' b=none):kA X ae H' b:=by
 refine⟨hn,Nat.ne_of_gt (Nat.lt_of_lt_of_le I.lt hb),I.nofs hb,.inr (Nat.le_trans I.sz hb),λx c e z=>?_,λp hp z=>?_⟩
 ·obtain⟨v,q⟩:=I.cell x c e
  exact absurd (Nat.lt_of_lt_of_le q.lt (by rw[z];exact hb)) (Nat.lt_irrefl _)
 ·exact absurd (Nat.lt_of_lt_of_le (Heap.lt_size (I.pin p hp).1) (by rw[z];exact hb)) (Nat.lt_irrefl _)
structure Turn(P:Program)(w:World)(K:W.Frag)(tg:Expr)(J:It)(fp:List Addr)(it:Addr)(tn:Nat->Heap->Prop):Prop where
 mem:it∈fp
 obj: ∀i h,tn i h-> ∀b∈fp,∃o,h.get? b=some o/\ ∀v,o.data≠ .cell v
 keep: ∀i h h',tn i h->(∀b∈fp,∀o,h.get? b=some o->h'.get? b=some o)->tn i h'
 item: ∀(X:Cx),X.prog=P->X.w=w->X.K=K->X.calm=true-> ∀(i:Nat) (ae:List (Addr×Obj)) (s:Shared) (σ:St) (H:Hp) (E:Value->Shared->Prop),Inv X ae σ H s->(∀b∈fp,kA X ae H b)->tn i s.heap->J.go i H->
  wpAny (model P w) X.A (pyNext (.ref it)) (λr s1=> ∃u,r=some u/\
   wpAny (model P w) X.A (letOwnedTupleGo tg (.ref it) u) (λ_ s2=> ∃x H',Inv X ae σ H' s2/\RelV x u/\J.yld i H x H'/\tn (i+1) s2.heap/\ ∀b∈fp,H' b=none) E s1) E s
 done: ∀(X:Cx),X.prog=P->X.w=w->X.K=K->X.calm=true-> ∀(i:Nat) (ae:List (Addr×Obj)) (s:Shared) (σ:St) (H:Hp) (E:Value->Shared->Prop),Inv X ae σ H s->(∀b∈fp,kA X ae H b)->tn i s.heap->J.stop i H->
  wpAny (model P w) X.A (pyNext (.ref it)) (λr s1=>r=none/\Inv X ae σ H s1) E s
 self: ∀(A:Around) (i:Nat) (s:Shared) (Q:Value->Shared->Prop) (E:Value->Shared->Prop),tn i s.heap->Q (.ref it) s->wpAny (model P w) A (pyIter (.ref it)) Q E s
abbrev TI:=St->Hp->(It->Hp->Prop)->Prop
def B7(X:Cx)(ae:List (Addr×Obj))(σ:St)(tg:Expr)(R:It->Hp->Prop)(itv:Value)(s2:Shared):Prop:=
 ∃(it:Addr) (fp:List Addr) (tn:Nat->Heap->Prop) (J:It) (H':Hp),itv=.ref it/\Inv X ae σ H' s2/\Turn X.prog X.w X.K tg J fp it tn/\tn 0 s2.heap/\(∀b∈fp,kA X ae H' b)/\R J H'
def PI(X:Cx)(tg iter:Expr)(wi:TI):Prop:=
 ∀(ae:List (Addr×Obj)) (s:Shared) (σ:St) (H:Hp) (R:It->Hp->Prop),Inv X ae σ H s->wi σ H R->
  wpAny (model X.prog X.w) X.A (eval iter X.env) (λv s1=>wpAny (model X.prog X.w) X.A (pyIter v) (B7 X ae σ tg R) X.xe s1) X.xe s
theorem tq {M:Model}{A:Around}{E:Value->Shared->Prop}{s:Shared}{tg:Expr}{it:Addr}{u:Value}{o:Obj}{n:String}{vs:Array Value}{Q:Unit->Shared->Prop}(ho:s.heap.get? it=some o)(hc:o.cls=.type n)(hd:o.data=.fields vs)
 (hn:["enumerate","zip","dict_itemiterator","dict_reverseitemiterator","odict_iterator","itertools.zip_longest","itertools.pairwise"].contains n=false) (hQ:Q () s):wpAny M A (letOwnedTupleGo tg (.ref it) u) Q E s:=by
 unfold letOwnedTupleGo;cases tg<;>first
  |exact wpAny_pure hQ
  |(cases u<;>first
     |exact wpAny_pure hQ
     |(refine wpAny_bind (wpAny_load ho ?_)
       rw[hc,hd];show wpAny M A (if(["enumerate","zip","dict_itemiterator","dict_reverseitemiterator","odict_iterator","itertools.zip_longest","itertools.pairwise"].contains n&&vs[0]? ==some (rawInt _))=true then _ else _) Q E s
       rw[if_neg (by intro h;rw[hn,Bool.false_and] at h;cases h)]
       exact wpAny_pure hQ))
def Br(K:W.Frag)(a:Addr):It:=
 ⟨λi H=> ∃xs x,SqL K H a xs/\xs[i]? =some x,λi H x H'=>H'=H/\ ∀xs,SqL K H a xs->xs[i]? =some x,λi H=> ∃xs,SqL K H a xs/\xs.length<=i⟩
def Bo(K:W.Frag)(a:Addr):It:=
 ⟨λi H=> ∃xs x,SqT K H a xs/\xs[i]? =some x,λi H x H'=>H'=H/\ ∀xs,SqT K H a xs->xs[i]? =some x,λi H=> ∃xs,SqT K H a xs/\xs.length<=i⟩
def AM(lo:Int)(n:Nat):It:=⟨λi _=>i<n,λi H x H'=>H'=H/\x=.int (lo+i),λi _=>n<=i⟩
theorem rn {P:Program}{w:World}{K:W.Frag}{tg:Expr}(a it:Addr):Turn P w K tg (Br K a) [it] it (λi h=>h.IsListIter it a i) where
 mem:=by simp
 obj:=λi h st b hb=>by
  have e:b=it:=by simpa using hb
  subst e;obtain⟨o,e,c,d⟩:=st
  exact⟨o,e,λv z=>by rw[d] at z;cases z⟩
 keep:=λi h h' st k=>st.at λo e=>k it (by simp) o e
 item:=by
  intro X hP hw hK hc i ae s σ H E I hf st hg;subst hP hw hK;obtain⟨xs,x,hq,hx⟩:=hg
  obtain⟨its,rv,p,hz⟩:=I.list hq
  obtain⟨u,hu,ru⟩:=rv.get hx
  obtain⟨f0,f1,f2,f3,f4,f5⟩:=hf it (by simp)
  refine wpAny_pyNext_list_item st p.isList (x:=u) (by simpa using hu) λh' st' sb=>?_
  have I1:Inv X ae σ H {s with heap:=h'}:=I.turned (t':=s.toks) (λb o hb e=>(sb.2 b hb).trans e) f0 f1 f3 f4 f5
  obtain⟨o,e,c,d⟩:=id st'
  exact⟨u,rfl,tq (s:={s with heap:=h'}) e c d (by decide) ⟨x,H,I1,ru,⟨rfl,λys hy=>by rw[I.list_inj hy hq];exact hx⟩,st',λb hb=>(hf b hb).1⟩⟩
 done:=by
  intro X hP hw hK hc i ae s σ H E I hf st hg;subst hP hw hK;obtain⟨xs,hq,hx⟩:=hg
  obtain⟨its,rv,p,hz⟩:=I.list hq
  obtain⟨f0,f1,f2,f3,f4,f5⟩:=hf it (by simp)
  have hl:=rv.length
  exact wpAny_pyNext_list_end (I.ok.hd hc) st p.isList (by simp;omega) λh' eb=>⟨rfl,I.turned (t':=s.toks) (λb o hb e=>eb b o hb e) f0 f1 f3 f4 f5⟩
 self:=λ_ _ _ _ _ st h=>wpAny_pyIter_listiter st h
theorem pI {P:Program}{w:World}{K:W.Frag}{tg:Expr}(a it:Addr):Turn P w K tg (Bo K a) [it] it (λi h=>h.IsTupleIter it a i) where
 mem:=by simp
 obj:=λi h st b hb=>by
  have e:b=it:=by simpa using hb
  subst e;obtain⟨o,e,c,d⟩:=st
  exact⟨o,e,λv z=>by rw[d] at z;cases z⟩
 keep:=λi h h' st k=>st.at λo e=>k it (by simp) o e
 item:=by
  intro X hP hw hK hc i ae s σ H E I hf st hg;subst hP hw hK;obtain⟨xs,x,hq,hx⟩:=hg
  obtain⟨its,rv,p,hz⟩:=I.tuple hq
  obtain⟨u,hu,ru⟩:=rv.get hx
  obtain⟨f0,f1,f2,f3,f4,f5⟩:=hf it (by simp)
  refine wpAny_pyNext_tuple_item st (show s.heap.IsTuple a its.toArray from p) (x:=u) (by simpa using hu) λh' st' sb=>?_
  have I1:Inv X ae σ H {s with heap:=h'}:=I.turned (t':=s.toks) (λb o hb e=>(sb.2 b hb).trans e) f0 f1 f3 f4 f5
  obtain⟨o,e,c,d⟩:=id st'
  exact⟨u,rfl,tq (s:={s with heap:=h'}) e c d (by decide) ⟨x,H,I1,ru,⟨rfl,λys hy=>by rw[I.tuple_inj hy hq];exact hx⟩,st',λb hb=>(hf b hb).1⟩⟩
 done:=by
  intro X hP hw hK hc i ae s σ H E I hf st hg;subst hP hw hK;obtain⟨xs,hq,hx⟩:=hg
  obtain⟨its,rv,p,hz⟩:=I.tuple hq
  obtain⟨f0,f1,f2,f3,f4,f5⟩:=hf it (by simp)
  have hl:=rv.length
  exact wpAny_pyNext_tuple_end (I.ok.hd hc) st (show s.heap.IsTuple a its.toArray from p) (by simp;omega) λh' eb=>⟨rfl,I.turned (t':=s.toks) (λb o hb e=>eb b o hb e) f0 f1 f3 f4 f5⟩
 self:=λ_ _ _ _ _ st h=>wpAny_pyIter_tupleiter st h
theorem pU {P:Program}{w:World}{K:W.Frag}{tg:Expr}(it:Addr)(lo:Int)(n:Nat):Turn P w K tg (AM lo n) [it] it (λi h=>IsRangeIter h it (lo+(i:Nat)*1) ((n:Int) - (i:Nat)) 1) where
 mem:=by simp
 obj:=λi h st b hb=>by
  have e:b=it:=by simpa using hb
  subst e;exact⟨_,st,λv z=>by
   have z':Data.fields _=Data.cell v:=z
   cases z'⟩
 keep:=λi h h' st k=>k it (by simp) _ st
 item:=by
  intro X hP hw hK hc i ae s σ H E I hf st hg;subst hP hw hK;obtain⟨f0,f1,f2,f3,f4,f5⟩:=hf it (by simp)
  have W:=Walks.range (prog:=X.prog) (w:=X.w) (I.ok.hd hc) it lo 1 n
  refine W.item i s _ _ hg st λv h' tk hv st' kk=>?_
  obtain⟨t,rfl⟩:=hv
  have I1:Inv X ae σ H {s with heap:=h',toks:=tk}:=I.turned (λb o hb e=>kk b o (by simpa using hb) e) f0 f1 f3 f4 f5
  refine⟨_,rfl,tq (s:={s with heap:=h',toks:=tk}) (n:="range_iterator") st' rfl rfl (by decide) ⟨.int (lo+i),H,I1,⟨t,?_⟩,⟨rfl,rfl⟩,st',λb hb=>(hf b hb).1⟩⟩
  rw[Int.mul_one]
 done:=by
  intro X hP hw hK hc i ae s σ H E I hf st hg;subst hP hw hK;obtain⟨f0,f1,f2,f3,f4,f5⟩:=hf it (by simp)
  exact wpAny_pyNext_range_end (I.ok.hd hc) st (by have:n<=i:=hg;omega) λh' eb=>⟨rfl,I.turned (t':=s.toks) (λb o hb e=>eb b o hb e) f0 f1 f3 f4 f5⟩
 self:=λ_ _ _ _ _ st h=>wpAny_pyIter_rangeiter st h
section
variable {X:Cx}{tg:Expr}
def zJ(K:W.Frag)(tl:TE):TI:=λσ H R=>tl σ H λx H1=> ∃a,x=.ref a/\(∃xs,SqL K H1 a xs)/\R (Br K a) H1
def BR(K:W.Frag)(tl:TE):TI:=λσ H R=>tl σ H λx H1=> ∃a,x=.ref a/\(∃xs,SqT K H1 a xs)/\R (Bo K a) H1
theorem lW {l:Expr}{tl:TE}(hl:PE X l tl):PI X tg l (zJ X.K tl):=by
 intro ae s σ H R I h;refine cv (hl ae s σ H _ I h) λv s1 hq_=>?_
 obtain⟨x,H1,I1,r1,q1⟩:=hq_
 obtain⟨a,e,⟨xs,hq⟩,q⟩:=q1
 subst e;cases r1
 obtain⟨its,rv,p,hz⟩:=I1.list hq
 refine wpAny_pyIter_list p.isList ?_
 refine⟨s1.heap.objs.size,[s1.heap.objs.size],_,_,H1,rfl,I1.kept (t':=s1.toks) λb o e=>Heap.get?_push_of_some _ e,rn a _,⟨_,Heap.get?_push_size _ rfl,rfl,rfl⟩,λb hb=>?_,q⟩
 have e:b=s1.heap.objs.size:=by simpa using hb
 subst e;exact I1.fpOk (Nat.le_refl _) (I1.hok.fresh (Nat.le_refl _))
theorem zj {l:Expr}{tl:TE}(hl:PE X l tl):PI X tg l (BR X.K tl):=by
 intro ae s σ H R I h;refine cv (hl ae s σ H _ I h) λv s1 hq_=>?_
 obtain⟨x,H1,I1,r1,q1⟩:=hq_
 obtain⟨a,e,⟨xs,hq⟩,q⟩:=q1
 subst e;cases r1
 obtain⟨its,rv,p,hz⟩:=I1.tuple hq
 refine wpAny_pyIter_tuple (show s1.heap.IsTuple a its.toArray from p) ?_
 refine⟨s1.heap.objs.size,[s1.heap.objs.size],_,_,H1,rfl,I1.kept (t':=s1.toks) λb o e=>Heap.get?_push_of_some _ e,pI a _,⟨_,Heap.get?_push_size _ rfl,rfl,rfl⟩,λb hb=>?_,q⟩
 have e:b=s1.heap.objs.size:=by simpa using hb
 subst e;exact I1.fpOk (Nat.le_refl _) (I1.hok.fresh (Nat.le_refl _))
theorem sQ {ae:List (Addr×Obj)}{σ:St}{H:Hp}{s:Shared}{R:It->Hp->Prop}{E:Value->Shared->Prop}{lo hi:Int}{t u v:Tok}{tk:Nat}(I:Inv X ae σ H s)(h1: -(2^62)<=lo)(h2:lo<2^62)(h3: -(2^62)<=hi)(h4:hi<2^62)
 (q:R (AM lo (hi-lo).toNat) H):wpAny (model X.prog X.w) X.A (pyIter (.ref s.heap.objs.size)) (B7 X ae σ tg R) E {s with heap:=s.heap.push {cls:=.type "range",data:=.fields #[.int lo t,.int hi u,.int 1 v]},toks:=tk}:=by
 refine wpAny_pyIter_range (IsRange.new ..) (small_one h1 h2 h3 h4) ?_
 have I1:Inv X ae σ H {s with heap:=s.heap.push {cls:=.type "range",data:=.fields #[.int lo t,.int hi u,.int 1 v]},toks:=tk}:=I.kept λb o e=>Heap.get?_push_of_some _ e
 refine⟨(s.heap.push {cls:=.type "range",data:=.fields #[.int lo t,.int hi u,.int 1 v]}).objs.size,[(s.heap.push {cls:=.type "range",data:=.fields #[.int lo t,.int hi u,.int 1 v]}).objs.size],_,_,H,rfl,
  I1.kept (t':=tk) λb o e=>Heap.get?_push_of_some _ e,pU _ lo (hi-lo).toNat,?_,λb hb=>?_,q⟩
 ·have e1:lo+((0:Nat):Int)*1=lo:=by simp
  have e2:(((hi-lo).toNat:Nat):Int) - ((0:Nat):Int)=Builtin.Range.rangeSize lo hi 1:=by rw[rangeSize_one];split<;>omega
  show IsRangeIter _ _ (lo+((0:Nat):Int)*1) ((((hi-lo).toNat:Nat):Int) - ((0:Nat):Int)) 1;rw[e1,e2];exact Heap.get?_push_size _ rfl
 ·have e:b=(s.heap.push {cls:=.type "range",data:=.fields #[.int lo t,.int hi u,.int 1 v]}).objs.size:=by simpa using hb
  subst e;exact I1.fpOk (Nat.le_refl _) (I1.hok.fresh (Nat.le_refl _))
def z6(ta:TA):TI:=λσ H R=>ta σ H λvs H1=> ∃j:Int,vs=[.int j]/\ -(2^62)<=j/\j<2^62/\R (AM 0 j.toNat) H1
theorem sy {a:Expr}{ta:TA}{p pos:Pos}(hg:Gl X "range")(hm:X.mg "range"=none)(ha:PA X [a] ta)(hs:starEach [a] X.env=[(false,eval a X.env)]:=by rfl):PI X tg (.Call (.Name "range" p) [a] [] pos) (z6 ta):=by
 intro ae s σ H R I h;refine Call_ (ke I hg hm boot_range (PyProof.Rows.callWith_type1 (cv (ha pos ae s σ H _ I h) λus s1 ⟨vs,H1,I1,r1,q1⟩=>?_) hs rfl))
 obtain⟨j,e,q1,q2,q⟩:=q1
 subst e;cases r1 with
 |cons r rr=>
  cases rr
  obtain⟨t,rfl⟩:=r
  exact call_range_1 (sQ I1 (by omega) (by omega) q1 q2 (by simpa using q))
def Bx(wi:TI)(g:TG)(tb:TS):TS:=λD σ H=>wi σ H λJ H1=> ∃W:Nat->Nat->St->Hp->Prop,(∃m,W 0 m σ H1)/\ ∀i m σ H,W i m σ H->
 (J.stop i H/\D.nx σ H)\/(J.go i H/\ ∃N:St->Hp->Prop,(∀σ' H',N σ' H'-> ∃m',m'<m/\W (i+1) m' σ' H')/\ ∀x H',J.yld i H x H'->g x σ H' λσ2 H2=>tb {D with nx:=N,ct:=N,bk:=D.nx} σ2 H2)
def kc(fp:List Addr)(h:Heap):List (Addr×Obj):=fp.filterMap λb=>(h.get? b).map λo=>(b,o)
theorem fU {fp:List Addr}{h:Heap}{b:Addr}{o:Obj}(hb:b∈fp)(e:h.get? b=some o):(b,o)∈kc fp h:=List.mem_filterMap.mpr ⟨b,hb,by rw[e];rfl⟩
theorem sD {fp:List Addr}{h:Heap}{p:Addr×Obj}(hp:p∈kc fp h):p.1∈fp/\h.get? p.1=some p.2:=by
 obtain⟨b,hb,e⟩:=List.mem_filterMap.mp hp
 cases q:h.get? b with
 |none=>rw[q] at e;cases e
 |some o=>
  rw[q] at e;have e':(b,o)=p:=Option.some.inj e
  subst e';exact⟨hb,q⟩
theorem Inv.pinned {ae:List (Addr×Obj)}{σ:St}{H:Hp}{s:Shared}{fp:List Addr}(I:Inv X ae σ H s)(hf: ∀b∈fp,kA X ae H b)(ho: ∀b∈fp,∃o,s.heap.get? b=some o/\ ∀v,o.data≠ .cell v):Inv X (ae++kc fp s.heap) σ H s:=
 I.pins_of λp hp=>(List.mem_append.mp hp).elim (λz=>I.pin p (List.mem_append_right _ z)) λz=>by
  obtain⟨hb,e⟩:=sD z
  obtain⟨f0,f1,f2,_⟩:=hf p.1 hb
  obtain⟨o,e',d⟩:=ho p.1 hb
  rw[e] at e';cases e';exact⟨e,f0,f1,f2,d⟩
theorem Inv.unpinned {ae pl:List (Addr×Obj)}{σ:St}{H:Hp}{s:Shared}(I:Inv X (ae++pl) σ H s):Inv X ae σ H s:=I.pins_of λp hp=>I.pin p (List.mem_append_right _ (List.mem_append_left _ hp))
theorem xT {iter:Expr}{body:List Stmt}{wi:TI}{g:TG}{tb:TS}{pos:Pos}(hp:PassesOwn (model X.prog X.w) X.A X.env X.xe)(hc:X.calm=true)(hi:PI X tg iter wi)(hg:PG X tg g)(hb:PSs X body tb)
 (hs: ∀x,foldedSetIterable iter X.env x=pure x:=by intro _;rfl):PS X (.For tg iter body [] pos) (Bx wi g tb):=by
 intro ae s σ H D I h;refine wpAny_For (cv (hi ae s σ H _ I h) λv s1 h1=>cv h1 λitv s2 h2=>?_) hs
 obtain⟨it,fp,tn,J,H2,e,I2,T,st2,f2,W,⟨m0,w0⟩,turn⟩:=h2
 subst e;have stat: ∀ {H':Hp},(∀b∈fp,H' b=none)-> ∀b∈fp,kA X ae H' b:=λhn b hb=>⟨hn b hb,(f2 b hb).2⟩
 refine codeAny_forLoop_any (λn s'=> ∃i σ' H',Inv X ae σ' H' s'/\tn i s'.heap/\(∀b∈fp,H' b=none)/\W i n σ' H') ?_ m0 ⟨0,σ,H2,I2,st2,λb hb=>(f2 b hb).1,w0⟩
 rintro n s3 ⟨i,σ3,H3,I3,st3,fr3,w3⟩
 rcases turn i n σ3 H3 w3 with⟨stop,qn⟩|⟨go,N,hN,step⟩
 ·refine wpAny_passesOwn hp (cv (T.done X rfl rfl rfl hc i ae s3 σ3 H3 X.xe I3 (stat fr3) st3 stop) λr s4 hq_=>?_)
  obtain⟨hr,I4⟩:=hq_
  subst hr;exact wpAny_execs_nil ⟨σ3,H3,I4,qn⟩
 ·refine wpAny_passesOwn hp (cv (T.item X rfl rfl rfl hc i ae s3 σ3 H3 X.xe I3 (stat fr3) st3 go) λr s4 hq_=>?_)
  obtain⟨u,hr,h4⟩:=hq_
  subst hr;refine wpAny_passesOwn hp (cv h4 λ_ s5 hq_=>?_)
  obtain⟨x,H5,I5,r5,y5,st5,fr5⟩:=hq_
  have I5':=I5.pinned (stat fr5) (T.obj _ _ st5)
  refine wpAny_passesOwn hp (cv (hg _ s5 σ3 H5 x u _ I5' r5 (step x H5 y5)) λ_ s6 hq_=>?_)
  obtain⟨σ6,H6,I6,q6⟩:=hq_
  refine wpAny_passesOwn hp (cv (hb _ s6 σ6 H6 _ I6 q6) λf s7 q7=>?_)
  have again: ∀ {σ7:St} {H7:Hp},Inv X (ae++kc fp s5.heap) σ7 H7 s7->N σ7 H7-> ∃m,m<n/\ ∃i σ' H',Inv X ae σ' H' s7/\tn i s7.heap/\(∀b∈fp,H' b=none)/\W i m σ' H':=λ{σ7 H7} I7 n7=>by
   obtain⟨m',hm,w7⟩:=hN σ7 H7 n7
   refine⟨m',hm,i+1,σ7,H7,I7.unpinned,T.keep _ _ _ st5 λb hb o e=>(I7.pin (b,o) (List.mem_append_right _ (List.mem_append_right _ (fU hb e)))).1,λb hb=>?_,w7⟩
   obtain⟨o,e,d⟩:=T.obj _ _ st5 b hb
   exact(I7.pin (b,o) (List.mem_append_right _ (List.mem_append_right _ (fU hb e)))).2.1
  cases f with
  |next=>obtain⟨σ7,H7,I7,n7⟩:=q7;exact again I7 n7
  |cont=>obtain⟨σ7,H7,I7,n7⟩:=q7;exact again I7 n7
  |brk=>obtain⟨σ7,H7,I7,q7⟩:=q7;exact⟨σ7,H7,I7.unpinned,q7⟩
  |ret v=>obtain⟨x7,σ7,H7,I7,r7,q7⟩:=q7;exact⟨x7,σ7,H7,I7.unpinned,r7,q7⟩
end
abbrev R2:=V->V->Hp->VK->Prop
def iu(X:Cx)(f:Value->Value->Sem Value)(r:R2):Prop:=
 ∀(ae:List (Addr×Obj)) (s:Shared) (σ:St) (H:Hp) (x y:V) (v u:Value) (Q:VK),Inv X ae σ H s->RelV x v->RelV y u->r x y H Q->
  wpAny (model X.prog X.w) X.A (f v u) (EP X ae σ Q) X.xe s
def BS(X:Cx)(f:Value->Sem Value)(r:V->Hp->VK->Prop):Prop:=
 ∀(ae:List (Addr×Obj)) (s:Shared) (σ:St) (H:Hp) (x:V) (v:Value) (Q:VK),Inv X ae σ H s->RelV x v->r x H Q->
  wpAny (model X.prog X.w) X.A (f v) (EP X ae σ Q) X.xe s
def er(X:Cx)(f:Value)(r:List V->Hp->VK->Prop):Prop:=
 ∀(ae:List (Addr×Obj)) (s:Shared) (σ:St) (H:Hp) (xs:List V) (us:List Value) (Q:VK),Inv X ae σ H s->Vals xs us->r xs H Q->
  wpAny (model X.prog X.w) X.A (call f us) (EP X ae σ Q) X.xe s
def BI(X:Cx)(r:V->Hp->(Bool->Hp->Prop)->Prop):Prop:=
 ∀(ae:List (Addr×Obj)) (s:Shared) (σ:St) (H:Hp) (x:V) (v:Value) (Q:Bool->Hp->Prop),Inv X ae σ H s->RelV x v->r x H Q->
  wpAny (model X.prog X.w) X.A (truthy v) (TP X ae σ Q) X.xe s
def yu(r:R2)(ta tb:TE):TE:=λσ H Q=>ta σ H λx H1=>tb σ H1 λy H2=>r x y H2 Q
def Cv(r:V->Hp->VK->Prop)(ta:TE):TE:=λσ H Q=>ta σ H λx H1=>r x H1 Q
def rI(C:Int->Int->Prop)(g:Int->Int->V):R2:=λx y H Q=> ∃i j,x=.int i/\y=.int j/\C i j/\Q (g i j) H
def ve(g:Int->Int->V):R2:=λx y H Q=> ∃i j,x=.int i/\y=.int j/\Q (g i j) H
def rU(g:Int->V):V->Hp->VK->Prop:=λx H Q=> ∃i,x=.int i/\Q (g i) H
section
variable {X:Cx}{a b c:Expr}{ta tb tc:TE}{pos:Pos}
theorem yY(ha:PE X a ta)(hb:PE X b tb){ae:List (Addr×Obj)}{s:Shared}{σ:St}{H:Hp}{R:V->V->Hp->Prop}(I:Inv X ae σ H s)
 (h:ta σ H λx H1=>tb σ H1 λy H2=>R x y H2) {Q:Value->Shared->Prop} {f:Value->Value->Sem Value}
 (hf: ∀v u s2 x y H2,Inv X ae σ H2 s2->RelV x v->RelV y u->R x y H2->wpAny (model X.prog X.w) X.A (f v u) Q X.xe s2):
 wpAny (model X.prog X.w) X.A (eval a X.env) (λv s₁=>wpAny (model X.prog X.w) X.A (eval b X.env) (λu s₂=>wpAny (model X.prog X.w) X.A (f v u) Q X.xe s₂) X.xe s₁) X.xe s:=by
 refine cv (ha ae s σ H _ I h) λv s1 hq_=>?_
 obtain⟨x,H1,I1,r1,q1⟩:=hq_
 refine cv (hb ae s1 σ H1 _ I1 q1) λu s2 hq_=>?_
 obtain⟨y,H2,I2,r2,q2⟩:=hq_
 exact hf v u s2 x y H2 I2 r1 r2 q2
theorem xl {op:Operator}{r:R2}(ho:iu X (binaryOp op) r)(ha:PE X a ta)(hb:PE X b tb):PE X (.BinOp a op b pos) (yu r ta tb):=by
 intro ae s σ H Q I h;exact wpAny_BinOp (yY ha hb I h λv u s2 x y H2 I2 rx ry q=>ho ae s2 σ H2 x y v u Q I2 rx ry q)
theorem Ap {op:UnaryOp}{r:V->Hp->VK->Prop}(ho:BS X (unaryOp op) r)(ha:PE X a ta):PE X (.UnaryOp op a pos) (Cv r ta):=by
 intro ae s σ H Q I h;exact UnaryOp_ (cv (ha ae s σ H _ I h) λv s1 ⟨x,H1,I1,r1,q1⟩=>ho ae s1 σ H1 x v Q I1 r1 q1)
theorem AQ {f:Value->Value->Sem Value}{C:Int->Int->Prop}{g:Int->Int->Int}
 (rule: ∀(i j:Int) (t u:Tok) (s:Shared) (Q:Value->Shared->Prop) (E:Value->Shared->Prop),C i j->Q (.int (g i j) s.toks) {s with toks:=s.toks+1}->wpAny (model X.prog X.w) X.A (f (.int i t) (.int j u)) Q E s):
 iu X f (rI C λi j=>.int (g i j)):=by
 intro ae s σ H x y v u Q I rx ry h;obtain⟨i,j,rfl,rfl,hc,q⟩:=h
 obtain⟨t,rfl⟩:=rx
 obtain⟨t',rfl⟩:=ry
 exact rule i j t t' s _ _ hc ⟨.int (g i j),H,I.tok _,⟨_,rfl⟩,q⟩
theorem zQ {f:Value->Value->Sem Value}{g:Int->Int->Int}
 (rule: ∀(i j:Int) (t u:Tok) (s:Shared) (Q:Value->Shared->Prop) (E:Value->Shared->Prop),Q (.int (g i j) s.toks) {s with toks:=s.toks+1}->wpAny (model X.prog X.w) X.A (f (.int i t) (.int j u)) Q E s):
 iu X f (ve λi j=>.int (g i j)):=by
 intro ae s σ H x y v u Q I rx ry h;obtain⟨i,j,rfl,rfl,q⟩:=h
 obtain⟨t,rfl⟩:=rx
 obtain⟨t',rfl⟩:=ry
 exact rule i j t t' s _ _ ⟨.int (g i j),H,I.tok _,⟨_,rfl⟩,q⟩
theorem xk {f:Value->Value->Sem Value}{g:Int->Int->Bool}
 (rule: ∀(i j:Int) (t u:Tok) (s:Shared) (Q:Value->Shared->Prop) (E:Value->Shared->Prop),Q (.bool (g i j)) s->wpAny (model X.prog X.w) X.A (f (.int i t) (.int j u)) Q E s):
 iu X f (ve λi j=>.bl (g i j)):=by
 intro ae s σ H x y v u Q I rx ry h;obtain⟨i,j,rfl,rfl,q⟩:=h
 obtain⟨t,rfl⟩:=rx
 obtain⟨t',rfl⟩:=ry
 exact rule i j t t' s _ _ ⟨.bl (g i j),H,I,rfl,q⟩
def Ay(i j:Int):Prop:=0<=j/\j<=1000000/\i.natAbs<2^64
theorem sL:iu X (binaryOp .Add) (ve λi j=>.int (i+j)):=zQ λ_ _ _ _ _ _ _ q=>add_int q
theorem x9:iu X (binaryOp .Sub) (ve λi j=>.int (i-j)):=zQ λ_ _ _ _ _ _ _ q=>sub_int q
theorem yp:iu X (binaryOp .Mod) (rI (λ_ j=>0<j) λi j=>.int (i % j)):=AQ λi j _ _ _ _ _ hc q=>by
 have h1:(0:Int)<j:=hc
 exact mod_int' (by omega) (by rw[Int.fmod_eq_emod_of_nonneg i (by omega)];exact q)
theorem yG:iu X (binaryOp .Pow) (rI Ay λi j=>.int (i^j.toNat)):=AQ λ_ _ _ _ _ _ _ hc q=>pow_int_small hc.1 hc.2.1 hc.2.2 q
theorem Cm {f:Value->Sem Value}{g:Int->Int}
 (rule: ∀(i:Int) (t:Tok) (s:Shared) (Q:Value->Shared->Prop) (E:Value->Shared->Prop),Q (.int (g i) s.toks) {s with toks:=s.toks+1}->wpAny (model X.prog X.w) X.A (f (.int i t)) Q E s):
 BS X f (rU λi=>.int (g i)):=by
 intro ae s σ H x v Q I rx h;obtain⟨i,rfl,q⟩:=h
 obtain⟨t,rfl⟩:=rx
 exact rule i t s _ _ ⟨.int (g i),H,I.tok _,⟨_,rfl⟩,q⟩
theorem za:BS X (unaryOp .USub) (rU λi=>.int (-i)):=Cm λ_ _ _ _ _ q=>neg_int q
end
section
variable {X:Cx}{a b c:Expr}{ta tb tc:TE}{pos:Pos}
theorem xx:iu X (compareOp .Lt) (ve λi j=>.bl (decide (i<j))):=xk λ_ _ _ _ _ _ _ q=>lt_int q
theorem qa:iu X (compareOp .LtE) (ve λi j=>.bl (decide (i<=j))):=xk λ_ _ _ _ _ _ _ q=>le_int q
theorem lK:iu X (compareOp .Gt) (ve λi j=>.bl (decide (j<i))):=xk λ_ _ _ _ _ _ _ q=>gt_int q
theorem zM:iu X (compareOp .GtE) (ve λi j=>.bl (decide (j<=i))):=xk λ_ _ _ _ _ _ _ q=>ge_int q
theorem bj(b:Expr){op:CmpOp}(h:op≠ .In:=by decide)(h2:op≠ .NotIn:=by decide):behindInMarks op b=false:=by
 have e1:(op==CmpOp.In)=false:=by cases op<;>first|rfl|exact absurd rfl h
 have e2:(op==CmpOp.NotIn)=false:=by cases op<;>first|rfl|exact absurd rfl h2
 cases b<;>simp[behindInMarks,e1,e2]
theorem wa {op:CmpOp}{r:R2}(ho:iu X (compareOp op) r)(ha:PE X a ta)(hb:PE X b tb)(hm:behindInMarks op b=false):PE X (.Compare a [op] [b] pos) (yu r ta tb):=by
 intro ae s σ H Q I h;exact wpAny_Compare1 (yY ha hb I h λv u s2 x y H2 I2 rx ry q=>ho ae s2 σ H2 x y v u Q I2 rx ry q) hm
def xJ(t:TE):TT:=λσ H Q=>t σ H λx H'=> ∃k,x=.bl k/\Q k H'
theorem qK {op:CmpOp}{r:R2}(ho:iu X (compareOp op) r)(ha:PE X a ta)(hb:PE X b tb)(hm:behindInMarks op b=false):PT X (.Compare a [op] [b] pos) (xJ (yu r ta tb)):=by
 intro ae s σ H Q I h;refine wpAny_isTrue_Compare1 (cv (ha ae s σ H _ I h) λv s1 ⟨x,H1,I1,r1,q1⟩=>cv (hb ae s1 σ H1 _ I1 q1) λu s2 ⟨y,H2,I2,r2,q2⟩=>
  cv (ho ae s2 σ H2 x y v u _ I2 r1 r2 q2) λc s3 ⟨z,H3,I3,r3,k,e,q3⟩=>?_) hm
 subst e;cases r3
 exact wpAny_truthy_bool ⟨H3,I3,q3⟩
def ue(r r':R2)(ta tb tc:TE):TE:=λσ H Q=>ta σ H λx H1=>tb σ H1 λy H2=>r x y H2 λz H3=> ∃k,z=.bl k/\
 (if k=true then tc σ H3 λw' H4=>r' y w' H4 Q else Q (.bl false) H3)
theorem tQ {op op':CmpOp}{r r':R2}(ho:iu X (compareOp op) r)(ho':iu X (compareOp op') r')(ha:PE X a ta)(hb:PE X b tb)(hc:PE X c tc)
 (hm:lastMarks [op,op'] [b,c]=false:=by with_unfolding_all rfl):PT X (.Compare a [op,op'] [b,c] pos) (xJ (ue r r' ta tb tc)):=by
 intro ae s σ H Q I h;refine isTrue_chain (cv (ha ae s σ H _ I h) λv s1 ⟨x,H1,I1,r1,q1⟩=>test_link (cv (hb ae s1 σ H1 _ I1 q1) λu s2 ⟨y,H2,I2,r2,q2⟩=>
  cv (ho ae s2 σ H2 x y v u _ I2 r1 r2 q2) λd s3 ⟨z,H3,I3,r3,k,e,q3⟩=>?_)) hm
 subst e;cases r3
 refine wpAny_truthy_bool ?_
 cases k with
 |false=>
  obtain⟨k',e',q'⟩:=q3
  cases e'
  exact ite_ff ⟨H3,I3,q'⟩
 |true=>
  refine ite_tt (test_last (cv (hc ae s3 σ H3 _ I3 q3) λw' s4 ⟨z',H4,I4,r4,q4⟩=>cv (ho' ae s4 σ H4 y z' u w' _ I4 r2 r4 q4) λd' s5 hq_=>?_))
  obtain⟨z2,H5,I5,r5,k2,e2,q5⟩:=hq_
  subst e2;cases r5
  exact wpAny_truthy_bool ⟨H5,I5,q5⟩
def yJ(K:W.Frag)(x:V)(H:Hp)(k:Bool):Prop:=
 match x with
 | .non=>k=false
 | .bl b=>k=b
 | .int i=>k=(i !=0)
 | .str y=>y.length<=sizeLine/\k=((y.length:Int) !=0)
 | .byt y=>y.size<=sizeLine/\k=((y.size:Int) !=0)
 | .ref p=>(∃xs,SqL K H p xs/\k= !xs.isEmpty)\/(∃xs,SqT K H p xs/\k= !xs.isEmpty)\/ ∃kvs,H p=some (.dK kvs)/\k= !kvs.isEmpty
 |_=>False
theorem pD {κ:Type}{kvs:List (κ×V)}{vs:List (κ×Value)}(r:KV kvs vs):(!vs.isEmpty)= !kvs.isEmpty:=by
 cases r<;>rfl
theorem jK {xs:List V}{its:List Value}(r:Vals xs its):(!its.toArray.isEmpty)= !xs.isEmpty:=by
 cases r<;>simp
theorem iq:(sizeLine:Nat)<2^63:=by rw[sizeLine_eq];decide
theorem zb:BI X (λx H Q=> ∃k,yJ X.K x H k/\Q k H):=by
 intro ae s σ H x v Q I rx h;obtain⟨k,e,q⟩:=h
 have hl:=iq
 have hs:sizeLine=16777216:=sizeLine_eq
 cases x with
 |non=>
  cases rx
  have e':k=false:=e
  subst e';exact truthy_none ⟨H,I,q⟩
 |bl b=>
  cases rx
  have e':k=b:=e
  subst e';exact wpAny_truthy_bool ⟨H,I,q⟩
 |int i=>
  obtain⟨t,rfl⟩:=rx
  have e':k=(i !=0):=e
  subst e';exact PySem.P.truthy_int ⟨H,I,q⟩
 |str y=>
  obtain⟨t,rfl⟩:=rx
  obtain⟨hy,e'⟩:y.length<=sizeLine/\k=((y.length:Int) !=0):=e
  subst e';exact PySem.P.truthy_str (by omega) ⟨H,I.tok _,q⟩
 |byt y=>
  obtain⟨t,rfl⟩:=rx
  obtain⟨hy,e'⟩:y.size<=sizeLine/\k=((y.size:Int) !=0):=e
  subst e';exact W.truthy_bytes (by omega) ⟨H,I.tok _,q⟩
 |ref p=>
  cases rx
  have e':(∃xs,SqL X.K H p xs/\k= !xs.isEmpty)\/(∃xs,SqT X.K H p xs/\k= !xs.isEmpty)\/ ∃kvs,H p=some (.dK kvs)/\k= !kvs.isEmpty:=e
  rcases e' with⟨xs,hx,e'⟩|⟨xs,hx,e'⟩|⟨kvs,hx,e'⟩
  ·subst e'
   obtain⟨its,r,pl,hz⟩:=I.list hx
   have hlen:=r.length
   exact wpAny_truthy_list pl.isList (by simp only[List.size_toArray];omega) ⟨H,I.tok _,by rw[jK r];exact q⟩
  ·subst e'
   obtain⟨its,r,pl,hz⟩:=I.tuple hx
   have hlen:=r.length
   exact truthy_tuple pl (by simp only[List.size_toArray];omega) ⟨H,I.tok _,by rw[jK r];exact q⟩
  ·subst e'
   obtain⟨hz,hS,vs,r,m⟩:kvs.length<=sizeLine/\(p==sysModules)=false/\ ∃vs,KV kvs vs/\s.heap.DictOf (cC X.prog X.w) p vs:=I.hok p _ hx
   have hlen:kvs.length=vs.length:=Paired.length r
   exact wpAny_truthy_dict hS m (by omega) ⟨H,I.tok _,by rw[pD r];exact q⟩
 |_=>exact(show False from e).elim
theorem uO(ha:PE X a ta)(he: ∀whole,isTrue a X.env whole=(do let v <-whole;standAt a.pos;holding [v] (truthy v))):
 PT X a (λσ H Q=>ta σ H λx H'=> ∃k,yJ X.K x H' k/\Q k H'):=by
 intro ae s σ H Q I h;exact isTrue_plain (cv (ha ae s σ H _ I h) λv s1 ⟨x,H1,I1,r1,q1⟩=>zb ae s1 σ H1 x v Q I1 r1 q1) (he _)
theorem iL {x:V}{us:List Value}(r:Vals [x] us): ∃u,us=[u]/\RelV x u:=by
 cases r with
 |cons r1 r2=>cases r2;exact⟨_,rfl,r1⟩
theorem tU {x y:V}{us:List Value}(r:Vals [x,y] us): ∃u w',us=[u,w']/\RelV x u/\RelV y w':=by
 cases r with
 |cons r1 r2=>
  cases r2 with
  |cons r3 r4=>cases r4;exact⟨_,_,rfl,r1,r3⟩
theorem uD:er X (.builtin "abs") (λxs H Q=> ∃i,xs=[.int i]/\Q (.int (if i<0 then -i else i)) H):=by
 intro ae s σ H xs us Q I r h;obtain⟨i,rfl,q⟩:=h
 obtain⟨u,rfl,t,rfl⟩:=iL r
 exact call_abs_int λu tk=>⟨.int (if i<0 then -i else i),H,I.tok _,⟨_,rfl⟩,q⟩
theorem rq(hc:X.calm=true):er X (.builtin "max") (λxs H Q=> ∃i j,xs=[.int i,.int j]/\Q (.int (if j>i then j else i)) H):=by
 intro ae s σ H xs us Q I r h;obtain⟨i,j,rfl,q⟩:=h
 obtain⟨u,w',rfl,⟨t,rfl⟩,⟨t',rfl⟩⟩:=tU r
 refine max_two_ints (I.ok.hd hc) λh' tk k=>⟨_,H,I.kept k,?_,q⟩
 by_cases hj:j>i
 ·rw[if_pos hj,if_pos hj];exact⟨_,rfl⟩
 ·rw[if_neg hj,if_neg hj];exact⟨_,rfl⟩
theorem iR(hc:X.calm=true):er X (.builtin "min") (λxs H Q=> ∃i j,xs=[.int i,.int j]/\Q (.int (if j<i then j else i)) H):=by
 intro ae s σ H xs us Q I r h;obtain⟨i,j,rfl,q⟩:=h
 obtain⟨u,w',rfl,⟨t,rfl⟩,⟨t',rfl⟩⟩:=tU r
 refine min_two_ints (I.ok.hd hc) λh' tk k=>⟨_,H,I.kept k,?_,q⟩
 by_cases hj:j<i
 ·rw[if_pos hj,if_pos hj];exact⟨_,rfl⟩
 ·rw[if_neg hj,if_neg hj];exact⟨_,rfl⟩
theorem iQ:er X (.type "int") (λxs H Q=>(∃i,xs=[.int i]/\Q (.int i) H)\/ ∃k,xs=[.bl k]/\Q (.int (if k then 1 else 0)) H):=by
 intro ae s σ H xs us Q I r h;rcases h with⟨i,rfl,q⟩|⟨k,rfl,q⟩
 ·obtain⟨u,rfl,t,rfl⟩:=iL r
  exact call_int_int ⟨.int i,H,I,⟨_,rfl⟩,q⟩
 ·obtain⟨u,rfl,r1⟩:=iL r
  cases r1
  exact call_int_bool ⟨.int (if k then 1 else 0),H,I.tok _,⟨_,rfl⟩,q⟩
end
theorem RelO.some_of {v:V}{o:Option Value}(r:RelO (some v) o): ∃u,o=some u/\RelV v u:=by
 cases o with
 |none=>exact(show False from r).elim
 |some u=>exact⟨u,rfl,r⟩
structure Room(k:Nat)(A:Around):Prop where
 hd:A.handled=none
 dp:A.depth+3*k+5<recursionLimit
 un:A.units+16*k+200<cLine
theorem Room.mono {j k:Nat}{A:Around}(r:Room k A)(h:j<=k):Room j A:=⟨r.hd,by have:=r.dp;omega,by have:=r.un;omega⟩
theorem Room.deeper {k:Nat}{A:Around}(r:Room (k+1) A)(env:Env):Room k (A.deeper env):=
 ⟨r.hd,by have:=r.dp;show A.depth+1+3*k+5<_;omega,by have:=r.un;show A.units+3+16*k+200<_;omega⟩
theorem Room.depth {k:Nat}{A:Around}(r:Room k A):A.depth<recursionLimit:=by have:=r.dp;omega
theorem Room.units {k:Nat}{A:Around}(r:Room k A):A.units+64<cLine:=by have:=r.un;omega
def Aw:TA:=λ_ H Q=>Q [] H
def xB(ta:TE)(tr:TA):TA:=λσ H Q=>ta σ H λx H1=>tr σ H1 λxs H2=>Q (x::xs) H2
section
variable {X:Cx}{e:Expr}{es:List Expr}{te:TE}{t:TA}{pos:Pos}
theorem cO:PA X [] Aw:=λ_ _ _ _ H Q I h=>Calls.spliced_nil ⟨[],H,I,.nil,h⟩
theorem bp(ha:PE X e te)(hr:PA X es t)(hs:starEach (e::es) X.env=(false,eval e X.env)::starEach es X.env:=by rfl):PA X (e::es) (xB te t):=by
 intro pos ae s σ H Q I h;rw[hs];show wpAny _ _ (spliced ((false,eval e X.env)::backTo pos (starEach es X.env))) _ _ s;refine Calls.spliced_cons (cv (ha ae s σ H _ I h) λu s1 hq_=>?_)
 obtain⟨x,H1,I1,r1,q1⟩:=hq_
 exact cv (hr pos ae s1 σ H1 _ I1 q1) λus s2 ⟨xs,H2,I2,r2,q2⟩=>⟨x::xs,H2,I2,.cons r1 r2,q2⟩
def Bb(t:TA):TE:=λσ H Q=>t σ H λxs H1=>xs.length<=sizeLine/\ ∀p,H1 p=none->Q (.ref p) (bf H1 p (.tup xs))
def Bh(t:TA):TE:=λσ H Q=>t σ H λxs H1=>xs.length<=sizeLine/\ ∀p,H1 p=none->Q (.ref p) (bf H1 p (.lst xs))
theorem ub {x1}(h:PA X es t):PE X (.Tuple es x1 pos) (Bb t):=by
 intro ae s σ H Q I hq;refine wpAny_Tuple_spliced (cv (h pos ae s σ H _ I hq) λus s1 ⟨xs,H1,I1,r,z,q⟩=>⟨by rw[<-r.length];exact z,?_⟩)
 have hf:H1 s1.heap.objs.size=none:=I1.hok.fresh (Nat.le_refl _)
 refine⟨.ref s1.heap.objs.size,bf H1 s1.heap.objs.size (.tup xs),I1.laid (t':=s1.toks) (λb u e=>Heap.get?_push_of_some _ e) (Nat.le_refl _) ?_,rfl,q _ hf⟩
 exact⟨z,us,r,⟨_,Heap.get?_push_size _ rfl,rfl,_,rfl⟩,_,Heap.get?_push_size _ rfl,rfl⟩
theorem mL(h:PA X es t):PE X (.List es pos) (Bh t):=by
 intro ae s σ H Q I hq;refine wpAny_List_spliced (cv (h pos ae s σ H _ I hq) λus s1 ⟨xs,H1,I1,r,z,q⟩=>⟨by rw[<-r.length];exact z,?_⟩)
 have hf:H1 s1.heap.objs.size=none:=I1.hok.fresh (Nat.le_refl _)
 refine⟨.ref s1.heap.objs.size,bf H1 s1.heap.objs.size (.lst xs),I1.laid (t':=s1.toks) (λb u e=>Heap.get?_push_of_some _ e) (Nat.le_refl _) ?_,rfl,q _ hf⟩
 exact⟨z,us,0,r,Heap.get?_push_size _ rfl⟩
end
abbrev Sp:=List V->Hp->VK->XK->Prop
abbrev mZ:=List Env->Hp->Shared->XK->Value->Shared->Prop
structure Env0(P:Program)(w:World)(K:W.Frag)(mg:Str->Option Value)(base:Heap)(A:Around)(outer:List Env)(s:Shared)(H:Hp):Prop where
 frames:A.frames=some outer
 mod:Mod K mg base
 bs: ∀b o,base.get? b=some o->s.heap.get? b=some o/\H b=none
 bsz:base.objs.size<=s.heap.objs.size
 funs:s.heap.FunFrames base outer
 frf: ∀b∈gj outer,H b=none
 hok:HOk P w H s.heap
 bare:AllBare s.gens
def CE(outer:List Env)(P:Program)(w:World)(H:Hp)(s:Shared)(Q:VK)(u:Value)(s':Shared):Prop:=
 ∃v H',s'.os=s.os/\AllBare s'.gens/\Un (gj outer) [] H H' s.heap s'.heap/\HOk P w H' s'.heap/\RelV v u/\Q v H'
def CR(CX:mZ)(outer:List Env)(P:Program)(w:World)(H:Hp)(s:Shared)(Q:VK)(E:XK)(r:Result)(s':Shared):Prop:=
 match r with
 | .ok (.ret u)=>CE outer P w H s Q u s'
 | .ok _=>False
 | .error e=>CX outer H s E e s'
structure FnOk(P:Program)(w:World)(K:W.Frag)(mg:Str->Option Value)(base:Heap)(CX:mZ)(k:Nat)(f:Addr)(fd:FuncData)(ps:List Str)(sp:Sp):Prop where
 len: ∀vs H Q E,sp vs H Q E->vs.length=ps.length
 run: ∀(A:Around) (outer:List Env) (s:Shared) (H:Hp) (args:Args) (us:List Value) (vs:List V) (Q:VK) (E:XK),Room k A->Env0 P w K mg base A outer s H->BindsTo s fd args (ps.zip us)->Vals vs us->sp vs H Q E->
  codeAny (model P w) A (.call (.ref f) args) (CR CX outer P w H s Q E) s
theorem FnOk.imp {P:Program}{w:World}{K:W.Frag}{mg:Str->Option Value}{base:Heap}{CX:mZ}{k:Nat}{f:Addr}{fd:FuncData}{ps:List Str}{sp sp':Sp}(F:FnOk P w K mg base CX k f fd ps sp)
 (h: ∀vs H Q E,sp' vs H Q E->sp vs H Q E):FnOk P w K mg base CX k f fd ps sp':=
 ⟨λvs H Q E q=>F.len vs H Q E (h _ _ _ _ q),λA outer s H args us vs Q E hr he hb hv hs=>F.run A outer s H args us vs Q E hr he hb hv (h _ _ _ _ hs)⟩
section
variable {X:Cx}{ae:List (Addr×Obj)}{σ:St}{H:Hp}{s s':Shared}
theorem Inv.env0(I:Inv X ae σ H s):Env0 X.prog X.w X.K X.mg X.base X.A X.stack s H:=
 ⟨I.ok.frames,I.ok.mod,I.bs,Nat.le_trans I.ok.bsz I.sz,I.stack,I.stkFree,I.hok,I.bare⟩
theorem Inv.after {Q:VK}{u:Value}(I:Inv X ae σ H s)(h:CE X.stack X.prog X.w H s Q u s'):EP X ae σ Q u s':=by
 obtain⟨v,H',os,bare,un,hok,r,q⟩:=h
 obtain⟨hh,g,d,t,os'⟩:=s'
 obtain rfl:os'=s.os:=os
 exact⟨v,H',I.call (h':=hh) (g':=g) (d':=d) (t':=t) (ch:=[]) un hok bare (λb z=>absurd z (by simp)),r,q⟩
end
def Ao(sp:Sp)(dvs:List V)(E:XK)(t:TA):TE:=λσ H Q=>t σ H λvs H1=>sp (vs++dvs) H1 Q E
def Binds(K:W.Frag)(fd:FuncData)(ps:List Str)(ds:List Value):Prop:=
 ∀(s:Shared) (us:List Value),K.In s.heap->(us++ds).length=ps.length->BindsTo s fd ⟨us,[]⟩ (ps.zip (us++ds))
theorem Binds.all {K:W.Frag}{fd:FuncData}{ps:List Str}(h: ∀us:List Value,us.length=ps.length->bindArgs fd ⟨us,[]⟩=pure (ps.zip us)):Binds K fd ps []:=λs us _ hl=>by
 rw[List.append_nil] at hl⊢;exact .of_eq (h us hl)
def oX(CX:mZ)(X:Cx)(E:XK):Prop:= ∀(ae:List (Addr×Obj)) (σ:St) (H:Hp) (s:Shared) (e:Value) (s':Shared),Inv X ae σ H s->CX X.stack H s E e s'->X.xe e s'
section
variable {X:Cx}{CX:mZ}{k:Nat}{f C:Addr}{fd:FuncData}{ps:List Str}{sp:Sp}{dvs:List V}{ds:List Value}{E:XK}{x m:Str}{p pos apos:Pos}{e o:Expr}{es:List Expr}{ta:TE}{t:TA}
theorem zB {ae:List (Addr×Obj)}{σ:St}{H:Hp}{s:Shared}{Q:VK}{us:List Value}{vs:List V}(F:FnOk X.prog X.w X.K X.mg X.base CX k f fd ps sp)(hr:Room k X.A)(hb:Binds X.K fd ps ds)(hd:Vals dvs ds)(hx:oX CX X E)
 (I:Inv X ae σ H s) (r:Vals vs us) (h:sp (vs++dvs) H Q E):wpAny (model X.prog X.w) X.A (call (.ref f) us) (EP X ae σ Q) X.xe s:=by
 have r2:Vals (vs++dvs) (us++ds):=r.append hd
 have hl:(us++ds).length=ps.length:=by rw[<-r2.length];exact F.len _ _ _ _ h
 refine wpAny_call (codeAny_mono (F.run X.A X.stack s H ⟨us,[]⟩ (us++ds) (vs++dvs) Q E hr I.env0 (hb s us I.kIn hl) r2 h) λr s' hq=>?_)
 cases r with
 |error e=>exact hx ae σ H s e s' I hq
 |ok fl=>
  cases fl with
  |ret u=>exact I.after hq
  |next=>exact False.elim hq
  |brk=>exact False.elim hq
  |cont=>exact False.elim hq
theorem mI(F:FnOk X.prog X.w X.K X.mg X.base CX k f fd ps sp)(hr:Room k X.A)(hg:Gl X x)(hm:X.mg x=some (.ref f))(hk:W.keepIn X.K (.ref f)=true)(hb:Binds X.K fd ps ds)(hd:Vals dvs ds)(hx:oX CX X E)
 (ha:PA X (e::es) t) (hdb:(x==("__debug__":Str))=false:=by decide) (he:starEach (e::es) X.env=(false,eval e X.env)::starEach es X.env:=by rfl) (hpl:(backTo pos (starEach es X.env)).any (·.1)=false:=by rfl):
 PE X (.Call (.Name x p) (e::es) [] pos) (Ao sp dvs E t):=by
 intro ae s σ H Q I h;refine wpAny_Call_Name_kw (gQ I hg hm ?_ hdb)
 refine W.callWith_K (h₀:=X.base) I.ok.mod.kin hk (cv (ha pos ae s σ H _ I h) λus s1 ⟨vs,H1,I1,r,q⟩=>⟨I1.kIn,?_⟩) he hpl
 exact zB F hr hb hd hx I1 r q
end
structure FnScope(N P:List Str)(sc:Scope):Prop where
 kind:sc.kind=.function
 co:sc.isCoroutine=false
 gen:sc.isGenerator=false
 nd:N.Nodup
 pre:N.take P.length=P
 par: ∀x∈P,sc.names.lookup x=some .local\/sc.names.lookup x=some .cell
 nofree: ∀y∈sc.names,y.2≠ .free
theorem lc {kindOf:Str->Option NameKind}{x:Str}: ∀ {binds:List (Str×Value)} {m:Str->Option Value},(∀v,(x,v)∉binds)->bindL kindOf binds m x=m x
 | [],_,_=>rfl
 |(n,v)::r,m,h=>by
  unfold bindL;rw[lc λw hw=>h w (List.mem_cons_of_mem _ hw)]
  split
  ·have:x≠n:=by rintro rfl;exact h v List.mem_cons_self
   simp[this]
  ·rfl
theorem lM {kindOf:Str->Option NameKind}{x:Str}: ∀ {binds:List (Str×Value)} {m:Str->Option Value},(∀v,(x,v)∉binds)->bindC kindOf binds m x=m x
 | [],_,_=>rfl
 |(n,v)::r,m,h=>by
  unfold bindC;rw[lM λw hw=>h w (List.mem_cons_of_mem _ hw)]
  split
  ·rfl
  ·have:x≠n:=by rintro rfl;exact h v List.mem_cons_self
   simp[this]
theorem iW {kindOf:Str->Option NameKind}{x:Str}{v:Value}: ∀ {P:List Str} {vs:List Value} {i:Nat} {m:Str->Option Value},P.Nodup->P[i]? =some x->vs[i]? =some v->kindOf x=some .local->
 bindL kindOf (P.zip vs) m x=some v
 | [],_,_,_,_,h,_,_=>by simp at h
 |_::_,[],_,_,_,_,h,_=>by simp at h
 |p::P,w::vs,0,m,nd,h1,h2,hk=>by
  simp at h1 h2;subst h1;subst h2;show bindL kindOf ((p,w)::P.zip vs) m p=_;unfold bindL;rw[lc λv hv=>(List.nodup_cons.mp nd).1 (List.of_mem_zip hv).1,if_pos hk]
  simp
 |p::P,w::vs,i+1,m,nd,h1,h2,hk=>by
  show bindL kindOf ((p,w)::P.zip vs) m x=_;unfold bindL;exact iW (i:=i) (List.nodup_cons.mp nd).2 (by simpa using h1) (by simpa using h2) hk
theorem jf {kindOf:Str->Option NameKind}{x:Str}{v:Value}: ∀ {P:List Str} {vs:List Value} {i:Nat} {m:Str->Option Value},P.Nodup->P[i]? =some x->vs[i]? =some v->kindOf x≠some .local->
 bindC kindOf (P.zip vs) m x=some v
 | [],_,_,_,_,h,_,_=>by simp at h
 |_::_,[],_,_,_,_,h,_=>by simp at h
 |p::P,w::vs,0,m,nd,h1,h2,hk=>by
  simp at h1 h2;subst h1;subst h2;show bindC kindOf ((p,w)::P.zip vs) m p=_;unfold bindC;rw[lM λv hv=>(List.nodup_cons.mp nd).1 (List.of_mem_zip hv).1,if_neg hk]
  simp
 |p::P,w::vs,i+1,m,nd,h1,h2,hk=>by
  show bindC kindOf ((p,w)::P.zip vs) m x=_;unfold bindC;exact jf (i:=i) (List.nodup_cons.mp nd).2 (by simpa using h1) (by simpa using h2) hk
def cR(N:List Str)(vs:List V):St:=vs.map some++List.replicate (N.length-vs.length) none
def ji(CX:mZ)(P:Program)(w:World)(K:W.Frag)(mg:Str->Option Value)(base:Heap)(N:List Str)(qual:Str)(scope:Scope)(f:Addr)(cd:Value)(A:Around)(outer:List Env)(s:Shared)(H:Hp)(E:XK):Cx where
 prog:=P
 w:=w
 K:=K
 mg:=mg
 base:=base
 A:=A.deeper (envOfC qual scope s.heap.objs.size f cd)
 N:=N
 s₀:=s
 H₀:=H
 env:=envOfC qual scope s.heap.objs.size f cd
 outer:=outer
 stack:=envOfC qual scope s.heap.objs.size f cd::outer
 ex:=[]
 calm:=true
 fn:=λ_=>true
 pn:=[]
 xe:=λe s'=>wpAny (model P w) (A.deeper (envOfC qual scope s.heap.objs.size f cd)) (leaving (envOfC qual scope s.heap.objs.size f cd) e) (λ_ s''=>CX outer H s E e s'') (λe' s''=>CX outer H s E e' s'') s'
theorem iD {sc:Scope}{n:Nat}{x:Str}(h:sc.names.lookup x=some .cell): ∃c,(cellsFrom n sc.names []).lookup x=some c:=by
 have q:=W.cellsFrom_some sc.names n [] (.inl h)
 exact Option.isSome_iff_exists.mp q
theorem sF {CX:mZ}{P:Program}{w:World}{K:W.Frag}{mg:Str->Option Value}{base:Heap}{N ps:List Str}{qual:Str}{scope:Scope}{f:Addr}{cd:Value}{A:Around}{outer:List Env}{s s1:Shared}{H:Hp}{E:XK}{us:List Value}{vs:List V}
 (S:FnScope N ps scope) (hd:A.handled=none) (e0:Env0 P w K mg base A outer s H) (hl:vs.length=ps.length) (r:Vals vs us)
 (x:InCallC s s.heap.objs.size (bindL (envOfC qual scope s.heap.objs.size f cd).kindOf (ps.zip us) λ_=>none) (cellsFrom (s.heap.objs.size+1) scope.names []) (bindC (envOfC qual scope s.heap.objs.size f cd).kindOf (ps.zip us) λ_=>none) s1):
 Inv (ji CX P w K mg base N qual scope f cd A outer s H E) [] (cR N vs) H s1:=by
 have hpl:ps.length<=N.length:=by have:=congrArg List.length S.pre;rw[List.length_take] at this;omega
 obtain⟨h1,tk,rfl,hk⟩:=x.done
 have noA: ∀b:Addr,b∉(ji CX P w K mg base N qual scope f cd A outer s H E).ex:=λb z=>absurd (show b∈([]:List Addr) from z) (by simp)
 refine⟨⟨e0.mod,S.kind,rfl,rfl,Nat.le_refl _,λy z c h1 h2=>?_,λy hy=>?_,λy c _ h=>?_,λ_=>hd,Around.frames_deeper e0.frames,.inr ⟨rfl,rfl⟩,λb z=>absurd z (noA b),e0.bs,e0.bsz,λb _ _=>noA b,λb z=>absurd z (noA b),e0.funs,e0.frf⟩,
  rfl,e0.bare,Un.kept hk,⟨_,x.toInCall.ns,λi y v h1 h2 h3=>?_⟩,λy c h=>⟨_,x.cell y c h⟩,e0.hok.fresh (Nat.le_refl _),λy c h=>?_,λp hp=>absurd (show p∈([]:List (Addr×Obj)) from hp) (by simp),e0.hok.kept hk,?_⟩
 ·exact name_of_addr x.apart (PySem.mem_of_lookup h1) (PySem.mem_of_lookup h2)
 ·have hy:scope.names.lookup y=some .cell\/scope.names.lookup y=some .free:=hy
  rcases hy with hy|hy
  ·exact iD hy
  ·exact absurd rfl (S.nofree _ (PySem.mem_of_lookup hy))
 ·exact Nat.le_of_lt (x.above y c (PySem.mem_of_lookup h))
 ·have hi:i<vs.length:=by
   unfold cR at h2
   by_cases hi:i<vs.length
   ·exact hi
   ·rw[List.getElem?_append_right (by simpa using hi)] at h2
    rw[List.getElem?_replicate] at h2;split at h2<;>cases h2
  have ha:vs[i]? =some v:=by
   unfold cR at h2;rw[List.getElem?_append_left (by simpa using hi),List.getElem?_map] at h2
   cases e:vs[i]? with
   |none=>rw[e] at h2;cases h2
   |some a=>rw[e] at h2;cases h2;rfl
  obtain⟨u,hu,rv⟩:=r.get ha
  have hp:ps[i]? =some y:=by
   rw[<-S.pre,List.getElem?_take_of_lt (by omega)];exact h1
  have ndP:ps.Nodup:=by rw[<-S.pre];exact S.nd.sublist (List.take_sublist _ _)
  refine⟨u,rv,?_⟩
  rcases S.par y (List.mem_of_getElem? hp) with k|k
  ·exact .inl ⟨k,iW ndP hp hu k⟩
  ·obtain⟨c,e⟩:=iD (n:=s.heap.objs.size+1) k
   refine .inr ⟨.inl k,c,e,?_⟩
   have q:=x.cell y c e
   rw[jf ndP hp hu (by show scope.names.lookup y≠_;rw[k];decide)] at q
   exact q
 ·exact e0.hok.fresh (Nat.le_of_lt (x.above y c (PySem.mem_of_lookup h)))
 ·unfold cR
  show _=N.length;rw[List.length_append,List.length_map,List.length_replicate];omega
theorem xm {CX:mZ}{P:Program}{w:World}{K:W.Frag}{mg:Str->Option Value}{base:Heap}{k:Nat}{f:Addr}{name qual:Str}{params:Arguments}{body:List Stmt}{scope:Scope}{dV kV doc pm cdv ct oc:Value}{an od:Option Addr}
 {osl:Array (Option Value)} {N ps:List Str} {sp:Sp} (lk:K.lookup f=some ⟨oc,od,.func (W.fnOf name qual params body scope dV kV doc pm an cdv ct),osl⟩) (hcd:W.codeIn K cdv qual=true) (S:FnScope N ps scope)
 (len: ∀vs H Q E,sp vs H Q E->vs.length=ps.length)
 (hbody: ∀(A:Around) (outer:List Env) (s:Shared) (H:Hp) (vs:List V) (Q:VK) (E:XK),Room k (A.deeper (envOfC qual scope s.heap.objs.size f cdv))->sp vs H Q E->
   ∃t,PSs (ji CX P w K mg base N qual scope f cdv A outer s H E) body t/\t {nx:=λ_ H'=>Q .non H',rt:=Q} (cR N vs) H):
 FnOk P w K mg base CX (k+1) f (W.fnOf name qual params body scope dV kV doc pm an cdv ct) ps sp:=by
 refine⟨len,λA outer s H args us vs Q E hr e0 hb r hsp=>?_⟩
 have hl:=len _ _ _ _ hsp
 have KX:K.In s.heap:=e0.mod.kin.keeps λb o e=>(e0.bs b o e).1
 have lim:s.heap.NoLimit:=e0.mod.nolimit.keeps λb o e=>(e0.bs b o e).1
 have hkind: ∀y∈ps.zip us,scope.names.lookup y.1=some .local\/(scope.names.lookup y.1=some .cell/\((cellsFrom (s.heap.objs.size+1) scope.names []).lookup y.1).isSome=true):=λ⟨n,v⟩ hy=>by
  rcases S.par n (List.of_mem_zip hy).1 with q|q
  ·exact .inl q
  ·exact .inr ⟨q,W.cellsFrom_some _ _ _ (.inl q)⟩
 refine codeAny_call_function hr.depth (KX _ _ lk) rfl S.co S.gen rfl (W.codeRec_of KX hcd) (hb _ _ _ _ ?_)
 refine wpAny_newFunctionEnv_cells S.kind hkind λenv he s1 x=>?_
 subst he;refine⟨lim.keeps x.toInCall.keep,codeAny_func ?_⟩
 obtain⟨t,ht,hq⟩:=hbody A outer s H vs Q E (hr.deeper _) hsp
 have I:Inv (ji CX P w K mg base N qual scope f cdv A outer s H E) [] (cR N vs) H s1:=sF S hr.hd e0 hl r x
 refine wpAny_mono (ht [] s1 (cR N vs) H _ I hq) (λfl s' hs=>?_) λe s' hs=>hs
 have fin: ∀ {σ':St} {H':Hp} {v:V} {u:Value},Inv (ji CX P w K mg base N qual scope f cdv A outer s H E) [] σ' H' s'->RelV v u->Q v H'->CE outer P w H s Q u s':=
  λ{σ' H' v u} J rv q=>⟨v,H',J.os,J.bare,J.base,J.hok,rv,q⟩
 cases fl with
 |ret u=>
  obtain⟨v,σ',H',J,rv,q⟩:=hs
  exact fin J rv q
 |next=>
  obtain⟨σ',H',J,q⟩:=hs
  exact fin (v:=V.non) (u:=Value.none) J rfl q
 |brk=>
  obtain⟨_,_,_,q⟩:=hs
  exact False.elim q
 |cont=>
  obtain⟨_,_,_,q⟩:=hs
  exact False.elim q
section
variable {X:Cx}{x:Str}{p pos:Pos}{e:Expr}{es:List Expr}{t:TA}{id T:String}{r:List V->Hp->VK->Prop}
def AU(r:List V->Hp->VK->Prop)(t:TA):TE:=λσ H Q=>t σ H λvs H1=>r vs H1 Q
theorem iJ(hc:er X (.builtin id) r)(hg:Gl X x)(hm:X.mg x=none)(hv:bootBuiltins x=some (.builtin id))(ha:PA X (e::es) t)(hn:x≠"__name__":=by decide)(hdb:(x==("__debug__":Str))=false:=by decide)
 (he:starEach (e::es) X.env=(false,eval e X.env)::starEach es X.env:=by rfl) (hpl:(backTo pos (starEach es X.env)).any (·.1)=false:=by rfl):PE X (.Call (.Name x p) (e::es) [] pos) (AU r t):=by
 intro ae s σ H Q I h;refine wpAny_Call_Name_kw (ke I hg hm hv ?_ hn hdb)
 exact PyProof.Rows.callWith_builtin1 (cv (ha pos ae s σ H _ I h) λus s1 ⟨vs,H1,I1,r1,q1⟩=>hc ae s1 σ H1 vs us Q I1 r1 q1) he hpl
theorem eN(hc:er X (.type T) r)(hg:Gl X x)(hm:X.mg x=none)(hv:bootBuiltins x=some (.type T))(ha:PA X (e::es) t)(hn:x≠"__name__":=by decide)(hdb:(x==("__debug__":Str))=false:=by decide)
 (he:starEach (e::es) X.env=(false,eval e X.env)::starEach es X.env:=by rfl) (hpl:(backTo pos (starEach es X.env)).any (·.1)=false:=by rfl):PE X (.Call (.Name x p) (e::es) [] pos) (AU r t):=by
 intro ae s σ H Q I h;refine wpAny_Call_Name_kw (ke I hg hm hv ?_ hn hdb)
 exact PyProof.Rows.callWith_type1 (cv (ha pos ae s σ H _ I h) λus s1 ⟨vs,H1,I1,r1,q1⟩=>hc ae s1 σ H1 vs us Q I1 r1 q1) he hpl
end
end L2
namespace HT
open PySem PyProof.Rows
end HT
namespace L2
open PySem PySem.Spec PyProof.Rows
def kP(n:Nat)(i:Int):Option Nat:=if 0<=i then(if i<n then some i.toNat else none) else if -(n:Int)<=i then some (i+n).toNat else none
def kL {α:Type}(xs:List α)(i:Int):Option α:=(kP xs.length i).bind λj=>xs[j]?
theorem mK {n:Nat}{i:Int}{j:Nat}(h:kP n i=some j):seqIndex? i n=some j/\j<n/\ -(n:Int)<=i/\i<n:=by
 unfold kP at h
 by_cases h0:0<=i
 ·rw[if_pos h0] at h
  by_cases h1:i<n
  ·rw[if_pos h1] at h
   have e:i.toNat=j:=Option.some.inj h
   exact⟨by rw[seqIndex_of h0 h1,e],by omega,by omega,h1⟩
  ·rw[if_neg h1] at h;cases h
 ·rw[if_neg h0] at h
  by_cases h1: -(n:Int)<=i
  ·rw[if_pos h1] at h
   have e:(i+n).toNat=j:=Option.some.inj h
   exact⟨by rw[seqIndex_neg (by omega) h1,e],by omega,h1,by omega⟩
  ·rw[if_neg h1] at h;cases h
theorem my {α:Type}{xs:List α}{i:Int}{v:α}(h:kL xs i=some v): ∃j,seqIndex? i xs.length=some j/\xs[j]? =some v/\j<xs.length/\ -(xs.length:Int)<=i/\i<xs.length:=by
 unfold kL at h;cases e:kP xs.length i with
 |none=>rw[e] at h;cases h
 |some j=>
  rw[e] at h;obtain⟨h1,h2,h3,h4⟩:=mK e
  exact⟨j,h1,h,h2,h3,h4⟩
theorem v7 {α:Type}{xs:List α}{j:Nat}{v:α}(h:xs[j]? =some v):kL xs (j:Int)=some v:=by
 have hj:j<xs.length:=(List.getElem?_eq_some_iff.mp h).1
 have e:kP xs.length (j:Int)=some j:=by
  unfold kP;rw[if_pos (by omega),if_pos (by omega)];simp
 unfold kL;rw[e];exact h
def lY(b:Expr):Prop:= ∀o i,subscripted b false o i=operate [o,i] (getItem o i)
def IxR(X:Cx)(r:R2):Prop:=
 ∀(value slice:Expr) (ae:List (Addr×Obj)) (s:Shared) (σ:St) (H:Hp) (x y:V) (v u:Value) (Q:VK),Inv X ae σ H s->RelV x v->RelV y u->r x y H Q->
  subscripted slice false v u=operate [v,u] (getItem v u)->wpAny (model X.prog X.w) X.A (subscriptTail value slice v u) (EP X ae σ Q) X.xe s
def CC(X:Cx)(id:String)(r:V->List V->Hp->VK->Prop):Prop:=
 ∀(ae:List (Addr×Obj)) (s:Shared) (σ:St) (H:Hp) (x:V) (xs:List V) (v:Value) (us:List Value) (Q:VK),Inv X ae σ H s->RelV x v->Vals xs us->r x xs H Q->
  wpAny (model X.prog X.w) X.A (call (.builtin id) (v::us)) (EP X ae σ Q) X.xe s
section
variable {X:Cx}{a b:Expr}{ta tb:TE}{pos:Pos}
theorem IxR.or {r r':R2}(h:IxR X r)(h':IxR X r'):IxR X (λx y H Q=>r x y H Q\/r' x y H Q):=by
 intro value slice ae s σ H x y v u Q I rx ry q hs;rcases q with q|q
 ·exact h value slice ae s σ H x y v u Q I rx ry q hs
 ·exact h' value slice ae s σ H x y v u Q I rx ry q hs
theorem xI {r:R2}(hr:IxR X r)(ha:PE X a ta)(hb:PE X b tb)(hs:lY b):PE X (.Subscript a b pos) (yu r ta tb):=by
 intro ae s σ H Q I h;exact Subscript_ (yY ha hb I h λv u s2 x y H2 I2 rx ry q=>hr a b ae s2 σ H2 x y v u Q I2 rx ry q (hs _ _))
def z9(K:W.Frag):R2:=λx y H Q=> ∃p xs i v,x=.ref p/\y=.int i/\SqL K H p xs/\kL xs i=some v/\Q v H
def zN(K:W.Frag):R2:=λx y H Q=> ∃p xs i v,x=.ref p/\y=.int i/\SqT K H p xs/\kL xs i=some v/\Q v H
def zW:R2:=λx y H Q=> ∃z i c,x=.str z/\y=.int i/\z.length<=sizeLine/\kL z.cps.toList i=some c/\Q (.str ⟨#[c]⟩) H
theorem ix_list:IxR X (z9 X.K):=by
 intro value slice ae s σ H x y v u Q I rx ry h hs;obtain⟨p,xs,i,z,rfl,rfl,hq,he,q⟩:=h
 cases rx
 obtain⟨t,rfl⟩:=ry
 obtain⟨its,r,pl,hz⟩:=I.list hq
 obtain⟨j,h1,h2,h3,h4,h5⟩:=my he
 obtain⟨w,ew,rw'⟩:=r.get h2
 have hl:=r.length
 have hn:=iq
 have fin:EP X ae σ Q w s:=⟨z,H,I,rw',q⟩
 by_cases h0:0<=i
 ·have hj:i.toNat=j:=by
   rw[seqIndex_of h0 h5] at h1;exact Option.some.inj h1
  exact item_listR pl.isList h0 (by omega) (by rw[hj];simpa using ew) fin hs
 ·have hj:(i+(its.toArray.size:Int)).toNat=j:=by
   rw[seqIndex_neg (by omega) h4] at h1
   rw[List.size_toArray,<-hl];exact Option.some.inj h1
  exact subscriptTail_builtinR (x:=w) pl.isList.typeIs slot_list_getitem.lookup
   (wpAny_getItem_list_neg (Q:=λr s'=>r=w/\EP X ae σ Q r s') pl.isList (by omega) (by rw[List.size_toArray]<;>omega) (by omega) (by rw[hj];simpa using ew) ⟨rfl,fin⟩) hs
theorem ix_tup:IxR X (zN X.K):=by
 intro value slice ae s σ H x y v u Q I rx ry h hs;obtain⟨p,xs,i,z,rfl,rfl,hq,he,q⟩:=h
 cases rx
 obtain⟨t,rfl⟩:=ry
 obtain⟨its,r,pl,hz⟩:=I.tuple hq
 obtain⟨j,h1,h2,h3,h4,h5⟩:=my he
 obtain⟨w,ew,rw'⟩:=r.get h2
 have hl:=r.length
 have hn:=iq
 have fin:EP X ae σ Q w s:=⟨z,H,I,rw',q⟩
 exact subscriptTail_builtinR (x:=w) pl.typeIs slot_tuple_getitem.lookup
  (getItem_tuple (j:=j) (Q:=λr s'=>r=w/\EP X ae σ Q r s') pl (by omega) (by omega) (by rw[List.size_toArray,<-hl];exact h1) (by simpa using ew) ⟨rfl,fin⟩) hs
theorem xP:IxR X zW:=by
 intro value slice ae s σ H x y v u Q I rx ry h hs;obtain⟨z,i,c,rfl,rfl,hz,he,q⟩:=h
 obtain⟨t,rfl⟩:=rx
 obtain⟨t',rfl⟩:=ry
 obtain⟨j,h1,h2,h3,h4,h5⟩:=my he
 have hl:z.cps.toList.length=z.length:=by simp[Str.length]
 rw[hl] at h1 h4 h5;have hn:=iq
 exact tail_any (typeIs_str s z t) slot_str_getitem.lookup (getItem_str (c:=c) (by
  have e1:decide (i< -(2^63:Int))=false:=decide_eq_false (by omega)
  have e2:decide (i≥2^63)=false:=decide_eq_false (by omega)
  rw[e1,e2,Bool.or_false]) (by rw[h1];simpa using h2) ⟨.str ⟨#[c]⟩,H,I.tok _,⟨_,rfl⟩,q⟩) hs
def Cd(K:W.Frag):R2:=λx y H Q=>z9 K x y H Q\/zN K x y H Q\/zW x y H Q
theorem aE:IxR X (Cd X.K):=ix_list.or (ix_tup.or xP)
theorem pC(its:List Value)(n j:Nat)(u:Value):Obj.mapSeq (·.setIfInBounds j u) {cls:=.type "list",data:=.seq its.toArray n}={cls:=.type "list",data:=.seq (its.set j u).toArray n}:=by
 simp[Obj.mapSeq]
theorem Inv.lst {ae:List (Addr×Obj)}{σ:St}{H:Hp}{s:Shared}{p:Addr}{xs:List V}(I:Inv X ae σ H s)(h:H p=some (.lst xs)):
 ∃(its:List Value) (n:Nat),Vals xs its/\s.heap.get? p=some {cls:=.type "list",data:=.seq its.toArray n}/\xs.length<=sizeLine:=by
 obtain⟨z,its,n,r,e⟩:=I.hok p _ h
 exact⟨its,n,r,e,z⟩
theorem Inv.lstUpd {ae:List (Addr×Obj)}{σ:St}{H:Hp}{s:Shared}{p:Addr}{xs ys:List V}{its its':List Value}{n n':Nat}{f:Obj->Obj}(I:Inv X ae σ H s)(h:H p=some (.lst xs))
 (ho:s.heap.get? p=some {cls:=.type "list",data:=.seq its.toArray n}) (hf:f {cls:=.type "list",data:=.seq its.toArray n}={cls:=.type "list",data:=.seq its'.toArray n'}) (r:Vals ys its') (hz:ys.length<=sizeLine) (t:Nat):
 Inv X ae σ (bf H p (.lst ys)) {s with heap:=s.heap.update p f,toks:=t}:=by
 have e:(s.heap.update p f).get? p=some {cls:=.type "list",data:=.seq its'.toArray n'}:=by
  rw[Heap.get?_update_self f ho (by rw[hf]<;>rfl),hf]
 refine I.write (x:=p) (e:=p) (by rw[h];trivial) (.inl rfl) (λb u hb q=>(Heap.get?_update_other _ _ (Ne.symm hb)).trans q) ⟨_,e⟩ ?_
 exact⟨hz,its',n',r,e⟩
def Ae:V->V->V->Hp->(Hp->Prop)->Prop:=λo i v H Q=> ∃p xs k j,o=.ref p/\i=.int k/\H p=some (.lst xs)/\kP xs.length k=some j/\Q (bf H p (.lst (xs.set j v)))
theorem oo:vX X Ae:=by
 intro ae s σ H o i v ov iv u Q I ro ri rv h;obtain⟨p,xs,k,j,rfl,rfl,hp,hj,q⟩:=h
 cases ro
 obtain⟨t,rfl⟩:=ri
 obtain⟨its,n,r,ho,hz⟩:=I.lst hp
 obtain⟨h1,h2,h3,h4⟩:=mK hj
 have hl:=r.length
 have hn:=iq
 have I':Inv X ae σ (bf H p (.lst (xs.set j v))) {s with heap:=s.heap.update p (Obj.mapSeq (·.setIfInBounds j u))}:=
  I.lstUpd hp ho (pC its n j u) (r.set rv j) (by rw[List.length_set];exact hz) s.toks
 by_cases h0:0<=k
 ·have hk:k.toNat=j:=by
   rw[seqIndex_of h0 h4] at h1;exact Option.some.inj h1
  exact W.ki_setAt ho h0 (by omega) (by rw[List.size_toArray,<-hl];exact h4) (by rw[hk];exact⟨_,I',q⟩)
 ·have hk:(k+(its.toArray.size:Int)).toNat=j:=by
   rw[seqIndex_neg (by omega) h3] at h1
   rw[List.size_toArray,<-hl];exact Option.some.inj h1
  exact W.ki_setBack ho (by omega) (by rw[List.size_toArray,<-hl];exact h3) (by omega) (by rw[hk];exact⟨_,I',q⟩)
theorem bb:er X (.builtin "len") (λxs H Q=> ∃p ys,xs=[.ref p]/\(SqL X.K H p ys\/SqT X.K H p ys)/\Q (.int ys.length) H):=by
 intro ae s σ H xs us Q I r h;obtain⟨p,ys,rfl,hq,q⟩:=h
 obtain⟨u,rfl,rx⟩:=iL r
 cases rx
 have hn:=iq
 rcases hq with hq|hq
 ·obtain⟨its,r',pl,hz⟩:=I.list hq
  have hlen:=r'.length
  exact Calls.call_len_list pl.isList (by simp only[List.size_toArray]<;>omega) ⟨.int ys.length,H,I.tok _,⟨s.toks+1,by rw[List.size_toArray,hlen]⟩,q⟩
 ·obtain⟨its,r',pl,hz⟩:=I.tuple hq
  have hlen:=r'.length
  exact len_tuple pl (by simp only[List.size_toArray]<;>omega) ⟨.int ys.length,H,I.tok _,⟨s.toks+1,by rw[List.size_toArray,hlen]⟩,q⟩
theorem bx:er X (.type "tuple") (λxs H Q=> ∃p ys,xs=[.ref p]/\((SqL X.K H p ys/\ ∀l,H l=none->Q (.ref l) (bf H l (.tup ys)))\/(SqT X.K H p ys/\Q (.ref p) H))):=by
 intro ae s σ H xs us Q I r h;obtain⟨p,ys,rfl,h⟩:=h
 obtain⟨u,rfl,rx⟩:=iL r
 cases rx
 rcases h with⟨hq,q⟩|⟨hq,q⟩
 ·obtain⟨its,r',pl,hz⟩:=I.list hq
  have hlen:=r'.length
  refine call_tuple_list pl.isList (λh' kp=>?_) (by simp only[List.size_toArray]<;>omega)
  have I1:Inv X ae σ H {s with heap:=h'}:=I.kept (t':=s.toks) kp
  have I2:Inv X ae σ (bf H h'.objs.size (.tup ys)) {s with heap:=h'.push {cls:=.type "tuple",data:=.seq its.toArray}}:=
   I1.laid (t':=s.toks) (λb o e=>Heap.get?_push_of_some _ e) (Nat.le_refl _) (show ObjOk X.prog X.w _ _ _ (.tup ys) from⟨hz,its,r',IsTup.new _ _,_,Heap.get?_push_size _ rfl,rfl⟩)
  exact⟨.ref h'.objs.size,_,I2,rfl,q _ (I1.hok.fresh (Nat.le_refl _))⟩
 ·obtain⟨its,r',pl,hz⟩:=I.tuple hq
  exact call_tuple_same pl ⟨.ref p,H,I,rfl,q⟩
def Ch(K:W.Frag)(T:String)(x:V)(H:Hp):Prop:=match x with
 | .str _=>T="str"
 | .int _=>T="int"
 | .ref p=>(T="list"/\ ∃xs,SqL K H p xs)\/(T="tuple"/\ ∃xs,SqT K H p xs)\/
    (T="dict"/\((∃kvs,H p=some (.dK kvs))\/ ∃kvs,H p=some (.dT kvs)))\/(T="set"/\ ∃S n,H p=some (.set S n))\/(T="set"/\ ∃xs,H p=some (.tst xs))
 |_=>False
theorem yQ {ae:List (Addr×Obj)}{σ:St}{H:Hp}{s:Shared}{T:String}{x:V}{v:Value}(I:Inv X ae σ H s)(r:RelV x v)(ty:Ch X.K T x H):
 s.TypeIs v T/\ ∀a,v=.ref a-> ∃ob,s.heap.get? a=some ob/\ob.dict=none:=by
 cases x with
 |str z=>
  obtain⟨t,rfl⟩:=r
  cases (show T="str" from ty)
  exact⟨typeIs_str s z t,λ_ e=>nomatch e⟩
 |int i=>
  obtain⟨t,rfl⟩:=r
  cases (show T="int" from ty)
  exact⟨typeIs_int s i t,λ_ e=>nomatch e⟩
 |ref p=>
  cases r
  rcases ty with⟨rfl,xs,hq⟩|⟨rfl,xs,hq⟩|⟨rfl,hk⟩|⟨rfl,S,n,hk⟩|⟨rfl,xs,hk⟩
  ·obtain⟨its,_,pl,_⟩:=I.list hq
   refine⟨pl.isList.typeIs,λa e=>?_⟩
   cases e
   obtain⟨o,n,e,c,hd,_⟩:=pl
   exact⟨o,e,hd⟩
  ·obtain⟨⟨ob,ho,hc⟩,o2,h2,hd⟩:=I.tupleN hq
   refine⟨⟨ob,ho,hc⟩,λa e=>?_⟩
   cases e
   exact⟨o2,h2,hd⟩
  ·have z: ∃o,s.heap.get? p=some o/\o.ExactDict:=by
    rcases hk with⟨kvs,hk⟩|⟨kvs,hk⟩
    ·obtain⟨_,_,_,_,o,_,_,e,ex,_⟩:=I.hok p _ hk
     exact⟨o,e,ex⟩
    ·obtain⟨_,_,_,_,o,_,_,e,ex,_⟩:=I.hok p _ hk
     exact⟨o,e,ex⟩
   obtain⟨o,e,ex⟩:=z
   refine⟨⟨o,e,ex.1⟩,λa e2=>?_⟩
   cases e2
   exact⟨o,e,ex.2.1⟩
  ·obtain⟨o,_,_,_,e,ex,_⟩:=I.hok p _ hk
   refine⟨⟨o,e,ex.1⟩,λa e2=>?_⟩
   cases e2
   exact⟨o,e,ex.2.1⟩
  ·obtain⟨o,_,_,_,e,ex⟩:=I.hok p _ hk
   refine⟨⟨o,e,ex.ex.1⟩,λa e2=>?_⟩
   cases e2
   exact⟨o,e,ex.ex.2.1⟩
 |_=>exact False.elim ty
def Cy(K:W.Frag)(T:String)(r:V->List V->Hp->VK->Prop)(to:TE)(t:TA):TE:=λσ H Q=>to σ H λx H1=>Ch K T x H1/\t σ H1 λxs H2=>r x xs H2 Q
variable {o e:Expr}{es:List Expr}{to:TE}{t:TA}{name:Str}{apos cpos:Pos}{T id:String}{r:V->List V->Hp->VK->Prop}
theorem xy(pa:PlainAttrs T)(slot:Slot T name id)(hty:typeOf (.builtin id)=pure (.type "method_descriptor"))(hm:CC X id r)(ho:PE X o to)(ha:PA X (e::es) t)
 (hbase:attributeBase o name X.env (eval o X.env)=eval o X.env:=by rfl)
 (hfew:((backTo cpos (starEach (e::es) X.env)).all (λx=> !x.1)&&(backToKw cpos (keywordEach [] X.env)).all (λx=>x.1.isSome)
   &&decide ((e::es).length+([]:List Keyword).length+(if([]:List Keyword).isEmpty then 0 else 1)<30))=true:=by rfl)
 (hline:(apos.endLine==cpos.line)=true:=by rfl) (hs:starEach (e::es) X.env=(false,eval e X.env)::starEach es X.env:=by rfl) (hplain:(backTo cpos (starEach es X.env)).any (·.1)=false:=by rfl):
 PE X (.Call (.Attribute o name apos) (e::es) [] cpos) (Cy X.K T r to t):=by
 intro ae s σ H Q I h;refine wpAny_Call_method_late hbase hfew hline rfl (cv (ho ae s σ H _ I h) λv s1 hq_=>?_)
 obtain⟨x,H1,I1,r1,ty,q1⟩:=hq_
 obtain⟨h1,h2⟩:=yQ I1 r1 ty
 refine⟨T,id,pa,slot,hty,h1,h2,?_⟩
 have hA:=ha cpos ae s1 σ H1 _ I1 q1
 rw[hs] at hA⊢;refine Calls.callWith_builtin (by show(false||(backTo cpos (starEach es X.env)).any (·.1))=false;rw[hplain]<;>rfl) (Calls.evalArgs_plain ?_)
 exact cv hA λus s2 ⟨vs,H2,I2,r2,q2⟩=>hm ae s2 σ H2 x vs v us Q I2 r1 r2 q2
end
def BT(X:Cx)(id:String)(r:V->List V->Hp->VK->Prop):Prop:=
 ∀(ae:List (Addr×Obj)) (s:Shared) (σ:St) (H:Hp) (x:V) (xs:List V) (v:Value) (us:List Value) (Q:VK),Inv X ae σ H s->RelV x v->Vals xs us->r x xs H Q->
  wpAny (model X.prog X.w) X.A (call (.builtin id) (v::us)) (EP X ae σ Q) X.xe s
theorem Vals.one: ∀ {x:V} {us:List Value},Vals [x] us-> ∃u,us=[u]/\RelV x u
 |_,_,.cons r .nil=>⟨_,rfl,r⟩
theorem Vals.eraseIdx: ∀ {xs:List V} {us:List Value} (i:Nat),Vals xs us->Vals (xs.eraseIdx i) (us.eraseIdx i)
 |_,_,_,.nil=>.nil
 |_,_,0,.cons _ t=>t
 |_,_,i+1,.cons r t=>.cons r (Vals.eraseIdx i t)
theorem lj {α:Type}: ∀(l:List α) (i:Nat),(l.eraseIdx i).length<=l.length
 | [],_=>Nat.le_refl _
 |_::_,0=>Nat.le_succ _
 |_::r,i+1=>Nat.succ_le_succ (lj r i)
section
variable {X:Cx}{ae:List (Addr×Obj)}{σ:St}{H:Hp}{s:Shared}{l b:Addr}{xs ys zs:List V}
theorem Inv.lset {its its':List Value}{n:Nat}{f:Array Value->Array Value}{t':Nat}(I:Inv X ae σ H s)(hH:H l=some (.lst xs))
 (e:s.heap.get? l=some {cls:=.type "list",data:=.seq its.toArray n}) (hf:f its.toArray=its'.toArray) (hv:Vals ys its') (hz:ys.length<=sizeLine):
 Inv X ae σ (bf H l (.lst ys)) {s with heap:=s.heap.update l (Obj.mapSeq f),toks:=t'}:=by
 have q:=PySem.IsL.update e f
 rw[hf] at q;refine I.write (x:=l) (e:=l) (by rw[hH];exact trivial) (.inl rfl) (λb' u hb hu=>(Heap.get?_update_other s.heap (Obj.mapSeq f) (Ne.symm hb)).trans hu) ⟨_,q⟩ ?_
 exact⟨hz,its',_,hv,q⟩
theorem Inv.lnew {its:List Value}{t':Nat}(I:Inv X ae σ H s)(hv:Vals ys its)(hz:ys.length<=sizeLine):
 Inv X ae σ (bf H s.heap.objs.size (.lst ys)) {s with heap:=s.heap.push {cls:=.type "list",data:=.seq its.toArray},toks:=t'}:=
 I.laid (λ_ _ q=>Heap.get?_push_of_some _ q) (Nat.le_refl _) ⟨hz,its,0,hv,Heap.get?_push_size _ rfl⟩
theorem Inv.fresh(I:Inv X ae σ H s):H s.heap.objs.size=none:=I.hok.fresh (Nat.le_refl _)
theorem Inv.lstM(I:Inv X ae σ H s)(hH:H l=some (.lst xs)):xs.length<=sizeLine/\ ∃(its:List Value) (n:Nat),Vals xs its/\xs.length=its.length/\s.heap.get? l=some {cls:=.type "list",data:=.seq its.toArray n}:=by
 obtain⟨z,its,n,r,e⟩:=I.hok l _ hH
 exact⟨z,its,n,r,r.length,e⟩
end
section
variable {X:Cx}
def qf:V->List V->Hp->VK->Prop:=λx vs H Q=> ∃l xs y,x=.ref l/\vs=[y]/\H l=some (.lst xs)/\xs.length<sizeLine/\Q .non (bf H l (.lst (xs++[y])))
theorem iP:BT X "list.append" qf:=by
 intro ae s σ H x vs v us Q I rx rv h;obtain⟨l,xs,y,rfl,rfl,hH,hz,q⟩:=h
 cases rx
 obtain⟨u,rfl,ru⟩:=rv.one
 obtain⟨z,its,n,r,hl,e⟩:=I.lstM hH
 refine call_meets F.slot_list_append ⟨_,e,rfl⟩ F.entry_list_append (F.args_list_append_2 _ _) (PySem.list_append l its.toArray n u (by rw[List.size_toArray];omega)) ⟨e,?_⟩
 refine⟨.non,_,I.lset (its':=its++[u]) hH e (by simp) (r.append (.cons ru .nil)) ?_,rfl,q⟩
 rw[List.length_append,List.length_singleton];omega
def tf:V->List V->Hp->VK->Prop:=λx vs H Q=> ∃l xs i k y,x=.ref l/\vs=[.int i]/\H l=some (.lst xs)/\ -(2^63)<=i/\i<2^63/\seqIndex? i xs.length=some k/\xs[k]? =some y/\Q y (bf H l (.lst (xs.eraseIdx k)))
theorem uH:BT X "list.pop" tf:=by
 intro ae s σ H x vs v us Q I rx rv h;obtain⟨l,xs,i,k,y,rfl,rfl,hH,h1,h2,hk,hy,q⟩:=h
 cases rx
 obtain⟨u,rfl,ru⟩:=rv.one
 obtain⟨t,rfl⟩:=ru
 obtain⟨z,its,n,r,hl,e⟩:=I.lstM hH
 obtain⟨w,hw,rw'⟩:=r.get hy
 refine call_meets F.slot_list_pop ⟨_,e,rfl⟩ F.entry_list_pop (F.args_list_pop_2 _ _)
  (MeetsSeq.list_pop_at l its.toArray n i t k w (fitsIndex_both h1 h2) (by rw[List.size_toArray,<-hl];exact hk) (by rw[<-Array.getElem?_toList];exact hw) (by rw[List.size_toArray];omega)) ⟨e,?_⟩
 refine⟨y,_,I.lset (its':=its.eraseIdx k) hH e ?_ (r.eraseIdx k) ?_,rw',q⟩
 ·show its.toArray.eraseIdxIfInBounds k=(its.eraseIdx k).toArray
  rw[List.eraseIdxIfInBounds_toArray]
 ·have:=lj xs k
  omega
end
end L2
namespace Att
open PySem PySem.W PySem.Calls PyProof.Rows
theorem jw {P:Params}{h:Heap}: ∀(ns:List Int) (vs:List Value),WellAll P h vs (ns.map WData.int)->IntsAre vs ns:=by
 intro ns
 induction ns with
 |nil=>
  intro vs w;rw[List.map_nil] at w;cases w
  exact .nil
 |cons n ns ih=>
  intro vs w;rw[List.map_cons] at w;cases w with
  |cons a b=>
   cases a
   exact .cons _ _ (ih _ b)
theorem sx {l:OpenLaw}{n:Nat}(hn:l.most=some n){P:Params}{h:Heap}{args:List WData}{vals:List Value}
 (hpre:l.row.toRowW.claim.pre args=true) (hwl:WellAll P h vals args):
 ∃a vs ns,vals=[Value.ref a]/\args=[WData.list (ns.map WData.int)]/\h.get? a=some {cls:=.type "list",data:=.seq vs.toArray}/\IntsAre vs ns/\ns.length<=n:=by
 have hsh:WShape.hasAll [] args [.list .int]=true:=(pre_splitW hpre).1
 have hc:l.pre.holds [] {args:=args}=true:=(pre_splitW hpre).2
 obtain⟨d,r,rfl,h1,h2⟩:=hasAllW_cons hsh
 obtain rfl:=hasAllW_nil h2
 obtain⟨xs,rfl,h3⟩:=hasW_list h1
 obtain⟨ns,rfl⟩:=items_int h3
 have hlen:ns.length<=n:=by
  unfold OpenLaw.pre at hc;have h4:(WTm.not (.lt (.lit (.int (n:Int))) (.len (.arg 0)))).holds [] {args:=[.list (ns.map .int)]}=true:=by
   have h4:=(holds_andW hc).1
   rw[hn] at h4;exact h4
  have h5:=condW_of h4 (w_not (w_lt w_lit (w_len_list (w_arg rfl))))
  rw[List.length_map] at h5;refine Nat.le_of_not_lt λq=>?_
  have q':(n:Int)<((ns.length:Nat):Int):=by omega
  first
   |(rw[decide_eq_true q'] at h5;exact absurd h5 (by decide))
   |(simp at h5;omega)
 cases hwl with
 |cons w1 w2=>
  cases w2
  cases w1 with
  |list ho hall=>exact⟨_,_,ns,rfl,rfl,ho,jw ns _ hall,hlen⟩
theorem rB(l:OpenLaw)(args:List WData):l.row.toRowW.claim.post args (.bool true) args=true:=
 postW_of (r:=l.row.toRowW) (X:=(true==true))
  (show WShape.has [] (.bool true) .bool=true by first|rfl|decide|simp[WShape.has,WShape.arms,WShape.armsAll])
  (show(WTm.eq .res (.lit (.bool true))).value [] {args:=args,res:=some (.bool true),after:=args}=some (.bool (true==true)) from w_eq_bool (w_res rfl) w_lit) rfl
theorem attach_call {l:OpenLaw}{n:Nat}{q:Program}{loose:List Str}{XP:(Str->Option Value)->Heap->Prop}{YP:World->Heap->Prop}{d:DefRec}
 (hn:l.most=some n) (hdf:d.params.defaults=[])
 (call: ∀(w:World) (s₀ s₁:Shared) (mg mb:Str->Option Value) (fa:Addr) (o:Obj) (pm cd doc:Value) (a:Addr) (vs:List Value) (ns:List Int),
   Ground q loose [] XP w s₀ mg mb s₁.heap->YP w s₁.heap->
   s₁.heap.get? fa=some o->o.data=.func (docDef d.name d.params d.body d.scope pm cd doc)->s₁.heap.CodeRec cd d.name->mg d.name=some (.ref fa)->
   s₁.heap.get? a=some {cls:=.type "list",data:=.seq vs.toArray}->IntsAre vs ns->ns.length<=n->s₁.gens= #[]->
   codeAny (model l.prog w) callerA (.call (.ref fa) ⟨[.ref a],[]⟩) (λr s'=>r=.ok (.ret (.bool true))/\OldK s₁.heap s'.heap/\s'.os=s₁.os/\AllBare s'.gens) s₁):
 WalkO q loose XP YP l.row.toRowW d [] (λf vs=>PySem.call f vs):=by
 intro w s₀ s₁ mg mb G Y fa o pm cd doc dV kV ho hd hcd hD hmg hg args vals as hpre hlay hrd hwl hlo;obtain rfl:dV=.none:=Dflts.none hD hdf
 obtain rfl:kV=.none:=Dflts.noKw hD
 obtain⟨a,vs,ns,rfl,rfl,hobj,hints,hlen⟩:=sx hn hpre hwl
 refine enter_call (codeAny_mono (call w s₀ s₁ mg mb fa o pm cd doc a vs ns G Y ho (fd_plain hd) hcd hmg hobj hints hlen hg) λr s' hq=>?_)
 obtain⟨rfl,h2,h3,h4⟩:=hq
 exact⟨.inl ⟨.bool true,.bool true,[],rfl,λ_=>rfl,.bool true,rB l _,λ_=>⟨List.Pairwise.nil,λ_ hm=>(nomatch hm)⟩⟩,h2,h3,h4⟩
end Att
namespace L2
open PySem PySem.Spec PyProof.Rows
theorem kZ: ∀ {vs:List Value} {ns:List Int},IntsAre vs ns->Vals (ns.map V.int) vs
 |_,_,.nil=>.nil
 |_,_,.cons n t h=>.cons ⟨t,rfl⟩ (kZ h)
def yE(H:Hp):Prop:= ∀b,H b=none\/ ∃o xs,H b=some (.frz o (.lst xs))
theorem sR {P:Program}{w:World}{K:W.Frag}{mg mb:Str->Option Value}{CX:mZ}{k:Nat}{fa a:Addr}{fd:FuncData}{x:Str}{sp:Sp}{s₁:Shared}{vs:List Value}{ns:List Int}
 (KX:K.In s₁.heap) (hns:s₁.heap.Ns mainGlobals mg) (hb:s₁.heap.Ns builtinsNs mb) (hbb: ∀x:Str,x≠"__name__"->mb x=bootBuiltins x) (hlim:s₁.heap.NoLimit) (hg:s₁.gens= #[])
 (ha:s₁.heap.get? a=some {cls:=.type "list",data:=.seq vs.toArray}) (hi:IntsAre vs ns) (hl:ns.length<=sizeLine) (hr:Room k callerA)
 (F: ∀base:Heap,K.In base->base.Ns mainGlobals mg->FnOk P w K mg base CX k fa fd [x] sp) (hbind: ∀(s:Shared) (u:Value),BindsTo s fd ⟨[u],[]⟩ [(x,u)])
 (hsp: ∀H:Hp,yE H->SqL K H a (ns.map V.int)->sp [.ref a] H (λv _=>v=.bl true) λ_ _ _=>False)
 (hCX: ∀H e s',CX [] H s₁ (λ_ _ _=>False) e s'->False):
 codeAny (model P w) callerA (.call (.ref fa) ⟨[.ref a],[]⟩) (λr s'=>r=.ok (.ret (.bool true))/\OldK s₁.heap s'.heap/\s'.os=s₁.os/\AllBare s'.gens) s₁:=by
 have rv:=kZ hi
 have lenV:=hi.length
 have core: ∀H:Hp,yE H->SqL K H a (ns.map V.int)->HOk P w H s₁.heap->(∀b,H b≠none->b=a)->(H a≠none->K.lookup a=none)->
  codeAny (model P w) callerA (.call (.ref fa) ⟨[.ref a],[]⟩) (λr s'=>r=.ok (.ret (.bool true))/\OldK s₁.heap s'.heap/\s'.os=s₁.os/\AllBare s'.gens) s₁:=by
  intro H hO hS hok hA hK;have base_of: ∀ {b:Addr} {o:Obj},s₁.heap.get? b=some o->H b=none->(mY s₁.heap H).get? b=some o:=λe n=>u8 e n
  have noA: ∀ {b:Addr} {o:Obj} {es:Array DictEntry} {ep:Nat},s₁.heap.get? b=some o->o.data=.dict es ep->H b=none:=λ{b o es ep} e d=>by
   cases q:H b with
   |none=>rfl
   |some u=>
    have e':b=a:=hA b (by rw[q];simp)
    subst e';rw[ha] at e;cases e;have d':Data.seq vs.toArray _=Data.dict es ep:=d
    cases d'
  have nsK: ∀ {b:Addr} {m:Str->Option Value},s₁.heap.Ns b m->(mY s₁.heap H).Ns b m:=λ{b m} ⟨o,es,ep,e,d,r⟩=>⟨o,es,ep,base_of e (noA e d),d,r⟩
  have hKb:K.In (mY s₁.heap H):=λb o e=>base_of (KX b o e) (by
   cases q:H b with
   |none=>rfl
   |some u=>
    have e':b=a:=hA b (by rw[q];simp)
    subst e';rw[hK (by rw[q];simp)] at e;cases e)
  have hM:Mod K mg (mY s₁.heap H):=⟨hKb,nsK hns,⟨mb,nsK hb,hbb⟩,let⟨mc,h1,h2⟩:=hlim;⟨mc,nsK h1,h2⟩⟩
  have e0:Env0 P w K mg (mY s₁.heap H) callerA [] s₁ H:=⟨rfl,hM,λb o e=>xj e,Nat.le_of_eq (q9 _ _),trivial,λb hb=>absurd (show b∈([]:List Addr) from hb) (by simp),hok,.of_eq hg⟩
  refine codeAny_mono ((F _ hKb (nsK hns)).run callerA [] s₁ H ⟨[.ref a],[]⟩ [.ref a] [.ref a] _ _ hr e0 (hbind s₁ (.ref a)) (.cons rfl .nil) (hsp H hO hS)) λr s' h=>?_
  cases r with
  |error e=>exact(hCX H e s' h).elim
  |ok fl=>
   cases fl with
   |next=>exact False.elim h
   |brk=>exact False.elim h
   |cont=>exact False.elim h
   |ret u=>
    obtain⟨v,H',os,bare,un,hok',r',q⟩:=h
    have q':v=.bl true:=q
    subst q';obtain rfl:u=Value.bool true:=r'
    refine⟨rfl,OldK.of_keep λb o e=>?_,os,bare⟩
    cases q:H b with
    |none=>exact un.keep b o e q (by intro z;exact absurd (show b∈([]:List Addr) from z) (by simp)) (by simp)
    |some u=>
     rcases hO b with z|⟨ob,xs,z⟩
     ·rw[q] at z;cases z
     ·have z2:=un.frzs b ob _ z
      obtain⟨e1,_⟩:=hok b _ z
      obtain⟨e2,_⟩:=hok' b _ z2
      rw[e] at e1;cases e1;exact e2
 cases hk:K.lookup a with
 |some o=>
  have e:=KX a o hk
  rw[ha] at e;cases e
  refine core (λ_=>none) (λ_=>.inl rfl) (.inr ⟨_,vs.toArray,_,hk,rfl,rfl,rfl,by rw[List.size_toArray,lenV];exact hl,by simpa using rv⟩) (λb u z=>by have z':(none:Option HO)=some u:=z;cases z') (λb z=>absurd rfl z) λz=>absurd rfl z
 |none=>
  refine core (λb=>if b=a then some (.frz {cls:=.type "list",data:=.seq vs.toArray} (.lst (ns.map V.int))) else none) (λb=>?_) (.inl (.inr ⟨{cls:=.type "list",data:=.seq vs.toArray},if_pos rfl⟩)) (λb u z=>?_) (λb z=>?_) λ_=>hk
  ·by_cases hb:b=a
   ·exact .inr ⟨_,_,if_pos hb⟩
   ·exact .inl (if_neg hb)
  ·by_cases hb:b=a
   ·have z':=(if_pos hb).symm.trans z
    cases z'
    subst hb;exact⟨ha,by rw[List.length_map];exact hl,vs,_,rv,ha⟩
   ·have z':=(if_neg hb).symm.trans z
    cases z'
  ·by_cases hb:b=a
   ·exact hb
   ·exact absurd (if_neg hb) z
theorem walk_of {l:W.OpenLaw}{n k:Nat}{q:Program}{loose:List Str}{XP:(Str->Option Value)->Heap->Prop}{YP:World->Heap->Prop}{d:DefRec}{K:Params->W.Frag}{CX:World->mZ}{sp:World->Sp}{x:Str}
 (hn:l.most=some n) (hn2:n<=sizeLine) (hdf:d.params.defaults=[]) (hr:Room k callerA)
 (hY: ∀(w:World) (h:Heap),YP w h->(K w.params).In h)
 (F: ∀(w:World) (mg:Str->Option Value) (fa:Addr) (h:Heap),(K w.params).In h->h.Ns mainGlobals mg->mg d.name=some (.ref fa)->
   ∃fd:FuncData,(∀(s:Shared) (u:Value),BindsTo s fd ⟨[u],[]⟩ [(x,u)])/\
    ∀base:Heap,(K w.params).In base->base.Ns mainGlobals mg->FnOk l.prog w (K w.params) mg base (CX w) k fa fd [x] (sp w))
 (hsp: ∀(w:World) (H:Hp) (a:Addr) (ns:List Int),ns.length<=n->yE H->SqL (K w.params) H a (ns.map V.int)->sp w [.ref a] H (λv _=>v=.bl true) λ_ _ _=>False)
 (hCX: ∀(w:World) (H:Hp) (s:Shared) (e:Value) (s':Shared),CX w [] H s (λ_ _ _=>False) e s'->False):
 W.WalkO q loose XP YP l.row.toRowW d [] (λf vs=>PySem.call f vs):=by
 refine Att.attach_call hn hdf λw s₀ s₁ mg mb fa o pm cd doc a vs ns G Y ho hd hcd hmg hobj hints hlen hg=>?_
 have KX:=hY w _ Y
 obtain⟨fd,hb,hF⟩:=F w mg fa _ KX G.T.g hmg
 exact sR KX G.T.g G.T.b G.T.builtins G.T.nolimit hg hobj hints (Nat.le_trans hlen hn2) hr hF hb (λH hO hS=>hsp w H a ns hlen hO hS) λH e s'=>hCX w H s₁ e s'
def bo(s:Stmt):Arguments:=match s with
 | .FunctionDef _ a _ _ _ _ _ _ _ _=>a
 |_=>{posonlyargs:=[],args:=[],vararg:=none,kwonlyargs:=[],kw_defaults:=[],kwarg:=none,defaults:=[]}
def aQ(s:Stmt):List Stmt:=match s with
 | .FunctionDef _ _ b _ _ _ _ _ _ _=>b
 |_=>[]
def aq(s:Stmt):Scope:=match s with
 | .FunctionDef _ _ _ _ _ _ sc _ _ _=>sc
 |_=>{kind:=.function,names:=[],isGenerator:=false,isCoroutine:=false}
abbrev lG:mZ:=λ_ _ _ _ _ _=>False
abbrev E0:XK:=λ_ _ _=>False
theorem sT {X:Cx}:oX lG X E0:=λ_ _ _ _ _ _ _ h=>h.elim
structure Fun(K:W.Frag)(x qual:Str)(st:Stmt)(f:Addr)(fd:FuncData):Prop where
 ex: ∃(oc:Value) (od:Option Addr) (kV doc pm:Value) (an:Option Addr) (cdv ct:Value) (osl:Array (Option Value)),
  fd=W.fnOf x qual (bo st) (aQ st) (aq st) .none kV doc pm an cdv ct/\K.lookup f=some ⟨oc,od,.func fd,osl⟩/\W.codeIn K cdv qual=true
 kp:W.keepIn K (.ref f)=true
section
variable {P:Program}{w:World}{K:W.Frag}{mg:Str->Option Value}{base:Heap}
theorem Fun.ok {x qual:Str}{st:Stmt}{f:Addr}{fd:FuncData}{N ps:List Str}{k:Nat}{sp:Sp}(F:Fun K x qual st f fd)(S:FnScope N ps (aq st))(len: ∀vs H Q E,sp vs H Q E->vs.length=ps.length)
 (hbody: ∀(cdv:Value) (A:Around) (outer:List Env) (s:Shared) (H:Hp) (vs:List V) (Q:VK) (E:XK),Room k (A.deeper (envOfC qual (aq st) s.heap.objs.size f cdv))->sp vs H Q E->
   ∃t,PSs (ji lG P w K mg base N qual (aq st) f cdv A outer s H E).nox (aQ st) t/\t {nx:=λ_ H'=>Q .non H',rt:=Q} (cR N vs) H):FnOk P w K mg base lG (k+1) f fd ps sp:=by
 obtain⟨oc,od,kV,doc,pm,an,cdv,ct,osl,rfl,lk,hcd⟩:=F.ex
 refine xm lk hcd S len λA outer s H vs Q E hr hsp=>?_
 obtain⟨t,h,q⟩:=hbody cdv A outer s H vs Q E hr hsp
 exact⟨t,h.nox,q⟩
theorem Fun.binds {x qual:Str}{st:Stmt}{f:Addr}{fd:FuncData}{ps:List Str}(F:Fun K x qual st f fd)
 (h: ∀(kV doc pm:Value) (an:Option Addr) (cdv ct:Value) (us:List Value),us.length=ps.length->bindArgs (W.fnOf x qual (bo st) (aQ st) (aq st) .none kV doc pm an cdv ct) ⟨us,[]⟩=pure (ps.zip us)):Binds K fd ps []:=by
 obtain⟨oc,od,kV,doc,pm,an,cdv,ct,osl,rfl,lk,hcd⟩:=F.ex
 exact .all (h kV doc pm an cdv ct)
theorem cy {x qual:Str}{st:Stmt}{f:Addr}{oc:Value}{od an:Option Addr}{osl:Array (Option Value)}{kV doc pm cdv ct:Value}(l:K.lookup f=some ⟨oc,od,.func (W.fnOf x qual (bo st) (aQ st) (aq st) .none kV doc pm an cdv ct),osl⟩)
 (c:W.codeIn K cdv qual=true) (k:W.keepIn K (.ref f)=true):Fun K x qual st f (W.fnOf x qual (bo st) (aQ st) (aq st) .none kV doc pm an cdv ct):=⟨⟨oc,od,kV,doc,pm,an,cdv,ct,osl,rfl,l,c⟩,k⟩
end
theorem kS {A:Around}{k:Nat}(hr:Room k A):A.units+1<cLine:=Nat.lt_of_le_of_lt (Nat.add_le_add_left (by decide:1<=64) _) hr.units
theorem gK {n:Nat}(h:n<=1000):n<sizeLine:=Nat.lt_of_le_of_lt h (by decide)
section
variable {X:Cx}
theorem pv(i:Nat){x:Str}{pos:Pos}(hN:X.N[i]? =some x:=by rfl)(hv:m5 X.env.scope x:=by first|exact Or.inl rfl|exact Or.inr (Or.inl rfl)|exact Or.inr (Or.inr rfl))(hd:(x==("__debug__":Str))=false:=by decide)
 (hcd:(x==("__classdict__":Str))=false:=by decide):PE X (.Name x pos) (Av i):=zm hN hv hd hcd
end
theorem mF {A B:Prop}(h:B):if false=true then A else B:=by
 rw[if_neg Bool.false_ne_true];exact h
theorem ma {A B:Prop}(h:A):if true=true then A else B:=by
 rw[if_pos rfl];exact h
def Same(H H':Hp):Prop:= ∀b o,H b=some o->H' b=some o
theorem Same.refl(H:Hp):Same H H:=λ_ _ h=>h
theorem Same.trans {H H1 H2:Hp}(a:Same H H1)(b:Same H1 H2):Same H H2:=λc o h=>b c o (a c o h)
theorem Same.free {H H':Hp}(e:Same H H'){l:Addr}(h:H' l=Option.none):H l=Option.none:=by
 cases q:H l with
 |none=>rfl
 |some o=>
  rw[e l o q] at h;cases h
theorem Same.seq {K:W.Frag}{H H':Hp}{a:Addr}{xs:List V}(e:Same H H')(h:SqL K H a xs):SqL K H' a xs:=by
 rcases h with(h|⟨o,h⟩)|h
 ·exact .inl (.inl (e _ _ h))
 ·exact .inl (.inr ⟨o,e _ _ h⟩)
 ·exact .inr h
inductive D where
 |non|bl (b:Bool)|int (i:Int)|str (x:Str)|tup (ds:List D)|lst (ds:List D)
 |scr (ds:List D)
def SqR(K:W.Frag)(H:Hp)(a:Addr)(xs:List V):Prop:=
 (∃o,H a=some (.frz o (.lst xs)))\/
   ∃(o:Obj) (its:Array Value) (n:Nat),K.lookup a=some o/\o.cls=.type "list"/\o.dict=none/\o.data=.seq its n/\its.size<=sizeLine/\Vals xs its.toList
theorem SqR.seq {K:W.Frag}{H:Hp}{a:Addr}{xs:List V}(h:SqR K H a xs):SqL K H a xs:=h.elim (λh=>.inl (.inr h)) .inr
theorem Same.seqR {K:W.Frag}{H H':Hp}{a:Addr}{xs:List V}(e:Same H H')(h:SqR K H a xs):SqR K H' a xs:=h.elim (λ⟨o,h⟩=>.inl ⟨o,e _ _ h⟩) .inr
mutual
inductive Rep (K:W.Frag) (F:Hp):V->D->Prop
 |non:Rep K F .non .non
 |bl {b:Bool}:Rep K F (.bl b) (.bl b)
 |int {i:Int}:Rep K F (.int i) (.int i)
 |str {x:Str}:Rep K F (.str x) (.str x)
 |tup {a:Addr} {xs:List V} {ds:List D}:SqT K F a xs->Reps K F xs ds->Rep K F (.ref a) (.tup ds)
 |lst {a:Addr} {xs:List V} {ds:List D}:F a=some (.lst xs)->Reps K F xs ds->Rep K F (.ref a) (.lst ds)
 |scr {a:Addr} {xs:List V} {ds:List D}:SqR K F a xs->Reps K F xs ds->Rep K F (.ref a) (.scr ds)
inductive Reps (K:W.Frag) (F:Hp):List V->List D->Prop
 |nil:Reps K F [] []
 |cons {x:V} {d:D} {xs:List V} {ds:List D}:Rep K F x d->Reps K F xs ds->Reps K F (x::xs) (d::ds)
end
theorem Same.seqT {K:W.Frag}{H H':Hp}{a:Addr}{xs:List V}(e:Same H H')(h:SqT K H a xs):SqT K H' a xs:=by
 rcases h with(h|⟨o,h⟩)|h
 ·exact .inl (.inl (e _ _ h))
 ·exact .inl (.inr ⟨o,e _ _ h⟩)
 ·exact .inr h
mutual
theorem Rep.mono {K:W.Frag}{F G:Hp}(s:Same F G): ∀ {v:V} {d:D},Rep K F v d->Rep K G v d
 |_,_,.non=>.non
 |_,_,.bl=>.bl
 |_,_,.int=>.int
 |_,_,.str=>.str
 |_,_,.tup h r=>.tup (Same.seqT s h) (Reps.mono s r)
 |_,_,.lst h r=>.lst (s _ _ h) (Reps.mono s r)
 |_,_,.scr h r=>.scr (Same.seqR s h) (Reps.mono s r)
theorem Reps.mono {K:W.Frag}{F G:Hp}(s:Same F G): ∀ {v:List V} {d:List D},Reps K F v d->Reps K G v d
 |_,_,.nil=>.nil
 |_,_,.cons r t=>.cons (Rep.mono s r) (Reps.mono s t)
end
section
variable {K:W.Frag}{F G H:Hp}
theorem Reps.length: ∀ {xs:List V} {ds:List D},Reps K F xs ds->xs.length=ds.length
 |_,_,.nil=>rfl
 |_,_,.cons _ t=>by simp[t.length]
theorem Reps.get: ∀ {xs:List V} {ds:List D} {i:Nat} {d:D},Reps K F xs ds->ds[i]? =some d-> ∃x,xs[i]? =some x/\Rep K F x d
 |_,_,_,_,.nil,e=>by simp at e
 |_,_,0,_,.cons r _,e=>by simp at e;subst e;exact⟨_,rfl,r⟩
 |_,_,i+1,d,.cons _ t,e=>by
  obtain⟨u,h1,h2⟩:=Reps.get (i:=i) (d:=d) t (by simpa using e)
  exact⟨u,by simpa using h1,h2⟩
theorem Reps.get' {xs:List V}{ds:List D}{i:Nat}{x:V}(r:Reps K F xs ds)(e:xs[i]? =some x): ∃d,ds[i]? =some d/\Rep K F x d:=by
 have hl:=r.length
 have hi:=(List.getElem?_eq_some_iff.mp e).1
 have e2:ds[i]? =some ds[i]:=List.getElem?_eq_getElem (by omega)
 obtain⟨y,h1,h2⟩:=r.get e2
 rw[e] at h1;cases h1;exact⟨_,e2,h2⟩
theorem Reps.append: ∀ {xs ys:List V} {us ws:List D},Reps K F xs us->Reps K F ys ws->Reps K F (xs++ys) (us++ws)
 |_,_,_,_,.nil,s=>s
 |_,_,_,_,.cons r t,s=>.cons r (Reps.append t s)
theorem Reps.set {x:V}{u:D}(r:Rep K F x u): ∀ {xs:List V} {us:List D} (i:Nat),Reps K F xs us->Reps K F (xs.set i x) (us.set i u)
 |_,_,_,.nil=>.nil
 |_,_,0,.cons _ t=>.cons r t
 |_,_,i+1,.cons q t=>.cons q (Reps.set r i t)
theorem Reps.eraseIdx: ∀ {xs:List V} {us:List D} (i:Nat),Reps K F xs us->Reps K F (xs.eraseIdx i) (us.eraseIdx i)
 |_,_,_,.nil=>.nil
 |_,_,0,.cons _ t=>t
 |_,_,i+1,.cons q t=>.cons q (Reps.eraseIdx i t)
end
abbrev bL:=Addr->Bool
def vw(H:Hp)(hid:bL):Hp:=λb=>if hid b=true then none else H b
def bQ(hid:bL)(a:Addr):bL:=λb=>hid b||decide (b=a)
def gw(hid:bL)(a:Addr):bL:=λb=>hid b&& !decide (b=a)
theorem vw_some {H:Hp}{hid:bL}{b:Addr}{o:HO}:vw H hid b=some o↔hid b=false/\H b=some o:=by
 unfold vw;cases hb:hid b<;>simp
theorem dz(H:Hp)(hid:bL):Same (vw H hid) H:=λb o h=>(vw_some.mp h).2
theorem aS {H H':Hp}{hid:bL}(s:Same H H'):Same (vw H hid) (vw H' hid):=λb o h=>vw_some.mpr ⟨(vw_some.mp h).1,s _ _ (vw_some.mp h).2⟩
theorem ql {H H':Hp}{hid:bL}(s: ∀b o,H b=some o->hid b=false->H' b=some o):Same (vw H hid) (vw H' hid):=λb o h=>vw_some.mpr ⟨(vw_some.mp h).1,s _ _ (vw_some.mp h).2 (vw_some.mp h).1⟩
theorem cV {H:Hp}{hid:bL}{a:Addr}{o:HO}(h:hid a=true):vw (bf H a o) hid=vw H hid:=by
 funext b;unfold vw bf
 by_cases e:b=a
 ·subst e;simp[h]
 ·simp[e]
theorem fY {H:Hp}{hid hid':bL}(h: ∀b,hid' b=true->hid b=true):Same (vw H hid) (vw H hid'):=λb o q=>by
 obtain⟨q1,q2⟩:=vw_some.mp q
 refine vw_some.mpr ⟨?_,q2⟩
 cases e:hid' b with
 |false=>rfl
 |true=>rw[h b e] at q1;cases q1
theorem i4 {H:Hp}{hid:bL}{a:Addr}{o:HO}(h:H a=none):vw (bf H a o) (bQ hid a)=vw H hid:=by
 funext b;unfold vw bf bQ
 by_cases e:b=a
 ·subst e
  cases hb:hid b<;>simp[h]
 ·simp[e]
inductive NO where
 |l (ds:List D)
 |k (kvs:List (bq×D))
inductive Ob where
 |nst (us:List NO)
 |dR (kvs:List (bq×D))
 |dRs (l:List (List (bq×D)))
 |exc (x:Str) (n:Int)
 |dK (kvs:List (bq×D))
 |dT (kvs:List (List bq×D))
 |set (ds:List D)
 |old (d:D)
 |jnk
 |tset (ks:List (List Int))
 |dF (kvs:List (List bq×D))
inductive Sl where
 |no
 |v (d:D)
 |own (ds:List D)
 |arg (ds:List D)
 |ob (b:Ob)
abbrev aB:=List Sl
structure Ct where
 H₀:Hp
 hid₀:bL
 mu:Addr->Bool
def ExcAt(K:W.Frag)(x:Str)(n:Int)(a:Addr)(h:Heap):Prop:= ∃C o,W.nsIn K mainGlobals x=some (some (.ref C))/\h.get? a=some o/\o.cls=.ref C/\o.dict=none/\W.notCls o=true
def AK:Option HO->Bool
 |some (.lst _)=>true
 |_=>false
def fv(c:Ct)(F:Hp):Hp:=λb=>if(c.H₀ b).isSome=true/\AK (F b)=true then none else F b
def ov(c:Ct)(F:Hp):Hp:=λb=>if(c.H₀ b).isSome=true then F b else none
theorem fv_some {c:Ct}{F:Hp}{b:Addr}{o:HO}:fv c F b=some o↔(AK (some o)=true->c.H₀ b=none)/\F b=some o:=by
 unfold fv;constructor
 ·intro h
  split at h
  ·cases h
  ·rename_i hn
   refine⟨λq=>?_,h⟩
   rw[h] at hn;cases hb:c.H₀ b with
   |none=>rfl
   |some u=>exact absurd ⟨by rw[hb];rfl,q⟩ hn
 ·rintro⟨h1,h2⟩
  rw[if_neg,h2]
  rintro⟨q1,q2⟩
  rw[h2] at q2;rw[h1 q2] at q1;cases q1
theorem ov_some {c:Ct}{F:Hp}{b:Addr}{o:HO}:ov c F b=some o↔(∃u,c.H₀ b=some u)/\F b=some o:=by
 unfold ov;cases hb:c.H₀ b<;>simp
theorem wu {c:Ct}{F G:Hp}(s:Same F G):Same (fv c F) (fv c G):=λb o h=>fv_some.mpr ⟨(fv_some.mp h).1,s _ _ (fv_some.mp h).2⟩
theorem vW {c:Ct}{F G:Hp}(s:Same F G):Same (ov c F) (ov c G):=λb o h=>ov_some.mpr ⟨(ov_some.mp h).1,s _ _ (ov_some.mp h).2⟩
def NOk(K:W.Frag)(c:Ct)(hid:bL)(H:Hp)(p a:Addr):NO->Prop
 | .l ds=>(hid a=true/\c.H₀ a=none)/\ ∃xs:List V,H a=some (.nst p (.lst xs))/\Reps K (vw H hid) xs ds
 | .k kvs=>(hid a=true/\c.H₀ a=none)/\ ∃us:List (bq×V),H a=some (.nst p (.dK us))/\us.map (·.1)=kvs.map (·.1)/\Reps K (vw H hid) (us.map (·.2)) (kvs.map (·.2))
theorem NOk.mono {K:W.Frag}{c:Ct}{hid hid':bL}{H H':Hp}{p a:Addr}{b:NO}(h:NOk K c hid H p a b)(k: ∀u,H a=some (.nst p u)->H' a=some (.nst p u))(s:Same (vw H hid) (vw H' hid'))(w:(∃u,H a=some (.nst p u))->hid' a=true):NOk K c hid' H' p a b:=by
 cases b with
 |l ds=>obtain⟨h1,us,h2,h3⟩:=h;exact⟨⟨w ⟨_,h2⟩,h1.2⟩,us,k _ h2,h3.mono s⟩
 |k kvs=>obtain⟨h1,us,h2,h3,h4⟩:=h;exact⟨⟨w ⟨_,h2⟩,h1.2⟩,us,k _ h2,h3,h4.mono s⟩
def DRd(K:W.Frag)(W:Hp)(a:Addr)(kvs:List (bq×D)):Prop:= ∃o us,W a=some (.frz o (.dK us))/\us.map (·.1)=kvs.map (·.1)/\Reps K W (us.map (·.2)) (kvs.map (·.2))
theorem DRd.mono {K:W.Frag}{W W':Hp}{a:Addr}{kvs:List (bq×D)}(h:DRd K W a kvs)(s:Same W W'):DRd K W' a kvs:=by
 obtain⟨o,us,h1,h2,h3⟩:=h
 exact⟨o,us,s _ _ h1,h2,h3.mono s⟩
def ObOk(K:W.Frag)(c:Ct)(hid:bL)(H:Hp)(a:Addr):Ob->Prop
 | .nst us=>(hid a=true/\c.H₀ a=none)/\ ∃bs:List Addr,H a=some (.lst (bs.map V.ref))/\bs.Nodup/\Paired (NOk K c hid H a) bs us
 | .dR kvs=>DRd K (vw H hid) a kvs
 | .dRs l=> ∃bs:List Addr,vw H hid a=some (.lst (bs.map V.ref))/\Paired (DRd K (vw H hid)) bs l
 | .exc x n=> ∃φ,vw H hid a=some (.ext φ)/\ ∀h,φ h->ExcAt K x n a h
 | .dK kvs=>(hid a=true/\c.H₀ a=none)/\ ∃us:List (bq×V),H a=some (.dK us)/\us.map (·.1)=kvs.map (·.1)/\Reps K (vw H hid) (us.map (·.2)) (kvs.map (·.2))
 | .dT kvs=>(hid a=true/\c.H₀ a=none)/\ ∃us:List (List bq×V),H a=some (.dT us)/\us.map (·.1)=kvs.map (·.1)/\Reps K (vw H hid) (us.map (·.2)) (kvs.map (·.2))
 | .set ds=>(hid a=true/\c.H₀ a=none)/\ ∃xs:List V,H a=some (.lst xs)/\Reps K (fv c (vw H hid)) xs ds
 | .old d=>Rep K (ov c (vw H hid)) (.ref a) d
 | .jnk=>(hid a=true/\c.H₀ a=none)/\ ∃xs:List V,H a=some (.lst xs)
 | .tset ks=>(hid a=true/\c.H₀ a=none)/\ ∃xs:List (List Int×Addr),H a=some (.tst xs)/\(xs.map (·.1)).Perm ks/\Reps K (vw H hid) (xs.map λx=>V.ref x.2) (xs.map λx=>D.tup (x.1.map D.int))
 | .dF kvs=>(hid a=true/\c.H₀ a=none)/\ ∃(o:Obj) (us:List (List bq×V)),H a=some (.frz o (.dT us))/\us.map (·.1)=kvs.map (·.1)/\Reps K (vw H hid) (us.map (·.2)) (kvs.map (·.2))
def lQ:Ob->Prop
 | .exc _ _=>False
 | .old _=>False
 | .dR _=>False
 | .dRs _=>False
 |_=>True
def At(H:Hp)(a x:Addr):Prop:=x=a\/ ∃u,H x=some (.nst a u)
theorem At.ne {H:Hp}{a a' x:Addr}{o:HO}(hx:At H a' x)(ne:a'≠a)(ha:H a=some o)(hn: ∀p u,o≠ .nst p u:=by intro _ _ e;cases e):x≠a:=λe=>by
 subst e;rcases hx with rfl|⟨u,hu⟩
 ·exact ne rfl
 ·rw[ha] at hu;cases hu;exact hn _ _ rfl
theorem ObOk.mono {K:W.Frag}{c:Ct}{hid hid':bL}{H H':Hp}{a:Addr}{b:Ob}(h:ObOk K c hid H a b)(k:lQ b-> ∀x,At H a x-> ∀o,H x=some o->H' x=some o)(s:Same (vw H hid) (vw H' hid'))(w:lQ b-> ∀x,At H a x->hid x=true->hid' x=true):ObOk K c hid' H' a b:=by
 have k1:lQ b-> ∀o,H a=some o->H' a=some o:=λo=>k o a (.inl rfl)
 have w1:lQ b->hid a=true->hid' a=true:=λo=>w o a (.inl rfl)
 cases b with
 |nst us=>
  obtain⟨h1,bs,h2,h3,h4⟩:=h
  refine⟨⟨w1 trivial h1.1,h1.2⟩,bs,k1 trivial _ h2,h3,Paired.mapP h4 λx y z=>z.mono (λu q=>k trivial x (.inr ⟨u,q⟩) _ q) s λq=>w trivial x (.inr q) ?_⟩
  cases y with
  |l ds=>exact z.1.1
  |k kvs=>exact z.1.1
 |dR kvs=>exact DRd.mono h s
 |dRs l=>obtain⟨bs,h1,h2⟩:=h;exact⟨bs,s _ _ h1,Paired.mapP h2 λ_ _ z=>z.mono s⟩
 |exc x n=>obtain⟨φ,h1,h2⟩:=h;exact⟨φ,s _ _ h1,h2⟩
 |dK kvs=>obtain⟨h1,us,h2,h3,h4⟩:=h;exact⟨⟨w1 trivial h1.1,h1.2⟩,us,k1 trivial _ h2,h3,h4.mono s⟩
 |dT kvs=>obtain⟨h1,us,h2,h3,h4⟩:=h;exact⟨⟨w1 trivial h1.1,h1.2⟩,us,k1 trivial _ h2,h3,h4.mono s⟩
 |set ds=>obtain⟨h1,us,h2,h3⟩:=h;exact⟨⟨w1 trivial h1.1,h1.2⟩,us,k1 trivial _ h2,h3.mono (wu s)⟩
 |old d=>exact Rep.mono (vW s) h
 |jnk=>obtain⟨h1,us,h2⟩:=h;exact⟨⟨w1 trivial h1.1,h1.2⟩,us,k1 trivial _ h2⟩
 |tset ks=>obtain⟨h1,us,h2,h3,h4⟩:=h;exact⟨⟨w1 trivial h1.1,h1.2⟩,us,k1 trivial _ h2,h3,h4.mono s⟩
 |dF kvs=>obtain⟨h1,o,us,h2,h3,h4⟩:=h;exact⟨⟨w1 trivial h1.1,h1.2⟩,o,us,k1 trivial _ h2,h3,h4.mono s⟩
theorem ObOk.hid {K:W.Frag}{c:Ct}{hid:bL}{H:Hp}{a:Addr}{b:Ob}(h:ObOk K c hid H a b)(o:lQ b):hid a=true:=by
 cases b with
 |nst us=>exact h.1.1
 |dR kvs=>exact o.elim
 |dRs l=>exact o.elim
 |exc x n=>exact o.elim
 |dK kvs=>exact h.1.1
 |dT kvs=>exact h.1.1
 |set ds=>exact h.1.1
 |old d=>exact o.elim
 |jnk=>exact h.1.1
 |tset ks=>exact h.1.1
 |dF kvs=>exact h.1.1
def SlOk(K:W.Frag)(c:Ct)(hid:bL)(σ:St)(H:Hp)(i:Nat):Sl->Prop
 | .no=>True
 | .v d=> ∃x,σ[i]? =some (some x)/\Rep K (vw H hid) x d
 | .own ds=> ∃a xs,σ[i]? =some (some (.ref a))/\H a=some (.lst xs)/\hid a=true/\c.H₀ a=none/\Reps K (vw H hid) xs ds
 | .arg ds=> ∃a xs,σ[i]? =some (some (.ref a))/\H a=some (.lst xs)/\hid a=true/\c.mu a=true/\Reps K (vw H hid) xs ds
 | .ob b=> ∃a,σ[i]? =some (some (.ref a))/\ObOk K c hid H a b
def Ow:Option Sl->Prop
 |some (.own _)=>True
 |some (.arg _)=>True
 |some (.ob b)=>lQ b
 |_=>False
structure SR(K:W.Frag)(c:Ct)(hid:bL)(ρ:aB)(σ:St)(H:Hp):Prop where
 tr: ∀b,hid b=true-> ∃o,H b=some o
 ht: ∀b xs,hid b=true->H b≠some (.tup xs)
 h0: ∀b,c.hid₀ b=true->hid b=true
 kp: ∀b o,c.H₀ b=some o->c.mu b=false->H b=some o
 t0: ∀b o,c.H₀ b=some o-> ∃o',H b=some o'
 c0: ∀b,c.hid₀ b=true-> ∃o,c.H₀ b=some o
 m0: ∀b,c.mu b=true->c.hid₀ b=true
 len:σ.length=ρ.length
 sl: ∀(i:Nat) (s:Sl),ρ[i]? =some s->SlOk K c hid σ H i s
 ap: ∀(i j:Nat) (a:Addr),i≠j->Ow ρ[i]? ->Ow ρ[j]? ->σ[i]? =some (some (.ref a))->σ[j]? =some (some (.ref a))->False
section
variable {K:W.Frag}{c:Ct}{hid:bL}{ρ:aB}{σ:St}{H H':Hp}{i:Nat}
theorem SlOk.ext {s:Sl}(h:SlOk K c hid σ H i s)(e:Same H H'):SlOk K c hid σ H' i s:=by
 cases s with
 |no=>trivial
 |v d=>obtain⟨x,h1,h2⟩:=h;exact⟨x,h1,h2.mono (aS e)⟩
 |own ds=>obtain⟨a,xs,h1,h2,h3,h4,h5⟩:=h;exact⟨a,xs,h1,e _ _ h2,h3,h4,h5.mono (aS e)⟩
 |arg ds=>obtain⟨a,xs,h1,h2,h3,h4,h5⟩:=h;exact⟨a,xs,h1,e _ _ h2,h3,h4,h5.mono (aS e)⟩
 |ob b=>obtain⟨a,h1,h2⟩:=h;exact⟨a,h1,h2.mono (λ_ x _=>e x) (aS e) λ_ _ _ q=>q⟩
theorem SR.ext(h:SR K c hid ρ σ H)(e:Same H H'):SR K c hid ρ σ H' where
 tr:=λb hb=>let⟨o,q⟩:=h.tr b hb;⟨o,e _ _ q⟩
 ht:=λb xs hb q=>let⟨o,w⟩:=h.tr b hb;by have z:=e _ _ w;rw[q] at z;cases z;exact h.ht b xs hb w
 h0:=h.h0
 kp:=λb o q m=>e _ _ (h.kp b o q m)
 t0:=λb o q=>let⟨o',q'⟩:=h.t0 b o q;⟨o',e _ _ q'⟩
 c0:=h.c0
 m0:=h.m0
 len:=h.len
 sl:=λi s q=>(h.sl i s q).ext e
 ap:=h.ap
def zr(hid:bL)(H:Hp):Prop:=(∀b,hid b=true-> ∃o,H b=some o)/\ ∀b xs,hid b=true->H b≠some (.tup xs)
theorem SR.trk(h:SR K c hid ρ σ H):zr hid H:=⟨h.tr,h.ht⟩
theorem SR.fresh(h:SR K c hid ρ σ H){a:Addr}(n:H a=none):hid a=false:=by
 cases e:hid a with
 |false=>rfl
 |true=>obtain⟨o,q⟩:=h.tr a e;rw[n] at q;cases q
theorem SR.fresh0(h:SR K c hid ρ σ H){a:Addr}(n:H a=none):c.H₀ a=none:=by
 cases e:c.H₀ a with
 |none=>rfl
 |some o=>obtain⟨o',q⟩:=h.t0 a o e;rw[n] at q;cases q
end
inductive Kd where
 |b|s|n
 deriving DecidableEq
def Rep1(K:W.Frag)(H W:Hp)(v:V)(d:D):Prop:=Rep K W v d\/ ∃a xs ds,v=.ref a/\d=.lst ds/\H a=some (.lst xs)/\Reps K W xs ds
def RN(K:W.Frag)(H H':Hp)(hid:bL)(v:V)(d:D):Prop:= ∃a xs ds,d=.lst ds/\v=.ref a/\H a=none/\H' a=some (.lst xs)/\Reps K (vw H' (bQ hid a)) xs ds
def RK(K:W.Frag)(k:Kd)(H H':Hp)(hid:bL)(v:V)(d:D):Prop:=match k with
 | .b=>Rep1 K H' (vw H' hid) v d
 | .s=>Rep K (vw H' hid) v d
 | .n=>RN K H H' hid v d
section
variable {K:W.Frag}{c:Ct}{hid:bL}{ρ:aB}{σ:St}{H H' H'':Hp}{i:Nat}{v:V}{d:D}
theorem RN.rep(h:RN K H H' hid v d)(hf: ∀a,H a=none->hid a=false):Rep K (vw H' hid) v d:=by
 obtain⟨a,xs,ds,rfl,rfl,h1,h2,h3⟩:=h
 refine .lst (vw_some.mpr ⟨hf a h1,h2⟩) (h3.mono (fY λb q=>?_))
 unfold bQ;rw[q];rfl
theorem RK.b(k:Kd)(h:RK K k H H' hid v d)(hf: ∀a,H a=none->hid a=false):Rep1 K H' (vw H' hid) v d:=by
 cases k with
 |b=>exact h
 |s=>exact .inl h
 |n=>exact .inl (RN.rep h hf)
theorem Rep1.ext {hid:bL}(h:Rep1 K H (vw H hid) v d)(e:Same H H'):Rep1 K H' (vw H' hid) v d:=by
 rcases h with h|⟨a,xs,ds,h1,h2,h3,h4⟩
 ·exact .inl (h.mono (aS e))
 ·exact .inr ⟨a,xs,ds,h1,h2,e _ _ h3,h4.mono (aS e)⟩
theorem Rep1.int {i:Int}(h:Rep1 K H (vw H hid) v (.int i)):v=.int i:=by
 rcases h with h|⟨a,xs,ds,h1,h2,_⟩
 ·cases h;rfl
 ·cases h2
theorem Rep1.bl {i:Bool}(h:Rep1 K H (vw H hid) v (.bl i)):v=.bl i:=by
 rcases h with h|⟨a,xs,ds,h1,h2,_⟩
 ·cases h;rfl
 ·cases h2
theorem Rep1.str {i:Str}(h:Rep1 K H (vw H hid) v (.str i)):v=.str i:=by
 rcases h with h|⟨a,xs,ds,h1,h2,_⟩
 ·cases h;rfl
 ·cases h2
theorem Rep1.non(h:Rep1 K H (vw H hid) v .non):v=.non:=by
 rcases h with h|⟨a,xs,ds,h1,h2,_⟩
 ·cases h;rfl
 ·cases h2
theorem Rep1.tup {ds:List D}(h:Rep1 K H (vw H hid) v (.tup ds)): ∃a xs,v=.ref a/\SqT K (vw H hid) a xs/\SqT K H a xs/\Reps K (vw H hid) xs ds:=by
 rcases h with h|⟨a,xs,ds,h1,h2,_⟩
 ·cases h with
  |tup q r=>exact⟨_,_,rfl,q,Same.seqT (dz _ _) q,r⟩
 ·cases h2
theorem Rep1.lst {ds:List D}(h:Rep1 K H (vw H hid) v (.lst ds)): ∃a xs,v=.ref a/\SqL K H a xs/\Reps K (vw H hid) xs ds:=by
 rcases h with h|⟨a,xs,ds,h1,h2,h3,h4⟩
 ·cases h with
  |lst q r=>exact⟨_,_,rfl,SqL.of (dz _ _ _ _ q),r⟩
 ·cases h2
  exact⟨a,xs,h1,SqL.of h3,h4⟩
theorem Rep1.scr {ds:List D}(h:Rep1 K H (vw H hid) v (.scr ds)): ∃a xs,v=.ref a/\SqL K H a xs/\Reps K (vw H hid) xs ds:=by
 rcases h with h|⟨a,xs,ds,h1,h2,h3,h4⟩
 ·cases h with
  |scr q r=>exact⟨_,_,rfl,(dz _ _).seq q.seq,r⟩
 ·cases h2
end
theorem PE.imp {X:Cx}{e:Expr}{t t':TE}(h:PE X e t)(i: ∀σ H Q,t' σ H Q->t σ H Q):PE X e t':=λae s σ H Q I q=>h ae s σ H Q I (i σ H Q q)
theorem PT.imp {X:Cx}{e:Expr}{t t':TT}(h:PT X e t)(i: ∀σ H Q,t' σ H Q->t σ H Q):PT X e t':=λae s σ H Q I q=>h ae s σ H Q I (i σ H Q q)
theorem PW.imp {X:Cx}{e:Expr}{t t':TT}(h:PW X e t)(i: ∀σ H Q,t' σ H Q->t σ H Q):PW X e t':=λwh ae s σ H Q I q=>h wh ae s σ H Q I (i σ H Q q)
theorem PA.imp {X:Cx}{e:List Expr}{t t':TA}(h:PA X e t)(i: ∀σ H Q,t' σ H Q->t σ H Q):PA X e t':=λp ae s σ H Q I q=>h p ae s σ H Q I (i σ H Q q)
theorem PS.imp {X:Cx}{e:Stmt}{t t':TS}(h:PS X e t)(i: ∀D σ H,t' D σ H->t D σ H):PS X e t':=λae s σ H D I q=>h ae s σ H D I (i D σ H q)
theorem PSs.imp {X:Cx}{e:List Stmt}{t t':TS}(h:PSs X e t)(i: ∀D σ H,t' D σ H->t D σ H):PSs X e t':=λae s σ H D I q=>h ae s σ H D I (i D σ H q)
abbrev FE:=aB->Option D
abbrev FT:=aB->Option Bool
abbrev FA:=aB->Option (List D)
def rY(K:W.Frag)(c:Ct)(hid:bL)(k:Kd)(f:FE)(ρ:aB):TE:=λσ H Q=>SR K c hid ρ σ H/\ ∃d,f ρ=some d/\ ∀v H',Same H H'->RK K k H H' hid v d->Q v H'
def By(K:W.Frag)(c:Ct)(hid:bL)(f:FT)(ρ:aB):TT:=λσ H Q=>SR K c hid ρ σ H/\ ∃d,f ρ=some d/\ ∀H',Same H H'->Q d H'
def Cq(K:W.Frag)(c:Ct)(hid:bL)(f:FA)(ρ:aB):TA:=λσ H Q=>SR K c hid ρ σ H/\ ∃d,f ρ=some d/\ ∀vs H',Same H H'->Reps K (vw H' hid) vs d->Q vs H'
def DP(X:Cx)(c:Ct)(k:Kd)(e:Expr)(f:FE):Prop:= ∀hid ρ,PE X e (rY X.K c hid k f ρ)
def DT(X:Cx)(c:Ct)(e:Expr)(f:FT):Prop:= ∀hid ρ,PT X e (By X.K c hid f ρ)
def DW(X:Cx)(c:Ct)(e:Expr)(f:FT):Prop:= ∀hid ρ,PW X e (By X.K c hid f ρ)
def DA(X:Cx)(c:Ct)(es:List Expr)(f:FA):Prop:= ∀hid ρ,PA X es (Cq X.K c hid f ρ)
section
variable {X:Cx}{c:Ct}{e a b:Expr}{es:List Expr}{f g:FE}{k:Kd}{pos:Pos}
theorem DP.toS(h:DP X c .n e f):DP X c .s e f:=λhid ρ=>PE.imp (h hid ρ) λσ H Q ⟨sr,d,hd,q⟩=>⟨sr,d,hd,λv H' s r=>q v H' s (RN.rep r λa n=>sr.fresh n)⟩
def af(i:Nat):FE:=λρ=>match ρ[i]? with
 |some (.v d)=>some d
 |_=>none
def eD(i:Nat):FE:=λρ=>match ρ[i]? with
 |some (.v d)=>some d
 |some (.own ds)=>some (.lst ds)
 |some (.arg ds)=>some (.lst ds)
 |_=>none
theorem ag(i:Nat){x:Str}(hN:X.N[i]? =some x:=by rfl)(hv:m5 X.env.scope x:=by first|exact Or.inl rfl|exact Or.inr (Or.inl rfl)|exact Or.inr (Or.inr rfl))(hd:(x==("__debug__":Str))=false:=by decide)
 (hcd:(x==("__classdict__":Str))=false:=by decide):DP X c .s (.Name x pos) (af i):=λhid ρ=>PE.imp (pv i hN hv hd hcd) λσ H Q hq_=>by
 obtain⟨sr,d,hd,q⟩:=hq_
 unfold af at hd;split at hd
 ·rename_i d' e'
  cases hd
  obtain⟨x,h1,h2⟩:=sr.sl i _ e'
  exact⟨x,h1,q x H (Same.refl _) h2⟩
 ·cases hd
theorem fm(i:Nat){x:Str}(hN:X.N[i]? =some x:=by rfl)(hv:m5 X.env.scope x:=by first|exact Or.inl rfl|exact Or.inr (Or.inl rfl)|exact Or.inr (Or.inr rfl))(hd:(x==("__debug__":Str))=false:=by decide)
 (hcd:(x==("__classdict__":Str))=false:=by decide):DP X c .b (.Name x pos) (eD i):=λhid ρ=>PE.imp (pv i hN hv hd hcd) λσ H Q hq_=>by
 obtain⟨sr,d,hd,q⟩:=hq_
 unfold eD at hd;split at hd
 ·rename_i d' e'
  cases hd
  obtain⟨x,h1,h2⟩:=sr.sl i _ e'
  exact⟨x,h1,q x H (Same.refl _) (.inl h2)⟩
 ·rename_i d' e'
  cases hd
  obtain⟨a,xs,h1,h2,h3,h4,h5⟩:=sr.sl i _ e'
  exact⟨_,h1,q _ H (Same.refl _) (.inr ⟨a,xs,_,rfl,rfl,h2,h5⟩)⟩
 ·rename_i d' e'
  cases hd
  obtain⟨a,xs,h1,h2,h3,h4,h5⟩:=sr.sl i _ e'
  exact⟨_,h1,q _ H (Same.refl _) (.inr ⟨a,xs,_,rfl,rfl,h2,h5⟩)⟩
 ·cases hd
def ao(d:D):FE:=λ_=>some d
theorem ak {i:Int}{j pos}:DP X c .s (.Constant (.int i) j pos) (ao (.int i)):=λhid ρ=>PE.imp zg λσ H Q hq_=>by
 obtain⟨sr,d,hd,q⟩:=hq_
 cases hd;exact q _ H (Same.refl _) .int
theorem qX {i:Bool}{j pos}:DP X c .s (.Constant (.bool i) j pos) (ao (.bl i)):=λhid ρ=>PE.imp z0 λσ H Q hq_=>by
 obtain⟨sr,d,hd,q⟩:=hq_
 cases hd;exact q _ H (Same.refl _) .bl
theorem tF {i:Str}{j pos}:DP X c .s (.Constant (.str i) j pos) (ao (.str i)):=λhid ρ=>PE.imp xO λσ H Q hq_=>by
 obtain⟨sr,d,hd,q⟩:=hq_
 cases hd;exact q _ H (Same.refl _) .str
theorem i5 {j pos}:DP X c .s (.Constant .none j pos) (ao .non):=λhid ρ=>PE.imp yi λσ H Q hq_=>by
 obtain⟨sr,d,hd,q⟩:=hq_
 cases hd;exact q _ H (Same.refl _) .non
def ai(F:D->D->Option D)(f g:FE):FE:=λρ=>(f ρ).bind λx=>(g ρ).bind λy=>F x y
theorem ka {F:D->D->Option D}{ρ:aB}{d:D}(h:ai F f g ρ=some d): ∃x y,f ρ=some x/\g ρ=some y/\F x y=some d:=by
 unfold ai at h;cases e1:f ρ with
 |none=>rw[e1] at h;cases h
 |some x=>
  cases e2:g ρ with
  |none=>rw[e1,e2] at h;cases h
  |some y=>rw[e1,e2] at h;exact⟨x,y,rfl,rfl,h⟩
def jU(K:W.Frag)(k:Kd)(r:R2)(F:D->D->Option D):Prop:= ∀(H:Hp) (hid:bL) (v u:V) (x y d:D) (Q:VK),(∀a,H a=none->hid a=false)->F x y=some d->Rep1 K H (vw H hid) v x->Rep1 K H (vw H hid) u y->
 (∀w H',Same H H'->RK K k H H' hid w d->Q w H')->r v u H Q
theorem RK.left {K:W.Frag}{H H1 H':Hp}{hid:bL}{v:V}{d:D}(s:Same H H1)(h:RK K k H1 H' hid v d):RK K k H H' hid v d:=by
 cases k with
 |b=>exact h
 |s=>exact h
 |n=>
  obtain⟨a,xs,ds,h1,h2,h3,h4⟩:=h
  exact⟨a,xs,ds,h1,h2,s.free h3,h4⟩
theorem AS {r:R2}{F:D->D->Option D}{k1 k2:Kd}{hid:bL}{ρ:aB}(hF:jU X.K k r F){σ:St}{H:Hp}{Q:VK}(h:rY X.K c hid k (ai F f g) ρ σ H Q):yu r (rY X.K c hid k1 f ρ) (rY X.K c hid k2 g ρ) σ H Q:=by
 obtain⟨sr,d,hd,q⟩:=h
 obtain⟨x,y,e1,e2,e3⟩:=ka hd
 refine⟨sr,x,e1,λv H1 s1 r1=>⟨sr.ext s1,y,e2,λu H2 s2 r2=>?_⟩⟩
 have b1:=(RK.b k1 r1 λa n=>sr.fresh n).ext s2
 have b2:=RK.b k2 r2 λa n=>(sr.ext s1).fresh n
 exact hF H2 hid v u x y d Q (λa n=>((sr.ext s1).ext s2).fresh n) e3 b1 b2 λw H' s3 r3=>q w H' ((s1.trans s2).trans s3) (RK.left (s1.trans s2) r3)
theorem j7 {op:Operator}{r:R2}{F:D->D->Option D}{k1 k2:Kd}(ho:iu X (binaryOp op) r)(hF:jU X.K k r F)(ha:DP X c k1 a f)(hb:DP X c k2 b g):DP X c k (.BinOp a op b pos) (ai F f g):=λhid ρ=>
 PE.imp (xl ho (ha hid ρ) (hb hid ρ)) λσ H Q h=>AS hF h
theorem ie {op:CmpOp}{r:R2}{F:D->D->Option D}{k1 k2:Kd}(ho:iu X (compareOp op) r)(hF:jU X.K .s r F)(ha:DP X c k1 a f)(hb:DP X c k2 b g)(hm:behindInMarks op b=false):DP X c .s (.Compare a [op] [b] pos) (ai F f g):=λhid ρ=>
 PE.imp (wa ho (ha hid ρ) (hb hid ρ) hm) λσ H Q h=>AS hF h
def n4:Option D->Option Bool
 |some (.bl b)=>some b
 |_=>none
theorem bT {op:CmpOp}{r:R2}{F:D->D->Option D}{k1 k2:Kd}(ho:iu X (compareOp op) r)(hF:jU X.K .s r F)(ha:DP X c k1 a f)(hb:DP X c k2 b g)(hm:behindInMarks op b=false):DT X c (.Compare a [op] [b] pos) (λρ=>n4 (ai F f g ρ)):=λhid ρ=>
 PT.imp (qK ho (ha hid ρ) (hb hid ρ) hm) λσ H Q hq_=>by
  obtain⟨sr,d,hd,q⟩:=hq_
  refine AS (X:=X) (k:=.s) (F:=F) hF ?_
  dsimp only at hd;cases e:ai F f g ρ with
  |none=>rw[e] at hd;cases hd
  |some x=>
   rw[e] at hd;cases x with
   |bl z=>
    cases hd
    refine⟨sr,_,e,λv H' s r=>⟨d,?_,q H' s⟩⟩
    cases r;rfl
   |_=>cases hd
theorem aP {r:R2}{F:D->D->Option D}{k1 k2:Kd}(hr:IxR X r)(hF:jU X.K k r F)(ha:DP X c k1 a f)(hb:DP X c k2 b g)(hs:lY b):DP X c k (.Subscript a b pos) (ai F f g):=λhid ρ=>
 PE.imp (xI hr (ha hid ρ) (hb hid ρ) hs) λσ H Q h=>AS hF h
end
def i2(C:Int->Int->Bool)(G:Int->Int->D):D->D->Option D
 | .int i,.int j=>if C i j=true then some (G i j) else none
 |_,_=>none
section
variable {K:W.Frag}
theorem mC {C:Int->Int->Bool}{G:Int->Int->D}{x y d:D}(h:i2 C G x y=some d): ∃i j,x=.int i/\y=.int j/\C i j=true/\d=G i j:=by
 unfold i2 at h;split at h
 ·split at h
  ·cases h;exact⟨_,_,rfl,rfl, ‹_›,rfl⟩
  ·cases h
 ·cases h
theorem wd {C:Int->Int->Prop}{B:Int->Int->Bool}{g:Int->Int->Int}(hC: ∀i j,B i j=true->C i j):jU K .s (rI C λi j=>.int (g i j)) (i2 B λi j=>.int (g i j)):=by
 intro H hid v u x y d Q hf h r1 r2 q;obtain⟨i,j,rfl,rfl,hc,rfl⟩:=mC h
 cases r1.int;cases r2.int
 exact⟨i,j,rfl,rfl,hC i j hc,q _ H (Same.refl _) .int⟩
theorem uS {g:Int->Int->Int}:jU K .s (ve λi j=>.int (g i j)) (i2 (λ_ _=>true) λi j=>.int (g i j)):=by
 intro H hid v u x y d Q hf h r1 r2 q;obtain⟨i,j,rfl,rfl,hc,rfl⟩:=mC h
 cases r1.int;cases r2.int
 exact⟨i,j,rfl,rfl,q _ H (Same.refl _) .int⟩
theorem fH {g:Int->Int->Bool}:jU K .s (ve λi j=>.bl (g i j)) (i2 (λ_ _=>true) λi j=>.bl (g i j)):=by
 intro H hid v u x y d Q hf h r1 r2 q;obtain⟨i,j,rfl,rfl,hc,rfl⟩:=mC h
 cases r1.int;cases r2.int
 exact⟨i,j,rfl,rfl,q _ H (Same.refl _) .bl⟩
end
section
variable {X:Cx}{c:Ct}{e a b:Expr}{es rest:List Expr}{f g:FE}{p q:FT}{k:Kd}{pos:Pos}
def z8:D->Option Bool
 | .non=>some false
 | .bl b=>some b
 | .int i=>some (i !=0)
 | .str y=>if y.length<=sizeLine then some ((y.length:Int) !=0) else none
 | .lst ds=>some (!ds.isEmpty)
 | .tup ds=>some (!ds.isEmpty)
 | .scr ds=>some (!ds.isEmpty)
theorem Reps.isEmpty {K:W.Frag}{F:Hp}{xs:List V}{ds:List D}(r:Reps K F xs ds):xs.isEmpty=ds.isEmpty:=by cases r<;>rfl
theorem yx {K:W.Frag}{H:Hp}{hid:bL}{v:V}{d:D}{b:Bool}(h:z8 d=some b)(r:Rep1 K H (vw H hid) v d):yJ K v H b:=by
 cases d with
 |non=>cases r.non;cases h;rfl
 |bl x=>cases r.bl;cases h;rfl
 |int i=>cases r.int;cases h;rfl
 |str y=>
  cases r.str
  have h':(if y.length<=sizeLine then some ((y.length:Int) !=0) else none)=some b:=h
  split at h'
  ·cases h';exact⟨‹_›,rfl⟩
  ·cases h'
 |lst ds=>
  obtain⟨a,xs,rfl,h1,h2⟩:=r.lst
  cases h
  exact .inl ⟨xs,h1,by rw[h2.isEmpty]⟩
 |tup ds=>
  obtain⟨a,xs,rfl,_,h1,h2⟩:=r.tup
  cases h
  exact .inr (.inl ⟨xs,h1,by rw[h2.isEmpty]⟩)
 |scr ds=>
  obtain⟨a,xs,rfl,h1,h2⟩:=r.scr
  cases h
  exact .inl ⟨xs,h1,by rw[h2.isEmpty]⟩
def fI(f:FE):FT:=λρ=>(f ρ).bind z8
theorem jm(ha:DP X c k a f)(he: ∀whole,isTrue a X.env whole=(do let v <-whole;standAt a.pos;holding [v] (truthy v)):=by intro _;rfl):DT X c a (fI f):=λhid ρ=>
 PT.imp (uO (ha hid ρ) he) λσ H Q hq_=>by
  obtain⟨sr,d,hd,q⟩:=hq_
  unfold fI at hd;cases e:f ρ with
  |none=>rw[e] at hd;cases hd
  |some x=>
   rw[e] at hd;exact⟨sr,x,e,λv H' s r=>⟨d,yx hd (RK.b k r λa n=>sr.fresh n),q H' s⟩⟩
def eE(p q:FT):FT:=λρ=>(p ρ).bind λb=>if b=true then q ρ else some false
def ky(p q:FT):FT:=λρ=>(p ρ).bind λb=>if b=true then some true else q ρ
def gz(p:FT):FT:=λρ=>(p ρ).map (!·)
theorem vt(ha:DT X c a p):DW X c (.BoolOp .And [a] pos) p:=λhid ρ=>pw_and1 (ha hid ρ)
theorem j3(ha:DT X c a p):DW X c (.BoolOp .Or [a] pos) p:=λhid ρ=>pw_or1 (ha hid ρ)
theorem uV(ha:DT X c a p)(hb:DW X c (.BoolOp .And (b::rest) pos) q):DW X c (.BoolOp .And (a::b::rest) pos) (eE p q):=λhid ρ=>
 PW.imp (pw_and (ha hid ρ) (hb hid ρ)) λσ H Q hq_=>by
  obtain⟨sr,d,hd,hq⟩:=hq_
  unfold eE at hd;cases e:p ρ with
  |none=>rw[e] at hd;cases hd
  |some x=>
   rw[e] at hd;refine⟨sr,x,e,λH1 s1=>?_⟩
   cases x with
   |true=>exact ma ⟨sr.ext s1,d,hd,λH2 s2=>hq H2 (s1.trans s2)⟩
   |false=>cases hd;exact mF (hq H1 s1)
theorem ln(ha:DT X c a p)(hb:DW X c (.BoolOp .Or (b::rest) pos) q):DW X c (.BoolOp .Or (a::b::rest) pos) (ky p q):=λhid ρ=>
 PW.imp (pw_or (ha hid ρ) (hb hid ρ)) λσ H Q hq_=>by
  obtain⟨sr,d,hd,hq⟩:=hq_
  unfold ky at hd;cases e:p ρ with
  |none=>rw[e] at hd;cases hd
  |some x=>
   rw[e] at hd;refine⟨sr,x,e,λH1 s1=>?_⟩
   cases x with
   |false=>exact mF ⟨sr.ext s1,d,hd,λH2 s2=>hq H2 (s1.trans s2)⟩
   |true=>cases hd;exact ma (hq H1 s1)
theorem DW.dt(h:DW X c e p):DT X c e p:=λhid ρ=>(h hid ρ).pt
theorem pq(ha:DT X c a p):DT X c (.UnaryOp .Not a pos) (gz p):=λhid ρ=>
 PT.imp (yC (ha hid ρ)) λσ H Q hq_=>by
  obtain⟨sr,d,hd,hq⟩:=hq_
  unfold gz at hd;cases e:p ρ with
  |none=>rw[e] at hd;cases hd
  |some x=>rw[e] at hd;cases hd;exact⟨sr,x,e,λH1 s1=>hq H1 s1⟩
def oM(p:FT):FE:=λρ=>(p ρ).map D.bl
def be(f:FE):FT:=λρ=>n4 (f ρ)
theorem fJ {ρ:aB}{b:Bool}(h:be f ρ=some b):f ρ=some (.bl b):=by
 unfold be n4 at h;split at h
 ·cases h;assumption
 ·cases h
theorem zo(ha:DP X c .s a f)(hb:DP X c .s (.BoolOp .And (b::rest) pos) g):DP X c .s (.BoolOp .And (a::b::rest) pos) (oM (eE (be f) (be g))):=λhid ρ=>
 PE.imp (xU (ha hid ρ) (hb hid ρ)) λσ H Q hq_=>by
  obtain⟨sr,d,hd,hq⟩:=hq_
  unfold oM eE at hd;cases e:be f ρ with
  |none=>rw[e] at hd;cases hd
  |some x=>
   rw[e] at hd;refine⟨sr,_,fJ e,λv H1 s1 r=>?_⟩
   cases r
   refine⟨x,rfl,?_⟩
   cases x with
   |true=>
    refine ma ?_
    cases e2:be g ρ with
    |none=>rw[show(some true:Option Bool).bind (λb=>if b=true then be g ρ else some false)=be g ρ from rfl,e2] at hd;cases hd
    |some y=>
     rw[show(some true:Option Bool).bind (λb=>if b=true then be g ρ else some false)=be g ρ from rfl,e2] at hd;cases hd
     exact⟨sr.ext s1,_,fJ e2,λv2 H2 s2 r2=>hq v2 H2 (s1.trans s2) r2⟩
   |false=>cases hd;exact mF (hq _ H1 s1 .bl)
theorem Ah(ha:DP X c .s a f)(hb:DP X c .s (.BoolOp .Or (b::rest) pos) g):DP X c .s (.BoolOp .Or (a::b::rest) pos) (oM (ky (be f) (be g))):=λhid ρ=>
 PE.imp (Aa (ha hid ρ) (hb hid ρ)) λσ H Q hq_=>by
  obtain⟨sr,d,hd,hq⟩:=hq_
  unfold oM ky at hd;cases e:be f ρ with
  |none=>rw[e] at hd;cases hd
  |some x=>
   rw[e] at hd;refine⟨sr,_,fJ e,λv H1 s1 r=>?_⟩
   cases r
   refine⟨x,rfl,?_⟩
   cases x with
   |false=>
    refine mF ?_
    cases e2:be g ρ with
    |none=>rw[show(some false:Option Bool).bind (λb=>if b=true then some true else be g ρ)=be g ρ from rfl,e2] at hd;cases hd
    |some y=>
     rw[show(some false:Option Bool).bind (λb=>if b=true then some true else be g ρ)=be g ρ from rfl,e2] at hd;cases hd
     exact⟨sr.ext s1,_,fJ e2,λv2 H2 s2 r2=>hq v2 H2 (s1.trans s2) r2⟩
   |true=>cases hd;exact ma (hq _ H1 s1 .bl)
theorem tO {op}(h:DP X c k a f):DP X c k (.BoolOp op [a] pos) f:=λhid ρ=>y9 (h hid ρ)
theorem uv(ha:DP X c .s a f):DP X c .s (.UnaryOp .Not a pos) (oM (gz (be f))):=λhid ρ=>
 PE.imp (yL (ha hid ρ)) λσ H Q hq_=>by
  obtain⟨sr,d,hd,hq⟩:=hq_
  unfold oM gz at hd;cases e:be f ρ with
  |none=>rw[e] at hd;cases hd
  |some x=>
   rw[e] at hd;cases hd;refine⟨sr,_,fJ e,λv H1 s1 r=>?_⟩
   cases r
   exact⟨x,rfl,hq _ H1 s1 .bl⟩
def oH(p:FT)(f g:FE):FE:=λρ=>(p ρ).bind λb=>if b=true then f ρ else g ρ
theorem qe {t:Expr}(hk:k≠ .n)(ht:DT X c t p)(ha:DP X c k a f)(hb:DP X c k b g):DP X c k (.IfExp t a b pos) (oH p f g):=λhid ρ=>
 PE.imp (uZ (ht hid ρ) (ha hid ρ) (hb hid ρ)) λσ H Q hq_=>by
  obtain⟨sr,d,hd,hq⟩:=hq_
  unfold oH at hd;cases e:p ρ with
  |none=>rw[e] at hd;cases hd
  |some x=>
   rw[e] at hd;refine⟨sr,x,e,λH1 s1=>?_⟩
   have lf: ∀ {v H2},RK X.K k H1 H2 hid v d->RK X.K k H H2 hid v d:=λ{v H2} r=>RK.left s1 r
   cases x with
   |true=>exact ma ⟨sr.ext s1,d,hd,λv H2 s2 r=>hq v H2 (s1.trans s2) (lf r)⟩
   |false=>exact mF ⟨sr.ext s1,d,hd,λv H2 s2 r=>hq v H2 (s1.trans s2) (lf r)⟩
variable {r r':R2}{h:FE}{e3:Expr}
def uG(F G:D->D->Option D)(f g h:FE):FE:=λρ=>(f ρ).bind λx=>(g ρ).bind λy=>(n4 (F x y)).bind λk=>if k=true then(h ρ).bind λz=>G y z else some (.bl false)
theorem zh {F G:D->D->Option D}{k1 k2 k3:Kd}{hid:bL}{ρ:aB}(hF:jU X.K .s r F)(hG:jU X.K .s r' G){σ:St}{H:Hp}{Q:VK}(hh:rY X.K c hid .s (uG F G f g h) ρ σ H Q):
 ue r r' (rY X.K c hid k1 f ρ) (rY X.K c hid k2 g ρ) (rY X.K c hid k3 h ρ) σ H Q:=by
 obtain⟨sr,d,hd,q⟩:=hh
 unfold uG at hd;cases e1:f ρ with
 |none=>rw[e1] at hd;cases hd
 |some x=>
  cases e2:g ρ with
  |none=>rw[e1,e2] at hd;cases hd
  |some y=>
   rw[e1,e2] at hd;have hd':(n4 (F x y)).bind (λk=>if k=true then(h ρ).bind λz=>G y z else some (.bl false))=some d:=hd
   cases e3:F x y with
   |none=>rw[e3] at hd';cases hd'
   |some z=>
    cases z with
    |bl kk=>
     rw[e3] at hd';refine⟨sr,x,e1,λv H1 s1 r1=>⟨sr.ext s1,y,e2,λu H2 s2 r2=>?_⟩⟩
     have b1:=(RK.b k1 r1 λa n=>sr.fresh n).ext s2
     have b2:=RK.b k2 r2 λa n=>(sr.ext s1).fresh n
     have fr: ∀a,H2 a=none->hid a=false:=λa n=>((sr.ext s1).ext s2).fresh n
     refine hF H2 hid v u x y _ _ fr e3 b1 b2 λw H3 s3 r3=>?_
     cases r3
     refine⟨kk,rfl,?_⟩
     cases kk with
     |false=>cases hd';exact mF (q _ H3 ((s1.trans s2).trans s3) .bl)
     |true=>
      refine ma ?_
      cases e4:h ρ with
      |none=>rw[e4] at hd';cases hd'
      |some z=>
       rw[e4] at hd';have hd2:G y z=some d:=hd'
       refine⟨((sr.ext s1).ext s2).ext s3,z,e4,λw' H4 s4 r4=>?_⟩
       have b3:=RK.b k3 r4 λa n=>(((sr.ext s1).ext s2).ext s3).fresh n
       exact hG H4 hid u w' y z d Q (λa n=>((((sr.ext s1).ext s2).ext s3).ext s4).fresh n) hd2 ((b2.ext s3).ext s4) b3 λw2 H5 s5 r5=>q w2 H5 ((((s1.trans s2).trans s3).trans s4).trans s5) r5
    |_=>rw[e3] at hd';cases hd'
theorem xw {op op':CmpOp}{F G:D->D->Option D}{k1 k2 k3:Kd}(ho:iu X (compareOp op) r)(ho':iu X (compareOp op') r')(hF:jU X.K .s r F)(hG:jU X.K .s r' G)(ha:DP X c k1 a f)(hb:DP X c k2 b g)(hc:DP X c k3 e3 h)
 (hm:lastMarks [op,op'] [b,e3]=false:=by with_unfolding_all rfl):DT X c (.Compare a [op,op'] [b,e3] pos) (be (uG F G f g h)):=λhid ρ=>
 PT.imp (tQ ho ho' (ha hid ρ) (hb hid ρ) (hc hid ρ) hm) λσ H Q hq_=>by
  obtain⟨sr,d,hd,q⟩:=hq_
  refine zh (X:=X) (F:=F) (G:=G) hF hG ⟨sr,_,fJ hd,λv H' s r=>⟨d,?_,q H' s⟩⟩
  cases r;rfl
end
section
variable {X:Cx}{c:Ct}{e a b:Expr}{es rest:List Expr}{f g:FE}{fs:FA}{k:Kd}{pos:Pos}
def ah:FA:=λ_=>some []
def aa(f:FE)(fs:FA):FA:=λρ=>(f ρ).bind λd=>(fs ρ).map λr=>d::r
theorem kq {ρ:aB}{ds:List D}(h:aa f fs ρ=some ds): ∃d r,f ρ=some d/\fs ρ=some r/\ds=d::r:=by
 unfold aa at h;cases e1:f ρ with
 |none=>rw[e1] at h;cases h
 |some d=>
  cases e2:fs ρ with
  |none=>rw[e1,e2] at h;cases h
  |some r=>rw[e1,e2] at h;cases h;exact⟨d,r,rfl,rfl,rfl⟩
theorem aC:DA X c [] ah:=λhid ρ=>PA.imp cO λσ H Q ⟨sr,d,hd,q⟩=>by cases hd;exact q [] H (Same.refl _) .nil
theorem al(ha:DP X c .s e f)(hr:DA X c es fs)(hs:starEach (e::es) X.env=(false,eval e X.env)::starEach es X.env:=by rfl):DA X c (e::es) (aa f fs):=λhid ρ=>
 PA.imp (bp (ha hid ρ) (hr hid ρ) hs) λσ H Q hq_=>by
  obtain⟨sr,d,hd,q⟩:=hq_
  obtain⟨d1,r,e1,e2,rfl⟩:=kq hd
  exact⟨sr,d1,e1,λv H1 s1 r1=>⟨sr.ext s1,r,e2,λvs H2 s2 r2=>q _ H2 (s1.trans s2) (.cons (Rep.mono (aS s2) r1) r2)⟩⟩
def di(fs:FA):FE:=λρ=>(fs ρ).bind λds=>if ds.length<=sizeLine then some (.tup ds) else none
def fh(fs:FA):FE:=λρ=>(fs ρ).bind λds=>if ds.length<=sizeLine then some (.lst ds) else none
theorem rl {ρ:aB}{d:D}(h:di fs ρ=some d): ∃ds,fs ρ=some ds/\ds.length<=sizeLine/\d=.tup ds:=by
 unfold di at h;cases e1:fs ρ with
 |none=>rw[e1] at h;cases h
 |some ds=>
  rw[e1] at h;have h':(if ds.length<=sizeLine then some (D.tup ds) else none)=some d:=h
  split at h'
  ·cases h';exact⟨ds,rfl, ‹_›,rfl⟩
  ·cases h'
theorem rd {ρ:aB}{d:D}(h:fh fs ρ=some d): ∃ds,fs ρ=some ds/\ds.length<=sizeLine/\d=.lst ds:=by
 unfold fh at h;cases e1:fs ρ with
 |none=>rw[e1] at h;cases h
 |some ds=>
  rw[e1] at h;have h':(if ds.length<=sizeLine then some (D.lst ds) else none)=some d:=h
  split at h'
  ·cases h';exact⟨ds,rfl, ‹_›,rfl⟩
  ·cases h'
theorem aU {H:Hp}{p:Addr}(h:H p=none)(o:HO):Same H (bf H p o):=λb u q=>by rw[ar (bv q h)];exact q
theorem ku {K:W.Frag}{H:Hp}{hid:bL}{p:Addr}{xs:List V}{ds:List D}(hn:H p=none)(hf:hid p=false)(r:Reps K (vw H hid) xs ds):Rep K (vw (bf H p (.tup xs)) hid) (.ref p) (.tup ds):=
 .tup (SqT.of (vw_some.mpr ⟨hf,ax⟩)) (r.mono (aS (aU hn _)))
theorem ia {K:W.Frag}{H H0:Hp}{hid:bL}{p:Addr}{xs:List V}{ds:List D}(hn:H p=none)(s:Same H0 H)(r:Reps K (vw H hid) xs ds):RN K H0 (bf H p (.lst xs)) hid (.ref p) (.lst ds):=
 ⟨p,xs,ds,rfl,rfl,s.free hn,ax,by rw[i4 hn];exact r⟩
theorem fX {x1}(h:DA X c es fs):DP X c .s (.Tuple es x1 pos) (di fs):=λhid ρ=>PE.imp (ub (h hid ρ)) λσ H Q hq_=>by
 obtain⟨sr,d,hd,q⟩:=hq_
 obtain⟨ds,e1,hz,rfl⟩:=rl hd
 exact⟨sr,ds,e1,λvs H1 s1 r1=>⟨by rw[r1.length];exact hz,λp hp=>q _ _ (s1.trans (aU hp _)) (ku hp ((sr.ext s1).fresh hp) r1)⟩⟩
theorem jN(h:DA X c es fs):DP X c .n (.List es pos) (fh fs):=λhid ρ=>PE.imp (mL (h hid ρ)) λσ H Q hq_=>by
 obtain⟨sr,d,hd,q⟩:=hq_
 obtain⟨ds,e1,hz,rfl⟩:=rd hd
 exact⟨sr,ds,e1,λvs H1 s1 r1=>⟨by rw[r1.length];exact hz,λp hp=>q _ _ (s1.trans (aU hp _)) (ia hp s1 r1)⟩⟩
abbrev Reps1(K:W.Frag)(H W:Hp):List V->List D->Prop:=Paired (Rep1 K H W)
def Cb(K:W.Frag)(c:Ct)(hid:bL)(f:FA)(ρ:aB):TA:=λσ H Q=>SR K c hid ρ σ H/\ ∃d,f ρ=some d/\ ∀vs H',Same H H'->Reps1 K H' (vw H' hid) vs d->Q vs H'
def DB(X:Cx)(c:Ct)(es:List Expr)(f:FA):Prop:= ∀hid ρ,PA X es (Cb X.K c hid f ρ)
theorem aY:DB X c [] ah:=λhid ρ=>PA.imp cO λσ H Q ⟨sr,d,hd,q⟩=>by cases hd;exact q [] H (Same.refl _) .nil
theorem aI(ha:DP X c k e f)(hr:DB X c es fs)(hs:starEach (e::es) X.env=(false,eval e X.env)::starEach es X.env:=by rfl):DB X c (e::es) (aa f fs):=λhid ρ=>
 PA.imp (bp (ha hid ρ) (hr hid ρ) hs) λσ H Q hq_=>by
  obtain⟨sr,d,hd,q⟩:=hq_
  obtain⟨d1,r,e1,e2,rfl⟩:=kq hd
  exact⟨sr,d1,e1,λv H1 s1 r1=>⟨sr.ext s1,r,e2,λvs H2 s2 r2=>q _ H2 (s1.trans s2) (.cons ((RK.b k r1 λa n=>sr.fresh n).ext s2) r2)⟩⟩
def gB(K:W.Frag)(k:Kd)(r:List V->Hp->VK->Prop)(F:List D->Option D):Prop:= ∀(H:Hp) (hid:bL) (vs:List V) (ds:List D) (d:D) (Q:VK),(∀a,H a=none->hid a=false)->F ds=some d->Reps1 K H (vw H hid) vs ds->
 (∀w H',Same H H'->RK K k H H' hid w d->Q w H')->r vs H Q
def aj(F:List D->Option D)(fs:FA):FE:=λρ=>(fs ρ).bind F
theorem jT {F:List D->Option D}{ρ:aB}{d:D}(h:aj F fs ρ=some d): ∃ds,fs ρ=some ds/\F ds=some d:=by
 unfold aj at h;cases e1:fs ρ with
 |none=>rw[e1] at h;cases h
 |some ds=>rw[e1] at h;exact⟨ds,rfl,h⟩
theorem Af {r:List V->Hp->VK->Prop}{F:List D->Option D}{hid:bL}{ρ:aB}(hF:gB X.K k r F){σ:St}{H:Hp}{Q:VK}(h:rY X.K c hid k (aj F fs) ρ σ H Q):AU r (Cb X.K c hid fs ρ) σ H Q:=by
 obtain⟨sr,d,hd,q⟩:=h
 obtain⟨ds,e1,e2⟩:=jT hd
 exact⟨sr,ds,e1,λvs H1 s1 r1=>hF H1 hid vs ds d Q (λa n=>(sr.ext s1).fresh n) e2 r1 λw H' s2 r2=>q w H' (s1.trans s2) (RK.left s1 r2)⟩
variable {x:Str}{p:Pos}{id T:String}{r:List V->Hp->VK->Prop}{F:List D->Option D}
theorem bh(hc:er X (.builtin id) r)(hF:gB X.K k r F)(hm:X.mg x=none)(ha:DB X c (e::es) fs)(hg:Gl X x:=by rfl)(hv:bootBuiltins x=some (.builtin id):=by first|exact PySem.boot_len|rfl|kernel_rfl)(hn:x≠"__name__":=by decide)(hdb:(x==("__debug__":Str))=false:=by decide)
 (he:starEach (e::es) X.env=(false,eval e X.env)::starEach es X.env:=by rfl) (hpl:(backTo pos (starEach es X.env)).any (·.1)=false:=by rfl):DP X c k (.Call (.Name x p) (e::es) [] pos) (aj F fs):=λhid ρ=>
 PE.imp (iJ hc hg hm hv (ha hid ρ) hn hdb he hpl) λσ H Q h=>Af hF h
theorem bV(hc:er X (.type T) r)(hF:gB X.K k r F)(hm:X.mg x=none)(ha:DB X c (e::es) fs)(hg:Gl X x:=by rfl)(hv:bootBuiltins x=some (.type T):=by first|rfl|kernel_rfl)(hn:x≠"__name__":=by decide)(hdb:(x==("__debug__":Str))=false:=by decide)
 (he:starEach (e::es) X.env=(false,eval e X.env)::starEach es X.env:=by rfl) (hpl:(backTo pos (starEach es X.env)).any (·.1)=false:=by rfl):DP X c k (.Call (.Name x p) (e::es) [] pos) (aj F fs):=λhid ρ=>
 PE.imp (eN hc hg hm hv (ha hid ρ) hn hdb he hpl) λσ H Q h=>Af hF h
end
section
variable {K:W.Frag}
theorem Reps1.one {H W:Hp}{v:List V}{d:D}(r:Reps1 K H W v [d]): ∃x,v=[x]/\Rep1 K H W x d:=by
 cases r with
 |cons r t=>cases t;exact⟨_,rfl,r⟩
theorem Reps1.two {H W:Hp}{v:List V}{d d':D}(r:Reps1 K H W v [d,d']): ∃x y,v=[x,y]/\Rep1 K H W x d/\Rep1 K H W y d':=by
 cases r with
 |cons r t=>cases t with
  |cons r' t=>cases t;exact⟨_,_,rfl,r,r'⟩
def cb:List D->Option D
 | [.lst ds]=>some (.int ds.length)
 | [.tup ds]=>some (.int ds.length)
 | [.scr ds]=>some (.int ds.length)
 |_=>none
theorem em:gB K .s (λxs H Q=> ∃p ys,xs=[.ref p]/\(SqL K H p ys\/SqT K H p ys)/\Q (.int ys.length) H) cb:=by
 intro H hid vs ds d Q hf h r q;unfold cb at h;split at h
 ·cases h
  obtain⟨x,rfl,r1⟩:=Reps1.one r
  obtain⟨a,xs,rfl,h1,h2⟩:=r1.lst
  exact⟨a,xs,rfl,.inl h1,by rw[h2.length];exact q _ H (Same.refl _) .int⟩
 ·cases h
  obtain⟨x,rfl,r1⟩:=Reps1.one r
  obtain⟨a,xs,rfl,_,h1,h2⟩:=r1.tup
  exact⟨a,xs,rfl,.inr h1,by rw[h2.length];exact q _ H (Same.refl _) .int⟩
 ·cases h
  obtain⟨x,rfl,r1⟩:=Reps1.one r
  obtain⟨a,xs,rfl,h1,h2⟩:=r1.scr
  exact⟨a,xs,rfl,.inl h1,by rw[h2.length];exact q _ H (Same.refl _) .int⟩
 ·cases h
def nU:List D->Option D
 | [.int i]=>some (.int (if i<0 then -i else i))
 |_=>none
theorem yV:gB K .s (λxs H Q=> ∃i,xs=[.int i]/\Q (.int (if i<0 then -i else i)) H) nU:=by
 intro H hid vs ds d Q hf h r q;unfold nU at h;split at h
 ·cases h
  obtain⟨x,rfl,r1⟩:=Reps1.one r
  cases r1.int
  exact⟨_,rfl,q _ H (Same.refl _) .int⟩
 ·cases h
def qd:List D->Option D
 | [.int i,.int j]=>some (.int (if j>i then j else i))
 |_=>none
theorem vJ:gB K .s (λxs H Q=> ∃i j,xs=[.int i,.int j]/\Q (.int (if j>i then j else i)) H) qd:=by
 intro H hid vs ds d Q hf h r q;unfold qd at h;split at h
 ·cases h
  obtain⟨x,y,rfl,r1,r2⟩:=Reps1.two r
  cases r1.int;cases r2.int
  exact⟨_,_,rfl,q _ H (Same.refl _) .int⟩
 ·cases h
def eW:List D->Option D
 | [.int i,.int j]=>some (.int (if j<i then j else i))
 |_=>none
theorem mT:gB K .s (λxs H Q=> ∃i j,xs=[.int i,.int j]/\Q (.int (if j<i then j else i)) H) eW:=by
 intro H hid vs ds d Q hf h r q;unfold eW at h;split at h
 ·cases h
  obtain⟨x,y,rfl,r1,r2⟩:=Reps1.two r
  cases r1.int;cases r2.int
  exact⟨_,_,rfl,q _ H (Same.refl _) .int⟩
 ·cases h
def bH:List D->Option D
 | [.lst ds]=>some (.tup ds)
 | [.tup ds]=>some (.tup ds)
 |_=>none
theorem dh:gB K .s (λxs H Q=> ∃p ys,xs=[.ref p]/\((SqL K H p ys/\ ∀l,H l=none->Q (.ref l) (bf H l (.tup ys)))\/(SqT K H p ys/\Q (.ref p) H))) bH:=by
 intro H hid vs ds d Q hf h r q;unfold bH at h;split at h
 ·cases h
  obtain⟨x,rfl,r1⟩:=Reps1.one r
  obtain⟨a,xs,rfl,h1,h2⟩:=r1.lst
  exact⟨a,xs,rfl,.inl ⟨h1,λl hl=>q _ _ (aU hl _) (ku hl (hf l hl) h2)⟩⟩
 ·cases h
  obtain⟨x,rfl,r1⟩:=Reps1.one r
  obtain⟨a,xs,rfl,h0,h1,h2⟩:=r1.tup
  exact⟨a,xs,rfl,.inr ⟨h1,q _ H (Same.refl _) (.tup h0 h2)⟩⟩
 ·cases h
def aK:D->D->Option D
 | .lst ds,.int i=>kL ds i
 | .tup ds,.int i=>kL ds i
 | .scr ds,.int i=>kL ds i
 |_,_=>none
theorem mk {F:Hp}{xs:List V}{ds:List D}{i:Int}{d:D}(r:Reps K F xs ds)(h:kL ds i=some d): ∃x,kL xs i=some x/\Rep K F x d:=by
 unfold kL at h⊢;rw[r.length];cases e:kP ds.length i with
 |none=>rw[e] at h;cases h
 |some j=>
  rw[e] at h;obtain⟨x,h1,h2⟩:=r.get (i:=j) h
  exact⟨x,h1,h2⟩
theorem aO:jU K .s (Cd K) aK:=by
 intro H hid v u x y d Q hf h r1 r2 q;unfold aK at h;split at h
 ·cases r2.int
  obtain⟨a,xs,rfl,h1,h2⟩:=r1.lst
  obtain⟨z,h3,h4⟩:=mk h2 h
  exact .inl ⟨a,xs,_,z,rfl,rfl,h1,h3,q _ H (Same.refl _) h4⟩
 ·cases r2.int
  obtain⟨a,xs,rfl,_,h1,h2⟩:=r1.tup
  obtain⟨z,h3,h4⟩:=mk h2 h
  exact .inr (.inl ⟨a,xs,_,z,rfl,rfl,h1,h3,q _ H (Same.refl _) h4⟩)
 ·cases r2.int
  obtain⟨a,xs,rfl,h1,h2⟩:=r1.scr
  obtain⟨z,h3,h4⟩:=mk h2 h
  exact .inl ⟨a,xs,_,z,rfl,rfl,h1,h3,q _ H (Same.refl _) h4⟩
 ·cases h
end
abbrev GE:=aB->Option (D×aB)
abbrev GA:=aB->Option (List D×aB)
def Kept(hid:bL)(H H':Hp):Prop:= ∀b o,H b=some o->hid b=false->H' b=some o
theorem Kept.of {hid:bL}{H H':Hp}(s:Same H H'):Kept hid H H':=λb o q _=>s b o q
theorem Kept.trans {hid:bL}{H H1 H2:Hp}(a:Kept hid H H1)(b:Kept hid H1 H2):Kept hid H H2:=λc o q h=>b c o (a c o q h) h
theorem Kept.vw {hid:bL}{H H':Hp}(a:Kept hid H H'):Same (vw H hid) (vw H' hid):=ql a
def PostE(K:W.Frag)(c:Ct)(hid:bL)(k:Kd)(ρ':aB)(σ:St)(H H':Hp)(v:V)(d:D):Prop:=Kept hid H H'/\match k with
 | .n=> ∃a xs ds,d=.lst ds/\v=.ref a/\H a=none/\H' a=some (.lst xs)/\c.H₀ a=none/\hid a=false/\SR K c (bQ hid a) ρ' σ H'/\Reps K (vw H' (bQ hid a)) xs ds/\ ∀i:Nat,Ow ρ'[i]? ->σ[i]? ≠some (some (.ref a))
 |_=>SR K c hid ρ' σ H'/\Rep K (vw H' hid) v d
def AV(K:W.Frag)(c:Ct)(hid:bL)(k:Kd)(f:GE)(ρ:aB):TE:=λσ H Q=>SR K c hid ρ σ H/\ ∃d ρ',f ρ=some (d,ρ')/\ ∀v H',PostE K c hid k ρ' σ H H' v d->Q v H'
def DE(X:Cx)(c:Ct)(k:Kd)(e:Expr)(f:GE):Prop:= ∀hid ρ,PE X e (AV X.K c hid k f ρ)
def pu(f:FE):GE:=λρ=>(f ρ).map λd=>(d,ρ)
theorem vH {f:FE}{ρ ρ':aB}{d:D}(h:pu f ρ=some (d,ρ')):f ρ=some d/\ρ'=ρ:=by
 unfold pu at h;cases e:f ρ with
 |none=>rw[e] at h;cases h
 |some x=>rw[e] at h;cases h;exact⟨rfl,rfl⟩
section
variable {K:W.Frag}{c:Ct}{hid hid':bL}{ρ:aB}{σ:St}{H H':Hp}{i:Nat}{a:Addr}
theorem bM {hid:bL}{a b:Addr}(h:hid b=true):bQ hid a b=true:=by unfold bQ;rw[h];rfl
theorem cM {hid:bL}{a:Addr}:bQ hid a a=true:=by unfold bQ;simp
theorem SR.hide(h:SR K c hid ρ σ H)(e:Same H H')(n:H a=none){o:HO}(ho:H' a=some o)(hn: ∀xs,o≠ .tup xs:=by intro _ e;cases e):SR K c (bQ hid a) ρ σ H':=by
 have sm:Same (vw H hid) (vw H' (bQ hid a)):=λb o q=>by
  obtain⟨q1,q2⟩:=vw_some.mp q
  refine vw_some.mpr ⟨?_,e _ _ q2⟩
  unfold bQ;rw[q1];have:b≠a:=bv q2 n
  simp[this]
 refine⟨λb hb=>?_,λb xs hb q=>by
  by_cases eb:b=a
  ·subst eb;rw[ho] at q;exact hn _ (Option.some.inj q)
  ·unfold bQ at hb
   exact(h.ext e).ht b xs (by simpa [eb] using hb) q,λb q=>bM (h.h0 b q),(h.ext e).kp,(h.ext e).t0,h.c0,h.m0,h.len,λi s q=>?_,h.ap⟩
 ·by_cases eb:b=a
  ·subst eb;exact⟨_,ho⟩
  ·unfold bQ at hb
   have:hid b=true:=by simpa [eb] using hb
   obtain⟨o',q⟩:=h.tr b this
   exact⟨o',e _ _ q⟩
 ·have z:=h.sl i s q
  cases s with
  |no=>trivial
  |v d=>obtain⟨x,h1,h2⟩:=z;exact⟨x,h1,h2.mono sm⟩
  |own ds=>obtain⟨a',xs,h1,h2,h3,h4,h5⟩:=z;exact⟨a',xs,h1,e _ _ h2,bM h3,h4,h5.mono sm⟩
  |arg ds=>obtain⟨a',xs,h1,h2,h3,h4,h5⟩:=z;exact⟨a',xs,h1,e _ _ h2,bM h3,h4,h5.mono sm⟩
  |ob b=>obtain⟨a',h1,h2⟩:=z;exact⟨a',h1,h2.mono (λ_ x _=>e x) sm λ_ _ _=>bM⟩
theorem SR.show (h:SR K c (bQ hid a) ρ σ H)(h0: ∀b,c.hid₀ b=true->hid b=true)(no: ∀i:Nat,Ow ρ[i]? ->σ[i]? ≠some (some (.ref a))){o:HO}(ha:H a=some o)(hn: ∀p u,o≠ .nst p u:=by intro _ _ e;cases e):SR K c hid ρ σ H:=by
 have sm:Same (vw H (bQ hid a)) (vw H hid):=fY λb q=>bM q
 have un: ∀b,b≠a->bQ hid a b=true->hid b=true:=λb nb hb=>by unfold bQ at hb;simpa [nb] using hb
 refine⟨λb hb=>h.tr b (bM hb),λb xs hb=>h.ht b xs (bM hb),h0,h.kp,h.t0,h.c0,h.m0,h.len,λi s q=>?_,h.ap⟩
 have z:=h.sl i s q
 cases s with
 |no=>trivial
 |v d=>obtain⟨x,h1,h2⟩:=z;exact⟨x,h1,h2.mono sm⟩
 |own ds=>
  obtain⟨a',xs,h1,h2,h3,h4,h5⟩:=z
  have:a'≠a:=λe=>by subst e;exact no i (by rw[q];trivial) h1
  exact⟨a',xs,h1,h2,un a' this h3,h4,h5.mono sm⟩
 |arg ds=>
  obtain⟨a',xs,h1,h2,h3,h4,h5⟩:=z
  have:a'≠a:=λe=>by subst e;exact no i (by rw[q];trivial) h1
  exact⟨a',xs,h1,h2,un a' this h3,h4,h5.mono sm⟩
 |ob b=>
  obtain⟨a',h1,h2⟩:=z
  exact⟨a',h1,h2.mono (λ_ _ _ _ q=>q) sm λow x hx=>un x (hx.ne (λe=>by subst e;exact no i (by rw[q];exact ow) h1) ha hn)⟩
theorem SR.notOw(h:SR K c hid ρ σ H)(n:hid a=false)(i:Nat)(o:Ow ρ[i]?):σ[i]? ≠some (some (.ref a)):=λe=>by
 cases q:ρ[i]? with
 |none=>rw[q] at o;exact o
 |some s=>
  rw[q] at o;have z:=h.sl i s q
  cases s with
  |no=>exact o
  |v d=>exact o
  |own ds=>obtain⟨a',xs,h1,h2,h3,_⟩:=z;rw[e] at h1;cases h1;rw[n] at h3;cases h3
  |arg ds=>obtain⟨a',xs,h1,h2,h3,_⟩:=z;rw[e] at h1;cases h1;rw[n] at h3;cases h3
  |ob b=>obtain⟨a',h1,h2⟩:=z;rw[e] at h1;cases h1;have:=h2.hid o;rw[n] at this;cases this
theorem SR.post {k:Kd}{v:V}{d:D}(h:SR K c hid ρ σ H)(e:Same H H')(r:RK K k H H' hid v d)(hk:k≠ .b):PostE K c hid k ρ σ H H' v d:=by
 cases k with
 |b=>exact absurd rfl hk
 |s=>exact⟨.of e,h.ext e,r⟩
 |n=>
  obtain⟨a,xs,ds,h1,h2,h3,h4,h5⟩:=r
  exact⟨.of e,a,xs,ds,h1,h2,h3,h4,h.fresh0 h3,h.fresh h3,h.hide e h3 h4,h5,h.notOw (h.fresh h3)⟩
theorem PostE.left {k:Kd}{ρ':aB}{H1:Hp}{v:V}{d:D}(s:Kept hid H H1)(p:PostE K c hid k ρ' σ H1 H' v d):PostE K c hid k ρ' σ H H' v d:=by
 cases k with
 |b=>exact⟨s.trans p.1,p.2⟩
 |s=>exact⟨s.trans p.1,p.2⟩
 |n=>
  obtain⟨kp,a,xs,ds,h1,h2,hn,h3,h4,h5,h6⟩:=p
  refine⟨s.trans kp,a,xs,ds,h1,h2,?_,h3,h4,h5,h6⟩
  cases e:H a with
  |none=>rfl
  |some o=>rw[s a o e h5] at hn;cases hn
theorem PostE.toS {ρ':aB}{v:V}{d:D}(h0: ∀b,c.hid₀ b=true->hid b=true)(p:PostE K c hid .n ρ' σ H H' v d):PostE K c hid .s ρ' σ H H' v d:=by
 obtain⟨kp,a,xs,ds,rfl,rfl,hn,h1,h2,h3,h4,h5,h6⟩:=p
 exact⟨kp,h4.show h0 h6 h1,.lst (vw_some.mpr ⟨h3,h1⟩) (h5.mono (fY λb q=>bM q))⟩
end
section
variable {X:Cx}{c:Ct}{e a b:Expr}{es rest:List Expr}{f g:GE}{k:Kd}{pos:Pos}
theorem DP.ef {f:FE}(h:DP X c k e f)(hk:k≠ .b:=by decide):DE X c k e (pu f):=λhid ρ=>PE.imp (h hid ρ) λσ H Q hq_=>by
 obtain⟨sr,d,ρ',hd,q⟩:=hq_
 obtain⟨h1,rfl⟩:=vH hd
 exact⟨sr,d,h1,λv H' s r=>q v H' (sr.post s r hk)⟩
theorem DE.toS(h:DE X c .n e f):DE X c .s e f:=λhid ρ=>PE.imp (h hid ρ) λσ H Q ⟨sr,d,ρ',hd,q⟩=>⟨sr,d,ρ',hd,λv H' p=>q v H' (p.toS sr.h0)⟩
def bE {α:Type}(f:GE)(g:D->aB->Option α):aB->Option α:=λρ=>(f ρ).bind λp=>g p.1 p.2
theorem lS {α:Type}{g:D->aB->Option α}{ρ:aB}{z:α}(h:bE f g ρ=some z): ∃d ρ',f ρ=some (d,ρ')/\g d ρ'=some z:=by
 unfold bE at h;cases e:f ρ with
 |none=>rw[e] at h;cases h
 |some p=>rw[e] at h;exact⟨p.1,p.2,rfl,h⟩
def hZ(F:D->D->Option D)(f g:GE):GE:=bE f λx=>bE g λy ρ=>(F x y).map λd=>(d,ρ)
theorem rK {F:D->D->Option D}{ρ ρ':aB}{d:D}(h:hZ F f g ρ=some (d,ρ')): ∃x ρ1 y,f ρ=some (x,ρ1)/\g ρ1=some (y,ρ')/\F x y=some d:=by
 obtain⟨x,ρ1,h1,h2⟩:=lS h
 obtain⟨y,ρ2,h3,h4⟩:=lS h2
 cases e:F x y with
 |none=>rw[e] at h4;cases h4
 |some z=>rw[e] at h4;cases h4;exact⟨x,ρ1,y,h1,h3,e⟩
theorem Bq {r:R2}{F:D->D->Option D}{hid:bL}{ρ:aB}(hF:jU X.K k r F)(hk:k≠ .b){σ:St}{H:Hp}{Q:VK}(h:AV X.K c hid k (hZ F f g) ρ σ H Q):yu r (AV X.K c hid .s f ρ) (λσ H Q=> ∃ρ1,AV X.K c hid .s g ρ1 σ H Q) σ H Q:=by
 obtain⟨sr,d,ρ',hd,q⟩:=h
 obtain⟨x,ρ1,y,e1,e2,e3⟩:=rK hd
 refine⟨sr,x,ρ1,e1,λv H1 ⟨k1,s1,r1⟩=>⟨ρ1,s1,y,ρ',e2,λu H2 ⟨k2,s2,r2⟩=>?_⟩⟩
 exact hF H2 hid v u x y d Q (λa n=>s2.fresh n) e3 (.inl (r1.mono k2.vw)) (.inl r2) λw H' s3 r3=>q w H' (PostE.left (k1.trans k2) (s2.post s3 r3 hk))
theorem im {α:Type}{t:α->TE}(h: ∀z,PE X e (t z)):PE X e (λσ H Q=> ∃z,t z σ H Q):=λae s σ H Q I ⟨z,q⟩=>h z ae s σ H Q I q
theorem zK {op:Operator}{r:R2}{F:D->D->Option D}(ho:iu X (binaryOp op) r)(hF:jU X.K k r F)(ha:DE X c .s a f)(hb:DE X c .s b g)(hk:k≠ .b:=by decide):DE X c k (.BinOp a op b pos) (hZ F f g):=λhid ρ=>
 PE.imp (xl ho (ha hid ρ) (im λρ1=>hb hid ρ1)) λσ H Q h=>Bq hF hk h
def Cz(K:W.Frag)(c:Ct)(hid:bL)(f:GA)(ρ:aB):TA:=λσ H Q=>SR K c hid ρ σ H/\ ∃d ρ',f ρ=some (d,ρ')/\ ∀vs H',Kept hid H H'->SR K c hid ρ' σ H'->Reps K (vw H' hid) vs d->Q vs H'
def DG(X:Cx)(c:Ct)(es:List Expr)(f:GA):Prop:= ∀hid ρ,PA X es (Cz X.K c hid f ρ)
def bZ(f:FA):GA:=λρ=>(f ρ).map λd=>(d,ρ)
theorem nN {f:FA}{ρ ρ':aB}{d:List D}(h:bZ f ρ=some (d,ρ')):f ρ=some d/\ρ'=ρ:=by
 unfold bZ at h;cases e:f ρ with
 |none=>rw[e] at h;cases h
 |some x=>rw[e] at h;cases h;exact⟨rfl,rfl⟩
theorem DA.gf {f:FA}(h:DA X c es f):DG X c es (bZ f):=λhid ρ=>PA.imp (h hid ρ) λσ H Q hq_=>by
 obtain⟨sr,d,ρ',hd,q⟩:=hq_
 obtain⟨h1,rfl⟩:=nN hd
 exact⟨sr,d,h1,λv H' s r=>q v H' (.of s) (sr.ext s) r⟩
def cB(f:GE)(fs:GA):GA:=bE f λd ρ=>(fs ρ).map λp=>(d::p.1,p.2)
theorem Aj {α:Type}{t:α->TA}(h: ∀z,PA X es (t z)):PA X es (λσ H Q=> ∃z,t z σ H Q):=λp ae s σ H Q I ⟨z,q⟩=>h z p ae s σ H Q I q
theorem fA {fs:GA}(ha:DE X c .s e f)(hr:DG X c es fs)(hs:starEach (e::es) X.env=(false,eval e X.env)::starEach es X.env:=by rfl):DG X c (e::es) (cB f fs):=λhid ρ=>
 PA.imp (bp (ha hid ρ) (Aj λρ1=>hr hid ρ1) hs) λσ H Q hq_=>by
  obtain⟨sr,d,ρ',hd,q⟩:=hq_
  obtain⟨d1,ρ1,e1,h2⟩:=lS hd
  cases e2:fs ρ1 with
  |none=>rw[e2] at h2;cases h2
  |some p=>
   rw[e2] at h2;obtain⟨ds,ρ2⟩:=p
   cases h2
   exact⟨sr,d1,ρ1,e1,λv H1 ⟨k1,s1,r1⟩=>⟨ρ1,s1,ds,_,e2,λvs H2 k2 s2 r2=>q _ H2 (k1.trans k2) s2 (.cons (r1.mono k2.vw) r2)⟩⟩
end
def gV(K:W.Frag)(k:Kd)(n:Nat)(P:List D->Option D):Sp:=λvs H Q _=> ∃hid ds,zr hid H/\Reps K (vw H hid) vs ds/\ds.length=n/\ ∃d,P ds=some d/\ ∀v H',Same H H'->RK K k H H' hid v d->Q v H'
def Ag(K:W.Frag)(k:Kd)(hid:bL)(H H':Hp)(v:V)(d:D)(xs':List V)(bs':List D):Prop:=match k with
 | .n=> ∃p ys es,d=.lst es/\v=.ref p/\H p=none/\H' p=some (.lst ys)/\Reps K (vw H' (bQ hid p)) ys es/\Reps K (vw H' (bQ hid p)) xs' bs'
 |_=>Rep K (vw H' hid) v d/\Reps K (vw H' hid) xs' bs'
def oI(K:W.Frag)(k:Kd)(n:Nat)(M:List D->List D->Option (D×List D)):Sp:=λvs H Q _=> ∃hid a xs bs us ds,vs=.ref a::us/\zr hid H/\hid a=true/\H a=some (.lst xs)/\Reps K (vw H hid) xs bs/\
 Reps K (vw H hid) us ds/\ds.length=n/\ ∃d bs',M bs ds=some (d,bs')/\ ∀v H' xs',(∀b o,H b=some o->b≠a->H' b=some o)->H' a=some (.lst xs')->Ag K k hid H H' v d xs' bs'->Q v H'
section
variable {X:Cx}{c:Ct}{e a b:Expr}{es rest:List Expr}{k:Kd}{pos p:Pos}{x:Str}{f:Addr}{fd:FuncData}{ps:List Str}{j n:Nat}
theorem wB {P:List D->Option D}{fs:FA}(F:FnOk X.prog X.w X.K X.mg X.base lG j f fd ps (gV X.K k n P))(hr:Room j X.A)(hm:X.mg x=some (.ref f))(hk:W.keepIn X.K (.ref f)=true)(hb:Binds X.K fd ps [])
 (ha:DA X c (e::es) fs) (hg:Gl X x:=by rfl) (hdb:(x==("__debug__":Str))=false:=by decide) (he:starEach (e::es) X.env=(false,eval e X.env)::starEach es X.env:=by rfl) (hpl:(backTo pos (starEach es X.env)).any (·.1)=false:=by rfl):
 DP X c k (.Call (.Name x p) (e::es) [] pos) (aj (λds=>if ds.length=n then P ds else none) fs):=λhid ρ=>
 PE.imp (mI F hr hg hm hk hb .nil (sT (X:=X)) (ha hid ρ) hdb he hpl) λσ H Q hq_=>by
  obtain⟨sr,d,hd,q⟩:=hq_
  obtain⟨ds,e1,e2⟩:=jT hd
  have e2':(if ds.length=n then P ds else none)=some d:=e2
  split at e2'
  ·refine⟨sr,ds,e1,λvs H1 s1 r1=>?_⟩
   show gV X.K k n P (vs++[]) H1 Q E0;rw[List.append_nil];exact⟨hid,ds,(sr.ext s1).trk,r1, ‹_›,d,e2',λv H' s2 r2=>q v H' (s1.trans s2) (RK.left s1 r2)⟩
  ·cases e2'
def fN(i:Nat)(bs:List D)(ρ:aB):aB:=match ρ[i]? with
 |some (.own _)=>ρ.set i (.own bs)
 |some (.arg _)=>ρ.set i (.arg bs)
 |_=>ρ
def gp(i:Nat)(ρ:aB):Option (List D):=match ρ[i]? with
 |some (.own ds)=>some ds
 |some (.arg ds)=>some ds
 |_=>none
theorem fP {i:Nat}{ρ:aB}{bs:List D}(h:gp i ρ=some bs):ρ[i]? =some (.own bs)\/ρ[i]? =some (.arg bs):=by
 unfold gp at h;split at h
 ·cases h;exact .inl ‹_›
 ·cases h;exact .inr ‹_›
 ·cases h
theorem SR.held {K:W.Frag}{hid:bL}{ρ:aB}{σ:St}{H:Hp}{i:Nat}{bs:List D}(h:SR K c hid ρ σ H)(hg:gp i ρ=some bs): ∃a xs,σ[i]? =some (some (.ref a))/\H a=some (.lst xs)/\hid a=true/\Reps K (vw H hid) xs bs/\(c.mu a=true\/c.H₀ a=none):=by
 rcases fP hg with e|e
 ·obtain⟨a,xs,h1,h2,h3,h4,h5⟩:=h.sl i _ e
  exact⟨a,xs,h1,h2,h3,h5,.inr h4⟩
 ·obtain⟨a,xs,h1,h2,h3,h4,h5⟩:=h.sl i _ e
  exact⟨a,xs,h1,h2,h3,h5,.inl h4⟩
theorem g9 {i j:Nat}{ρ:aB}{bs:List D}(h:j≠i):(fN i bs ρ)[j]? =ρ[j]? :=by
 unfold fN;split
 ·rw[List.getElem?_set_ne (Ne.symm h)]
 ·rw[List.getElem?_set_ne (Ne.symm h)]
 ·rfl
theorem ur {i:Nat}{ρ:aB}{bs:List D}:(fN i bs ρ).length=ρ.length:=by
 unfold fN;split
 ·simp
 ·simp
 ·rfl
theorem mB {i j:Nat}{ρ:aB}{bs:List D}(h:Ow (fN i bs ρ)[j]?):Ow ρ[j]? :=by
 by_cases e:j=i
 ·subst e
  unfold fN at h;split at h
  ·rw[‹ρ[j]? =_›];trivial
  ·rw[‹ρ[j]? =_›];trivial
  ·exact h
 ·rw[g9 e] at h;exact h
theorem SR.put {K:W.Frag}{hid:bL}{ρ:aB}{σ:St}{H H':Hp}{i:Nat}{bs bs':List D}{a:Addr}{xs':List V}(h:SR K c hid ρ σ H)(hg:gp i ρ=some bs)(ha:σ[i]? =some (some (.ref a)))(kp: ∀b o,H b=some o->b≠a->H' b=some o)
 (hx:H' a=some (.lst xs')) (r:Reps K (vw H' hid) xs' bs'):SR K c hid (fN i bs' ρ) σ H':=by
 obtain⟨a1,xs,h1,h2,h3,h4,h5⟩:=h.held hg
 rw[ha] at h1;cases h1;have sm:Same (vw H hid) (vw H' hid):=ql λb o q hb=>kp b o q (λe=>by subst e;rw[h3] at hb;cases hb)
 have tr': ∀b o,H b=some o-> ∃o',H' b=some o':=λb o q=>by
  by_cases e:b=a
  ·subst e;exact⟨_,hx⟩
  ·exact⟨o,kp b o q e⟩
 refine⟨λb hb=>let⟨o,q⟩:=h.tr b hb;tr' b o q,λb xs hb q=>by
  by_cases e:b=a
  ·subst e;rw[hx] at q;cases q
  ·obtain⟨o,w⟩:=h.tr b hb
   have z:=kp b o w e
   rw[q] at z;cases z;exact h.ht b xs hb w,h.h0,λb o q m=>?_,λb o q=>let⟨o',q'⟩:=h.t0 b o q;tr' b o' q',h.c0,h.m0,by rw[ur];exact h.len,λj s q=>?_,λj l z n o1 o2=>h.ap j l z n (mB o1) (mB o2)⟩
 ·refine kp b o (h.kp b o q m) λe=>?_
  subst e;rcases h5 with h5|h5
  ·rw[h5] at m;cases m
  ·rw[h5] at q;cases q
 ·by_cases e:j=i
  ·subst e
   rcases fP hg with w|w
   ·have lt:=(List.getElem?_eq_some_iff.mp w).1
    unfold fN at q;rw[w] at q;dsimp only at q;rw[List.getElem?_set_self lt] at q;cases q
    obtain⟨a2,xs2,g1,g2,g3,g4,g5⟩:=h.sl j _ w
    rw[ha] at g1;cases g1;exact⟨_,xs',ha,hx,g3,g4,r⟩
   ·have lt:=(List.getElem?_eq_some_iff.mp w).1
    unfold fN at q;rw[w] at q;dsimp only at q;rw[List.getElem?_set_self lt] at q;cases q
    obtain⟨a2,xs2,g1,g2,g3,g4,g5⟩:=h.sl j _ w
    rw[ha] at g1;cases g1;exact⟨_,xs',ha,hx,g3,g4,r⟩
  ·rw[g9 e] at q
   have z:=h.sl j s q
   cases s with
   |no=>trivial
   |v d=>obtain⟨x,h1,h2⟩:=z;exact⟨x,h1,h2.mono sm⟩
   |own ds=>
    obtain⟨a',xs,z1,z2,z3,z4,z5⟩:=z
    have ne:a'≠a:=λe'=>by
     subst e';refine h.ap j i a' e (by rw[q];trivial) ?_ z1 ha
     rcases fP hg with w|w<;>rw[w]<;>trivial
    exact⟨a',xs,z1,kp _ _ z2 ne,z3,z4,z5.mono sm⟩
   |arg ds=>
    obtain⟨a',xs,z1,z2,z3,z4,z5⟩:=z
    have ne:a'≠a:=λe'=>by
     subst e';refine h.ap j i a' e (by rw[q];trivial) ?_ z1 ha
     rcases fP hg with w|w<;>rw[w]<;>trivial
    exact⟨a',xs,z1,kp _ _ z2 ne,z3,z4,z5.mono sm⟩
   |ob b=>
    obtain⟨a',z1,z2⟩:=z
    refine⟨a',z1,z2.mono (λow x hx o w=>kp _ _ w (hx.ne (λe'=>?_) h2)) sm λ_ _ _ w=>w⟩
    subst e';refine h.ap j i a' e (by rw[q];exact ow) ?_ z1 ha
    rcases fP hg with w|w<;>rw[w]<;>trivial
def aN(i n:Nat)(M:List D->List D->Option (D×List D))(fs:GA):GE:=λρ=>match gp i ρ with
 |none=>none
 |some _=>match fs ρ with
  |none=>none
  |some (ds,ρ1)=>match gp i ρ1 with
   |none=>none
   |some bs=>if ds.length=n then match M bs ds with
     |none=>none
     |some (d,bs')=>some (d,fN i bs' ρ1) else none
theorem j6 {i:Nat}{M:List D->List D->Option (D×List D)}{fs:GA}{ρ ρ':aB}{d:D}(h:aN i n M fs ρ=some (d,ρ')): ∃bs0 ds ρ1 bs bs',gp i ρ=some bs0/\fs ρ=some (ds,ρ1)/\gp i ρ1=some bs/\ds.length=n/\M bs ds=some (d,bs')/\ρ'=fN i bs' ρ1:=by
 unfold aN at h;split at h
 ·cases h
 ·split at h
  ·cases h
  ·split at h
   ·cases h
   ·split at h
    ·split at h
     ·cases h
     ·cases h;exact⟨_,_,_,_,_, ‹_›, ‹_›, ‹_›, ‹_›, ‹_›,rfl⟩
    ·cases h
theorem tN(i:Nat){y:Str}{py:Pos}{M:List D->List D->Option (D×List D)}{fs:GA}(F:FnOk X.prog X.w X.K X.mg X.base lG j f fd ps (oI X.K k n M))(hr:Room j X.A)(hm:X.mg x=some (.ref f))(hk:W.keepIn X.K (.ref f)=true)(hb:Binds X.K fd ps [])
 (ha:DG X c es fs) (hkb:k≠ .b:=by decide) (hN:X.N[i]? =some y:=by rfl) (hv:m5 X.env.scope y:=by first|exact Or.inl rfl|exact Or.inr (Or.inl rfl)|exact Or.inr (Or.inr rfl)) (hd:(y==("__debug__":Str))=false:=by decide)
 (hcd:(y==("__classdict__":Str))=false:=by decide) (hs:starEach (.Name y py::es) X.env=(false,eval (.Name y py) X.env)::starEach es X.env:=by rfl) (hg:Gl X x:=by rfl) (hdb:(x==("__debug__":Str))=false:=by decide) (hpl:(backTo pos (starEach es X.env)).any (·.1)=false:=by rfl):
 DE X c k (.Call (.Name x p) (.Name y py::es) [] pos) (aN i n M fs):=λhid ρ=>
 PE.imp (mI F hr hg hm hk hb .nil (sT (X:=X)) (bp (pv i hN hv hd hcd) (ha hid ρ) hs) hdb hs hpl) λσ H Q hq_=>by
  obtain⟨sr,d,ρ',hd',q⟩:=hq_
  obtain⟨bs0,ds,ρ1,bs,bs',e0,e1,e2,e3,e4,rfl⟩:=j6 hd'
  obtain⟨a,xs0,a1,_,a3,_,_⟩:=sr.held e0
  refine⟨.ref a,a1,sr,ds,ρ1,e1,λus H1 k1 s1 r1=>?_⟩
  obtain⟨a',xs,b1,b2,b3,b4,b5⟩:=s1.held e2
  rw[a1] at b1;cases b1;show oI X.K k n M ((.ref a::us)++[]) H1 Q E0;rw[List.append_nil];refine⟨hid,a,xs,bs,us,ds,rfl,s1.trk,b3,b2,b4,r1,e3,d,bs',e4,λv H' xs' kp hx hr'=>q v H' ?_⟩
  have kp':Kept hid H1 H':=λb o q hb=>kp b o q λe=>by subst e;rw[b3] at hb;cases hb
  cases k with
  |b=>exact absurd rfl hkb
  |s=>exact⟨k1.trans kp',s1.put e2 a1 kp hx hr'.2,hr'.1⟩
  |n=>
   obtain⟨p',ys,es',rfl,rfl,h1,h2,h3,h4⟩:=hr'
   have np:hid p'=false:=s1.fresh h1
   have na:a≠p':=λe=>by subst e;rw[b2] at h1;cases h1
   have sB:SR X.K c (bQ hid p') ρ1 σ (bf H1 p' (.lst ys)):=s1.hide (aU h1 _) h1 ax
   have kp2: ∀b o,(bf H1 p' (.lst ys)) b=some o->b≠a->H' b=some o:=λb o z hb=>by
    by_cases e:b=p'
    ·subst e;rw[ax] at z;cases z;exact h2
    ·rw[ar e] at z;exact kp b o z hb
   have sC:SR X.K c (bQ hid p') (fN i bs' ρ1) σ H':=sB.put e2 a1 kp2 hx h4
   have hn:H p'=none:=by
    cases e:H p' with
    |none=>rfl
    |some o=>rw[k1 p' o e np] at h1;cases h1
   refine⟨k1.trans kp',p',ys,es',rfl,rfl,hn,h2,s1.fresh0 h1,np,sC,h3,λm hm hσ=>?_⟩
   have:=s1.notOw np m (mB hm)
   exact this hσ
end
inductive Out where
 |nx (ρ:aB)|rt (d:D) (ρ:aB)|bk (ρ:aB)|ct (ρ:aB)|no
abbrev FS:=aB->Out
def Bm(c:Ct)(k:Kd)(v:V):bL:=match k,v with
 | .n,.ref a=>bQ c.hid₀ a
 |_,_=>c.hid₀
structure Ret(K:W.Frag)(c:Ct)(k:Kd)(ρ':aB)(H':Hp)(v:V)(d:D):Prop where
 kp: ∀b o,c.H₀ b=some o->c.mu b=false->H' b=some o
 val:match k with
  | .n=> ∃a xs ds,d=.lst ds/\v=.ref a/\c.H₀ a=none/\H' a=some (.lst xs)/\Reps K (vw H' (bQ c.hid₀ a)) xs ds
  |_=>Rep K (vw H' c.hid₀) v d
 arg: ∀(i:Nat) (bs:List D),ρ'[i]? =some (Sl.arg bs)-> ∃a xs,c.mu a=true/\H' a=some (.lst xs)/\Reps K (vw H' (Bm c k v)) xs bs
def EndOk(K:W.Frag)(c:Ct)(k:Kd)(D:Ends)(W:Hp):Out->Prop
 | .nx ρ'=> ∀σ' H' hid',SR K c hid' ρ' σ' H'->Same W (vw H' hid')->D.nx σ' H'
 | .rt d ρ'=> ∀v H',Ret K c k ρ' H' v d->D.rt v H'
 | .bk ρ'=> ∀σ' H' hid',SR K c hid' ρ' σ' H'->Same W (vw H' hid')->D.bk σ' H'
 | .ct ρ'=> ∀σ' H' hid',SR K c hid' ρ' σ' H'->Same W (vw H' hid')->D.ct σ' H'
 | .no=>False
theorem EndOk.mono {K:W.Frag}{c:Ct}{k:Kd}{D:Ends}{W W':Hp}{o:Out}(h:EndOk K c k D W o)(s:Same W W'):EndOk K c k D W' o:=by
 cases o with
 |nx ρ=>exact λσ' H' hid' z w=>h σ' H' hid' z (s.trans w)
 |rt d ρ=>exact h
 |bk ρ=>exact λσ' H' hid' z w=>h σ' H' hid' z (s.trans w)
 |ct ρ=>exact λσ' H' hid' z w=>h σ' H' hid' z (s.trans w)
 |no=>exact h
def B9(K:W.Frag)(c:Ct)(k:Kd)(t:FS)(ρ:aB):TS:=λD σ H=> ∃hid,SR K c hid ρ σ H/\EndOk K c k D (vw H hid) (t ρ)
def DS(X:Cx)(c:Ct)(k:Kd)(st:Stmt)(t:FS):Prop:= ∀ρ,PS X st (B9 X.K c k t ρ)
def oP(X:Cx)(c:Ct)(k:Kd)(st:List Stmt)(t:FS):Prop:= ∀ρ,PSs X st (B9 X.K c k t ρ)
section
variable {X:Cx}{c:Ct}{k:Kd}{st:Stmt}{sts rest:List Stmt}{t u:FS}{e:Expr}{pos:Pos}
theorem qk {α:Type}{t:α->TS}(h: ∀z,PSs X sts (t z)):PSs X sts (λD σ H=> ∃z,t z D σ H):=λae s σ H D I ⟨z,q⟩=>h z ae s σ H D I q
theorem zC {α:Type}{t:α->TT}(h: ∀z,PT X e (t z)):PT X e (λD σ H=> ∃z,t z D σ H):=λae s σ H D I ⟨z,q⟩=>h z ae s σ H D I q
def skip:FS:=λρ=>.nx ρ
def ay(t u:FS):FS:=λρ=>match t ρ with
 | .nx ρ'=>u ρ'
 | .rt d ρ'=>.rt d ρ'
 | .bk ρ'=>.bk ρ'
 | .ct ρ'=>.ct ρ'
 | .no=>.no
theorem cf:oP X c k [] skip:=λρ=>PSs.imp qz λD σ H ⟨hid,sr,q⟩=>q σ H hid sr (Same.refl _)
theorem aD(h:DS X c k st t):oP X c k [st] t:=λρ=>qx (h ρ)
theorem am(h1:DS X c k st t)(h2:oP X c k rest u):oP X c k (st::rest) (ay t u):=λρ=>
 PSs.imp (nk (h1 ρ) (qk λρ1=>h2 ρ1)) λD σ H hq_=>by
  obtain⟨hid,sr,q⟩:=hq_
  refine⟨hid,sr,?_⟩
  unfold ay at q;cases e:t ρ with
  |nx ρ1=>rw[e] at q;exact λσ1 H1 hid1 sr1 v1=>⟨ρ1,hid1,sr1,EndOk.mono q v1⟩
  |rt d ρ1=>rw[e] at q;exact q
  |bk ρ1=>rw[e] at q;exact q
  |ct ρ1=>rw[e] at q;exact q
  |no=>rw[e] at q;exact q
def dQ(p:FT)(t u:FS):FS:=λρ=>match p ρ with
 |some true=>t ρ
 |some false=>u ρ
 |none=>.no
theorem eC {p:FT}{a b:List Stmt}(hp:DT X c e p)(ha:oP X c k a t)(hb:oP X c k b u):DS X c k (.If e a b pos) (dQ p t u):=λρ=>
 PS.imp (xE (zC λhid=>hp hid ρ) (ha ρ) (hb ρ)) λD σ H hq_=>by
  obtain⟨hid,sr,q⟩:=hq_
  cases e1:p ρ with
  |none=>unfold dQ at q;rw[e1] at q;exact q.elim
  |some x=>
   refine⟨hid,sr,x,e1,λH1 s1=>?_⟩
   unfold dQ at q;rw[e1] at q;cases x with
   |true=>exact ma ⟨hid,sr.ext s1,EndOk.mono q (aS s1)⟩
   |false=>exact mF ⟨hid,sr.ext s1,EndOk.mono q (aS s1)⟩
def rg(f:GE):FS:=λρ=>match f ρ with
 |some (d,ρ')=>.rt d ρ'
 |none=>.no
def aX(f:FE):FS:=λρ=>match f ρ with
 |some d=>.rt d ρ
 |none=>.no
theorem qC {K:W.Frag}{hid:bL}{ρ':aB}{σ:St}{H H':Hp}{v:V}{d:D}(hk:k≠ .b)(p:PostE K c hid k ρ' σ H H' v d)(h0: ∀b,c.hid₀ b=true->hid b=true):Ret K c k ρ' H' v d:=by
 cases k with
 |b=>exact absurd rfl hk
 |s=>
  obtain⟨_,sr,r⟩:=p
  refine⟨sr.kp,r.mono (fY sr.h0),λi bs e=>?_⟩
  obtain⟨a,xs,z1,z2,z3,z4,z5⟩:=sr.sl i _ e
  refine⟨a,xs,z4,z2,?_⟩
  show Reps K (vw H' c.hid₀) xs bs;exact z5.mono (fY sr.h0)
 |n=>
  obtain⟨_,a,xs,ds,rfl,rfl,_,h1,h2,h3,sr,h5,h6⟩:=p
  have le:Same (vw H' (bQ hid a)) (vw H' (bQ c.hid₀ a)):=fY λb q=>by
   unfold bQ at q⊢;cases e:c.hid₀ b with
   |true=>rw[h0 b e];rfl
   |false=>rw[e] at q;rw[Bool.or_eq_true];right;simpa using q
  refine⟨sr.kp,⟨a,xs,ds,rfl,rfl,h2,h1,h5.mono le⟩,λi bs e=>?_⟩
  obtain⟨a',xs',z1,z2,z3,z4,z5⟩:=sr.sl i _ e
  exact⟨a',xs',z4,z2,z5.mono le⟩
theorem vz {f:GE}(he:DE X c k e f)(hk:k≠ .b:=by decide):DS X c k (.Return (some e) pos) (rg f):=λρ=>PS.imp (mD (im λhid=>he hid ρ)) λD σ H hq_=>by
 obtain⟨hid,sr,q⟩:=hq_
 unfold rg at q;cases e1:f ρ with
 |none=>rw[e1] at q;exact q.elim
 |some z=>rw[e1] at q;exact⟨hid,sr,z.1,z.2,e1,λv H' p=>q v H' (qC hk p sr.h0)⟩
theorem bu {f:FE}(he:DP X c k e f)(hk:k≠ .b:=by decide):DS X c k (.Return (some e) pos) (aX f):=λρ=>PS.imp (mD (im λhid=>he hid ρ)) λD σ H hq_=>by
 obtain⟨hid,sr,q⟩:=hq_
 unfold aX at q;cases e1:f ρ with
 |none=>rw[e1] at q;exact q.elim
 |some z=>rw[e1] at q;exact⟨hid,sr,_,e1,λv H' s r=>q v H' (qC hk (sr.post s r hk) sr.h0)⟩
def sP:Option Sl->Option (List D)
 |some (.own ds)=>some ds
 |_=>none
def va(i:Nat):FS:=λρ=>match sP ρ[i]? with
 |some ds=>.rt (.lst ds) ρ
 |none=>.no
theorem rC {o:Option Sl}{ds:List D}(h:sP o=some ds):o=some (.own ds):=by
 unfold sP at h;split at h
 ·cases h;rfl
 ·cases h
theorem wJ(i:Nat){x:Str}{pos':Pos}(hN:X.N[i]? =some x:=by rfl)(hv:m5 X.env.scope x:=by first|exact Or.inl rfl|exact Or.inr (Or.inl rfl)|exact Or.inr (Or.inr rfl))(hd:(x==("__debug__":Str))=false:=by decide)
 (hcd:(x==("__classdict__":Str))=false:=by decide):DS X c .n (.Return (some (.Name x pos')) pos) (va i):=λρ=>PS.imp (mD (pv i hN hv hd hcd)) λD σ H hq_=>by
 obtain⟨hid,sr,q⟩:=hq_
 unfold va at q;cases e0:sP ρ[i]? with
 |none=>rw[e0] at q;exact q.elim
 |some ds=>
  rw[e0] at q;have e:=rC e0
  obtain⟨a,xs,z1,z2,z3,z4,z5⟩:=sr.sl i _ e
  have le:Same (vw H hid) (vw H (bQ c.hid₀ a)):=fY λb w=>by
   unfold bQ at w;cases e:c.hid₀ b with
   |true=>exact sr.h0 b e
   |false=>
    rw[e] at w;have:b=a:=by simpa using w
    rw[this];exact z3
  refine⟨_,z1,q _ H ⟨sr.kp,⟨a,xs,ds,rfl,rfl,z4,z2,z5.mono le⟩,λj bs e'=>?_⟩⟩
  obtain⟨a',xs',w1,w2,w3,w4,w5⟩:=sr.sl j _ e'
  exact⟨a',xs',w4,w2,w5.mono le⟩
end
section
variable {K:W.Frag}{c:Ct}{hid:bL}{ρ:aB}{σ:St}{H H':Hp}{i:Nat}{a:Addr}{v:V}{d:D}
theorem SR.setV(h:SR K c hid ρ σ H)(r:Rep K (vw H hid) v d)(i:Nat):SR K c hid (ρ.set i (.v d)) (σ.set i (some v)) H:=by
 refine⟨h.tr,h.ht,h.h0,h.kp,h.t0,h.c0,h.m0,by simp[h.len],λj s q=>?_,λj l z n o1 o2 q1 q2=>?_⟩
 ·by_cases e:j=i
  ·subst e
   have lt:j<ρ.length:=by
    have:=(List.getElem?_eq_some_iff.mp q).1
    simpa using this
   rw[List.getElem?_set_self lt] at q;cases q
   exact⟨v,List.getElem?_set_self (by rw[h.len];exact lt),r⟩
  ·rw[List.getElem?_set_ne (Ne.symm e)] at q
   have w:=h.sl j s q
   have es:(σ.set i (some v))[j]? =σ[j]? :=List.getElem?_set_ne (Ne.symm e)
   cases s with
   |no=>trivial
   |v d=>obtain⟨x,h1,h2⟩:=w;exact⟨x,es.trans h1,h2⟩
   |own ds=>obtain⟨a,xs,h1,h2⟩:=w;exact⟨a,xs,es.trans h1,h2⟩
   |arg ds=>obtain⟨a,xs,h1,h2⟩:=w;exact⟨a,xs,es.trans h1,h2⟩
   |ob b=>obtain⟨a,h1,h2⟩:=w;exact⟨a,es.trans h1,h2⟩
 ·have nj: ∀m,Ow (ρ.set i (.v d))[m]? ->m≠i:=λm o e=>by
   subst e
   by_cases lt:m<ρ.length
   ·rw[List.getElem?_set_self lt] at o;exact o
   ·rw[List.getElem?_eq_none (by simpa using lt)] at o;exact o
  have e1:=nj j o1
  have e2:=nj l o2
  rw[List.getElem?_set_ne (Ne.symm e1)] at o1 q1;rw[List.getElem?_set_ne (Ne.symm e2)] at o2 q2;exact h.ap j l z n o1 o2 q1 q2
theorem SR.setO {xs:List V}{ds:List D}(h:SR K c hid ρ σ H)(ha:H a=some (.lst xs))(hh:hid a=true)(h0:c.H₀ a=none)(r:Reps K (vw H hid) xs ds)(no: ∀i:Nat,Ow ρ[i]? ->σ[i]? ≠some (some (.ref a)))(i:Nat):
 SR K c hid (ρ.set i (.own ds)) (σ.set i (some (.ref a))) H:=by
 refine⟨h.tr,h.ht,h.h0,h.kp,h.t0,h.c0,h.m0,by simp[h.len],λj s q=>?_,λj l z n o1 o2 q1 q2=>?_⟩
 ·by_cases e:j=i
  ·subst e
   have lt:j<ρ.length:=by
    have:=(List.getElem?_eq_some_iff.mp q).1
    simpa using this
   rw[List.getElem?_set_self lt] at q;cases q
   exact⟨a,xs,List.getElem?_set_self (by rw[h.len];exact lt),ha,hh,h0,r⟩
  ·rw[List.getElem?_set_ne (Ne.symm e)] at q
   have w:=h.sl j s q
   have es:(σ.set i (some (V.ref a)))[j]? =σ[j]? :=List.getElem?_set_ne (Ne.symm e)
   cases s with
   |no=>trivial
   |v d=>obtain⟨x,h1,h2⟩:=w;exact⟨x,es.trans h1,h2⟩
   |own ds=>obtain⟨a,xs,h1,h2⟩:=w;exact⟨a,xs,es.trans h1,h2⟩
   |arg ds=>obtain⟨a,xs,h1,h2⟩:=w;exact⟨a,xs,es.trans h1,h2⟩
   |ob b=>obtain⟨a,h1,h2⟩:=w;exact⟨a,es.trans h1,h2⟩
 ·by_cases e1:j=i
  ·subst e1
   have e2:l≠j:=λe=>n e.symm
   rw[List.getElem?_set_ne (Ne.symm e2)] at o2 q2
   by_cases lt:j<σ.length
   ·rw[List.getElem?_set_self lt] at q1;cases q1;exact no l o2 q2
   ·rw[List.getElem?_eq_none (by simpa using lt)] at q1;cases q1
  ·rw[List.getElem?_set_ne (Ne.symm e1)] at o1 q1
   by_cases e2:l=i
   ·subst e2
    by_cases lt:l<σ.length
    ·rw[List.getElem?_set_self lt] at q2;cases q2;exact no j o1 q1
    ·rw[List.getElem?_eq_none (by simpa using lt)] at q2;cases q2
   ·rw[List.getElem?_set_ne (Ne.symm e2)] at o2 q2
    exact h.ap j l z n o1 o2 q1 q2
end
section
variable {X:Cx}{c:Ct}{k:Kd}{st:Stmt}{sts rest:List Stmt}{t u:FS}{e:Expr}{es:List Expr}{pos pos':Pos}{x:Str}{i:Nat}
def eo(i:Nat)(f:GE):FS:=λρ=>match f ρ with
 |some (d,ρ')=>.nx (ρ'.set i (.v d))
 |none=>.no
def aT(i:Nat)(f:FE):FS:=λρ=>match f ρ with
 |some d=>.nx (ρ.set i (.v d))
 |none=>.no
def BK:D->Option (List D)
 | .lst ds=>some ds
 |_=>none
def pA(i:Nat)(f:GE):FS:=λρ=>match f ρ with
 |some (d,ρ')=>(match BK d with
  |some ds=>.nx (ρ'.set i (.own ds))
  |none=>.no)
 |none=>.no
def fj(i:Nat)(f:FE):FS:=λρ=>match f ρ with
 |some d=>(match BK d with
  |some ds=>.nx (ρ.set i (.own ds))
  |none=>.no)
 |none=>.no
theorem eJ(i:Nat){f:GE}(hn:X.N.Nodup)(he:DE X c .s e f)(hi:X.N[i]? =some x:=by rfl)(hx:sJ X.env.scope x:=by first|exact Or.inl rfl|exact Or.inr rfl)(hs:swapsWith e (some (.Name x pos')) pos.line X.env=pure false:=by rfl)
 (hf:X.fn x=true\/X.env.scope.names.lookup x=some .local:=by first|exact .inl rfl|exact .inr rfl|assumption):DS X c k (.Assign [.Name x pos'] e pos) (eo i f):=λρ=>PS.imp (i7 hn hi hx (im λhid=>he hid ρ) hs hf) λD σ H hq_=>by
 obtain⟨hid,sr,q⟩:=hq_
 unfold eo at q;cases e1:f ρ with
 |none=>rw[e1] at q;exact q.elim
 |some z=>
  rw[e1] at q;exact⟨hid,sr,z.1,z.2,e1,λv H' ⟨kp,s',r⟩=>q _ H' hid (s'.setV r i) kp.vw⟩
theorem bn(i:Nat){f:FE}(hn:X.N.Nodup)(he:DP X c .s e f)(hi:X.N[i]? =some x:=by rfl)(hx:sJ X.env.scope x:=by first|exact Or.inl rfl|exact Or.inr rfl)(hs:swapsWith e (some (.Name x pos')) pos.line X.env=pure false:=by rfl)
 (hf:X.fn x=true\/X.env.scope.names.lookup x=some .local:=by first|exact .inl rfl|exact .inr rfl|assumption):DS X c k (.Assign [.Name x pos'] e pos) (aT i f):=λρ=>PS.imp (i7 hn hi hx (im λhid=>he hid ρ) hs hf) λD σ H hq_=>by
 obtain⟨hid,sr,q⟩:=hq_
 unfold aT at q;cases e1:f ρ with
 |none=>rw[e1] at q;exact q.elim
 |some z=>
  rw[e1] at q;exact⟨hid,sr,z,e1,λv H' s' r=>q _ H' hid ((sr.ext s').setV r i) (aS s')⟩
theorem zd {K:W.Frag}{hid:bL}{ρ':aB}{σ:St}{H H':Hp}{v:V}{d:D}{D:Ends}(p:PostE K c hid .n ρ' σ H H' v d)(q:EndOk K c k D (vw H hid) (match BK d with
 |some ds=>.nx (ρ'.set i (.own ds))
 |none=>.no)):D.nx (σ.set i (some v)) H':=by
 obtain⟨kp,a,xs,ds,rfl,rfl,hn,h1,h2,h3,h4,h5,h6⟩:=p
 refine q _ H' (bQ hid a) (h4.setO h1 cM h2 h5 h6 i) λb o w=>?_
 obtain⟨w1,w2⟩:=vw_some.mp w
 refine vw_some.mpr ⟨?_,kp b o w2 w1⟩
 unfold bQ;rw[w1];have:b≠a:=bv w2 hn
 simp[this]
theorem wS(i:Nat){f:GE}(hn:X.N.Nodup)(he:DE X c .n e f)(hi:X.N[i]? =some x:=by rfl)(hx:sJ X.env.scope x:=by first|exact Or.inl rfl|exact Or.inr rfl)(hs:swapsWith e (some (.Name x pos')) pos.line X.env=pure false:=by rfl)
 (hf:X.fn x=true\/X.env.scope.names.lookup x=some .local:=by first|exact .inl rfl|exact .inr rfl|assumption):DS X c k (.Assign [.Name x pos'] e pos) (pA i f):=λρ=>PS.imp (i7 hn hi hx (im λhid=>he hid ρ) hs hf) λD σ H hq_=>by
 obtain⟨hid,sr,q⟩:=hq_
 unfold pA at q;cases e1:f ρ with
 |none=>rw[e1] at q;exact q.elim
 |some z=>
  rw[e1] at q;exact⟨hid,sr,z.1,z.2,e1,λv H' p=>zd p q⟩
theorem mV(i:Nat){f:FE}(hn:X.N.Nodup)(he:DP X c .n e f)(hi:X.N[i]? =some x:=by rfl)(hx:sJ X.env.scope x:=by first|exact Or.inl rfl|exact Or.inr rfl)(hs:swapsWith e (some (.Name x pos')) pos.line X.env=pure false:=by rfl)
 (hf:X.fn x=true\/X.env.scope.names.lookup x=some .local:=by first|exact .inl rfl|exact .inr rfl|assumption):DS X c k (.Assign [.Name x pos'] e pos) (fj i f):=λρ=>PS.imp (i7 hn hi hx (im λhid=>he hid ρ) hs hf) λD σ H hq_=>by
 obtain⟨hid,sr,q⟩:=hq_
 unfold fj at q;cases e1:f ρ with
 |none=>rw[e1] at q;exact q.elim
 |some z=>
  rw[e1] at q;exact⟨hid,sr,z,e1,λv H' s r=>zd (sr.post s r (by decide)) q⟩
def kY(f:GE):FS:=λρ=>match f ρ with
 |some (_,ρ')=>.nx ρ'
 |none=>.no
theorem vF {f:GE}(he:DE X c .s e f)(hs:swapsWith e none pos.line X.env=pure false:=by rfl):DS X c k (.Expr e pos) (kY f):=λρ=>PS.imp (qi (im λhid=>he hid ρ) hs) λD σ H hq_=>by
 obtain⟨hid,sr,q⟩:=hq_
 unfold kY at q;cases e1:f ρ with
 |none=>rw[e1] at q;exact q.elim
 |some z=>
  rw[e1] at q;exact⟨hid,sr,z.1,z.2,e1,λv H' ⟨kp,s',_⟩=>q _ H' hid s' kp.vw⟩
def AY(K:W.Frag)(r:V->List V->Hp->VK->Prop)(n:Nat)(M:List D->List D->Option (D×List D)):Prop:= ∀(H:Hp) (hid:bL) (a:Addr) (xs us:List V) (bs ds bs':List D) (d:D) (Q:VK),H a=some (.lst xs)->hid a=true->Reps K (vw H hid) xs bs->Reps K (vw H hid) us ds->
 ds.length=n->M bs ds=some (d,bs')->(∀w xs',Reps K (vw H hid) xs' bs'->Rep K (vw H hid) w d->Q w (bf H a (.lst xs')))->r (.ref a) us H Q
theorem Ab {K:W.Frag}{r:V->List V->Hp->VK->Prop}{n:Nat}{M:List D->List D->Option (D×List D)}(hM:AY K r n M){hid:bL}{ρ1:aB}{σ:St}{H H1:Hp}{a:Addr}{us:List V}{bs ds bs':List D}{d:D}{Q:VK}(k1:Kept hid H H1)(s1:SR K c hid ρ1 σ H1)(e2:gp i ρ1=some bs)
 (ha:σ[i]? =some (some (.ref a))) (r1:Reps K (vw H1 hid) us ds) (hn:ds.length=n) (hm:M bs ds=some (d,bs')) (q: ∀v H',PostE K c hid .s (fN i bs' ρ1) σ H H' v d->Q v H'):r (.ref a) us H1 Q:=by
 obtain⟨a',xs,b1,b2,b3,b4,b5⟩:=s1.held e2
 rw[ha] at b1;cases b1;refine hM H1 hid a xs us bs ds bs' d Q b2 b3 b4 r1 hn hm λw xs' rx rw'=>q w _ ⟨k1.trans λb o z hb=>?_,?_,?_⟩
 ·rw[ar (λe=>by subst e;rw[b3] at hb;cases hb)];exact z
 ·exact s1.put e2 ha (λb o z hb=>by rw[ar hb];exact z) ax (by rw[cV b3];exact rx)
 ·rw[cV b3];exact rw'
variable {n:Nat}{M:List D->List D->Option (D×List D)}{fs:GA}{r:V->List V->Hp->VK->Prop}{y name:Str}{py apos:Pos}{id:String}
theorem qP(i:Nat)(hM:AY X.K r n M)(hm:BT X id r)(slot:Slot "list" name id)(hty:typeOf (.builtin id)=pure (.type "method_descriptor"))(ha:DG X c (e::es) fs)
 (hN:X.N[i]? =some y:=by rfl) (hv:m5 X.env.scope y:=by first|exact Or.inl rfl|exact Or.inr (Or.inl rfl)|exact Or.inr (Or.inr rfl)) (hd:(y==("__debug__":Str))=false:=by decide) (hcd:(y==("__classdict__":Str))=false:=by decide)
 (hbase:attributeBase (.Name y py) name X.env (eval (.Name y py) X.env)=eval (.Name y py) X.env:=by rfl)
 (hfew:((backTo pos (starEach (e::es) X.env)).all (λx=> !x.1)&&(backToKw pos (keywordEach [] X.env)).all (λx=>x.1.isSome)
   &&decide ((e::es).length+([]:List Keyword).length+(if([]:List Keyword).isEmpty then 0 else 1)<30))=true:=by rfl)
 (hline:(apos.endLine==pos.line)=true:=by rfl) (hs:starEach (e::es) X.env=(false,eval e X.env)::starEach es X.env:=by rfl) (hplain:(backTo pos (starEach es X.env)).any (·.1)=false:=by rfl):
 DE X c .s (.Call (.Attribute (.Name y py) name apos) (e::es) [] pos) (aN i n M fs):=λhid ρ=>
 PE.imp (xy PySem.F.plainAttrs_list slot hty hm (pv i hN hv hd hcd) (ha hid ρ) hbase hfew hline hs hplain) λσ H Q hq_=>by
  obtain⟨sr,d,ρ',hd',q⟩:=hq_
  obtain⟨bs0,ds,ρ1,bs,bs',e0,e1,e2,e3,e4,rfl⟩:=j6 hd'
  obtain⟨a,xs0,a1,a2,a3,_,_⟩:=sr.held e0
  exact⟨.ref a,a1,.inl ⟨rfl,_,SqL.of a2⟩,sr,ds,ρ1,e1,λus H1 k1 s1 r1=>Ab hM k1 s1 e2 a1 r1 e3 e4 q⟩
end
section
variable {K:W.Frag}
def nS:List D->List D->Option (D×List D):=λbs ds=>match ds with
 | [d]=>if bs.length<sizeLine then some (.non,bs++[d]) else none
 |_=>none
theorem rJ:AY K qf 1 nS:=by
 intro H hid a xs us bs ds bs' d Q h1 h2 h3 h4 h5 h6 q;unfold nS at h6;split at h6
 ·split at h6
  ·cases h6
   cases h4 with
   |cons r t=>
    cases t
    exact⟨a,xs,_,rfl,rfl,h1,by rw[h3.length];assumption,q _ _ (h3.append (.cons r .nil)) .non⟩
  ·cases h6
 ·cases h6
def kQ:List D->List D->Option (D×List D):=λbs ds=>match ds with
 | [.int i]=>match (if bs.length<=sizeLine then kP bs.length i else none) with
   |some j=>(bs[j]?).map λd=>(d,bs.eraseIdx j)
   |none=>none
 |_=>none
theorem yT:AY K tf 1 kQ:=by
 intro H hid a xs us bs ds bs' d Q h1 h2 h3 h4 h5 h6 q;unfold kQ at h6;split at h6
 ·split at h6
  ·rename_i i _ j e
   cases e1:bs[j]? with
   |none=>rw[e1] at h6;cases h6
   |some z=>
    rw[e1] at h6;cases h6;cases h4 with
    |cons r t=>
     cases t
     cases r
     obtain⟨x,g1,g2⟩:=h3.get e1
     split at e
     ·obtain⟨w1,w2,w3,w4⟩:=mK e
      have hl:=h3.length
      have l63:=iq
      refine⟨a,xs,i,j,x,rfl,rfl,h1,by omega,by omega,by rw[hl];exact w1,g1,q _ _ (h3.eraseIdx j) g2⟩
     ·cases e
  ·cases h6
 ·cases h6
end
abbrev FG:=D->aB->Option aB
abbrev o6:=List D->aB->Option aB
def OwK(ρ ρ':aB)(σ σ':St):Prop:= ∀i:Nat,Ow ρ'[i]? ->Ow ρ[i]? /\σ'[i]? =σ[i]?
theorem OwK.trans {ρ ρ1 ρ2:aB}{σ σ1 σ2:St}(a:OwK ρ ρ1 σ σ1)(b:OwK ρ1 ρ2 σ1 σ2):OwK ρ ρ2 σ σ2:=λi o=>⟨(a i (b i o).1).1,(b i o).2.trans (a i (b i o).1).2⟩
def Bj {ι:Type}(IR:Hp->V->ι->Prop)(K:W.Frag)(c:Ct)(hid:bL)(g:ι->aB->Option aB)(ρ:aB)(d:ι):TG:=λv σ H Q=>SR K c hid ρ σ H/\IR (vw H hid) v d/\ ∃ρ',g d ρ=some ρ'/\ ∀σ',SR K c hid ρ' σ' H->OwK ρ ρ' σ σ'->Q σ' H
def AL {ι:Type}(IR:Hp->V->ι->Prop)(X:Cx)(c:Ct)(tg:Expr)(g:ι->aB->Option aB):Prop:= ∀hid ρ d,PG X tg (Bj IR X.K c hid g ρ d)
abbrev xX(X:Cx)(c:Ct)(tg:Expr)(g:FG):Prop:=AL (Rep X.K) X c tg g
def Bf(K:W.Frag)(c:Ct)(hid:bL)(g:o6)(ρ:aB)(d:List D):tT:=λv σ H Q=>SR K c hid ρ σ H/\Reps K (vw H hid) v d/\ ∃ρ',g d ρ=some ρ'/\ ∀σ',SR K c hid ρ' σ' H->OwK ρ ρ' σ σ'->Q σ' H
def A5(X:Cx)(c:Ct)(tg:List Expr)(g:o6):Prop:= ∀hid ρ d,PGs X tg (Bf X.K c hid g ρ d)
theorem PG.imp {X:Cx}{e:Expr}{t t':TG}(h:PG X e t)(i: ∀v σ H Q,t' v σ H Q->t v σ H Q):PG X e t':=λae s σ H v u Q I r q=>h ae s σ H v u Q I r (i v σ H Q q)
theorem PGs.imp {X:Cx}{e:List Expr}{t t':tT}(h:PGs X e t)(i: ∀v σ H Q,t' v σ H Q->t v σ H Q):PGs X e t':=λae s σ H v u Q I r q=>h ae s σ H v u Q I r (i v σ H Q q)
theorem ul {X:Cx}{e:Expr}{α:Type}{t:α->TG}(h: ∀z,PG X e (t z)):PG X e (λv σ H Q=> ∃z,t z v σ H Q):=λae s σ H v u Q I r ⟨z,q⟩=>h z ae s σ H v u Q I r q
theorem p8 {X:Cx}{e:List Expr}{α:Type}{t:α->tT}(h: ∀z,PGs X e (t z)):PGs X e (λv σ H Q=> ∃z,t z v σ H Q):=λae s σ H v u Q I r ⟨z,q⟩=>h z ae s σ H v u Q I r q
section
variable {X:Cx}{c:Ct}{k:Kd}{st:Stmt}{sts body:List Stmt}{t u:FS}{e tg iter:Expr}{es:List Expr}{pos pos':Pos}{x:Str}{i:Nat}
def gN(i:Nat):FG:=λd ρ=>some (ρ.set i (.v d))
theorem aM(i:Nat)(hn:X.N.Nodup)(hi:X.N[i]? =some x:=by rfl)(hx:sJ X.env.scope x:=by first|exact Or.inl rfl|exact Or.inr rfl)(hf:X.fn x=true\/X.env.scope.names.lookup x=some .local:=by first|exact .inl rfl|exact .inr rfl|assumption):
 xX X c (.Name x pos) (gN i):=λhid ρ d=>PG.imp (qY (i:=i) hn hi hx hf) λv σ H Q hq_=>by
 obtain⟨sr,r,ρ',e,q⟩:=hq_
 cases e
 refine q _ (sr.setV r i) λj o=>?_
 have ne:j≠i:=λe=>by
  subst e
  by_cases lt:j<ρ.length
  ·rw[List.getElem?_set_self lt] at o;exact o
  ·rw[List.getElem?_eq_none (by simpa using lt)] at o;exact o
 rw[List.getElem?_set_ne (Ne.symm ne)] at o⊢;exact⟨o,rfl⟩
def lU:o6:=λds ρ=>match ds with
 | []=>some ρ
 |_=>none
def gO(g:FG)(gs:o6):o6:=λds ρ=>match ds with
 | []=>none
 |d::r=>(g d ρ).bind λρ'=>gs r ρ'
theorem jB:A5 X c [] lU:=λhid ρ d=>PGs.imp qA λv σ H Q hq_=>by
 obtain⟨sr,r,ρ',e,q⟩:=hq_
 unfold lU at e;split at e
 ·cases e;cases r;exact⟨rfl,q σ sr λi o=>⟨o,rfl⟩⟩
 ·cases e
theorem cQ {g:FG}{gs:o6}(h1:xX X c e g)(h2:A5 X c es gs)(hs:(assignEach (e::es) X.env).map (·.2)=assign e X.env::(assignEach es X.env).map (·.2):=by rfl):A5 X c (e::es) (gO g gs):=λhid ρ d=>
 PGs.imp (oB (ul λd=>h1 hid ρ d) (p8 λz:aB×List D=>h2 hid z.1 z.2) hs) λv σ H Q hq_=>by
  obtain⟨sr,r,ρ',e,q⟩:=hq_
  cases d with
  |nil=>cases e
  |cons d1 ds=>
   cases r with
   |cons r1 r2=>
    have e:(g d1 ρ).bind (λρ'=>gs ds ρ')=some ρ':=e
    cases e1:g d1 ρ with
    |none=>rw[e1] at e;cases e
    |some ρ1=>
     rw[e1] at e;exact⟨_,_,rfl,d1,sr,r1,ρ1,e1,λσ1 s1 o1=>⟨(ρ1,ds),s1,r2,ρ',e,λσ2 s2 o2=>q σ2 s2 (o1.trans o2)⟩⟩
def gT(n:Nat)(gs:o6):FG:=λd ρ=>match d with
 | .tup ds=>if ds.length=n then gs ds ρ else none
 |_=>none
theorem jD {gs:o6}{kk n:Nat}(hc:X.calm=true)(h:A5 X c es gs)(hn:(assignEach es X.env).length=n:=by rfl)(hst:(assignEach es X.env).findIdx? (·.1)=none:=by rfl):xX X c (.Tuple es kk pos) (gT n gs):=λhid ρ d=>
 PG.imp (t9 hc (p8 λds=>h hid ρ ds) hn hst) λv σ H Q hq_=>by
  obtain⟨sr,r,ρ',e,q⟩:=hq_
  unfold gT at e;split at e
  ·split at e
   ·cases r with
    |tup h1 h2=>exact⟨_,_,rfl,Same.seqT (dz _ _) h1,by rw[h2.length];assumption,_,sr,h2,ρ',e,q⟩
   ·cases e
  ·cases e
def zp:Option aB->Out
 |some ρ=>.nx ρ
 |none=>.no
def dv(g:FG)(f:GE):FS:=λρ=>match f ρ with
 |some z=>zp (g z.1 z.2)
 |none=>.no
theorem pN {g:FG}{f:GE}(he:DE X c .s e f)(hg:xX X c tg g)(hs:swapsWithSole [tg] e pos.line X.env=pure false:=by rfl)(hw:swappedStores [tg] e X.env=pure none:=by rfl)
 (h1:(assignEach [tg] X.env).map (·.2)=[assign tg X.env]:=by rfl):DS X c k (.Assign [tg] e pos) (dv g f):=λρ=>
 PS.imp (uY (im λhid=>he hid ρ) (ul λz:bL×aB×D=>hg z.1 z.2.1 z.2.2) hs hw h1) λD σ H hq_=>by
  obtain⟨hid,sr,q⟩:=hq_
  unfold dv at q;cases e1:f ρ with
  |none=>rw[e1] at q;exact q.elim
  |some z=>
   rw[e1] at q;cases e2:g z.1 z.2 with
   |none=>dsimp only at q;rw[e2] at q;exact q.elim
   |some ρ2=>
    dsimp only at q;rw[e2] at q;exact⟨hid,sr,z.1,z.2,e1,λv H' ⟨kp,s',r⟩=>⟨(hid,z.2,z.1),s',r,ρ2,e2,λσ' s2 _=>q σ' H' hid s2 kp.vw⟩⟩
def cN(i:Nat)(fi:FE)(d:D)(ρ:aB):Option aB:=match gp i ρ with
 |some bs=>(match fi ρ with
  |some (.int j)=>(match kP bs.length j with
   |some m=>some (fN i (bs.set m d) ρ)
   |none=>none)
  |_=>none)
 |none=>none
theorem pp {fi:FE}{d:D}{ρ ρ':aB}(h:cN i fi d ρ=some ρ'): ∃bs j m,gp i ρ=some bs/\fi ρ=some (.int j)/\kP bs.length j=some m/\ρ'=fN i (bs.set m d) ρ:=by
 unfold cN at h;split at h
 ·split at h
  ·split at h
   ·cases h;exact⟨_,_,_, ‹_›, ‹_›, ‹_›,rfl⟩
   ·cases h
  ·cases h
 ·cases h
def BA(K:W.Frag)(c:Ct)(hid:bL)(g:FG)(ρ:aB)(d:D):TG:=λv σ H Q=>SR K c hid ρ σ H/\Rep K (vw H hid) v d/\ ∃ρ',g d ρ=some ρ'/\ ∀H',Kept hid H H'->SR K c hid ρ' σ H'->Q σ H'
def AO(X:Cx)(c:Ct)(tg:Expr)(g:FG):Prop:= ∀hid ρ d,PG X tg (BA X.K c hid g ρ d)
theorem gJ(i:Nat){y:Str}{py:Pos}{ix:Expr}{fi:FE}{k1:Kd}(hi:DP X c k1 ix fi)(hN:X.N[i]? =some y:=by rfl)(hv:m5 X.env.scope y:=by first|exact Or.inl rfl|exact Or.inr (Or.inl rfl)|exact Or.inr (Or.inr rfl))(hd:(y==("__debug__":Str))=false:=by decide)(hcd:(y==("__classdict__":Str))=false:=by decide)
 (ha: ∀v,assign (.Subscript (.Name y py) ix pos) X.env v=(do
   let ov <-holding [v] (eval (.Name y py) X.env)
   let iv <-holding [v,ov] (eval ix X.env)
   standAt pos
   holding [v,ov,iv] (setItem ov iv v)
   release [v,ov,iv] []):=by intro _;rfl):AO X c (.Subscript (.Name y py) ix pos) (cN i fi):=λhid ρ d=>
 PG.imp (xN (pv i hN hv hd hcd) (hi hid ρ) oo ha) λv σ H Q hq_=>by
  obtain⟨sr,r,ρ',e,q⟩:=hq_
  obtain⟨bs,j,m,e1,e2,e3,rfl⟩:=pp e
  obtain⟨a,xs,a1,a2,a3,a4,a5⟩:=sr.held e1
  refine⟨.ref a,a1,sr,_,e2,λw H1 s1 r1=>?_⟩
  have b1:=(RK.b k1 r1 λa n=>sr.fresh n).int
  cases b1
  have a4':=a4.mono (aS (hid:=hid) s1)
  refine⟨a,xs,j,m,rfl,rfl,s1 _ _ a2,by rw[a4.length];exact e3,q _ (λb o z hb=>?_) ?_⟩
  ·rw[ar (λe=>by subst e;rw[a3] at hb;cases hb)];exact s1 _ _ z
  ·exact(sr.ext s1).put e1 a1 (λb o z hb=>by rw[ar hb];exact z) ax (by rw[cV a3];exact Reps.set (r.mono (aS s1)) m a4')
theorem jS {g:FG}{f:GE}(he:DE X c .s e f)(hg:AO X c tg g)(hs:swapsWithSole [tg] e pos.line X.env=pure false:=by rfl)(hw:swappedStores [tg] e X.env=pure none:=by rfl)
 (h1:(assignEach [tg] X.env).map (·.2)=[assign tg X.env]:=by rfl):DS X c k (.Assign [tg] e pos) (dv g f):=λρ=>
 PS.imp (uY (im λhid=>he hid ρ) (ul λz:bL×aB×D=>hg z.1 z.2.1 z.2.2) hs hw h1) λD σ H hq_=>by
  obtain⟨hid,sr,q⟩:=hq_
  unfold dv at q;cases e1:f ρ with
  |none=>rw[e1] at q;exact q.elim
  |some z=>
   rw[e1] at q;cases e2:g z.1 z.2 with
   |none=>dsimp only at q;rw[e2] at q;exact q.elim
   |some ρ2=>
    dsimp only at q;rw[e2] at q;exact⟨hid,sr,z.1,z.2,e1,λv H' ⟨kp,s',r⟩=>⟨(hid,z.2,z.1),s',r,ρ2,e2,λH2 k2 s2=>q σ H2 hid s2 (kp.trans k2).vw⟩⟩
def Bu(K:W.Frag)(c:Ct)(hid:bL)(g:o6)(ρ:aB)(d:List D):tT:=λv σ H Q=>SR K c hid ρ σ H/\Reps K (vw H hid) v d/\ ∃ρ',g d ρ=some ρ'/\ ∀H',Kept hid H H'->SR K c hid ρ' σ H'->Q σ H'
def A6(X:Cx)(c:Ct)(tg:List Expr)(g:o6):Prop:= ∀hid ρ d,PGs X tg (Bu X.K c hid g ρ d)
theorem wA:A6 X c [] lU:=λhid ρ d=>PGs.imp qA λv σ H Q hq_=>by
 obtain⟨sr,r,ρ',e,q⟩:=hq_
 unfold lU at e;split at e
 ·cases e;cases r;exact⟨rfl,q H (.of (Same.refl _)) sr⟩
 ·cases e
theorem oe {g:FG}{gs:o6}(h1:AO X c e g)(h2:A6 X c es gs)(hs:(assignEach (e::es) X.env).map (·.2)=assign e X.env::(assignEach es X.env).map (·.2):=by rfl):A6 X c (e::es) (gO g gs):=λhid ρ d=>
 PGs.imp (oB (ul λd=>h1 hid ρ d) (p8 λz:aB×List D=>h2 hid z.1 z.2) hs) λv σ H Q hq_=>by
  obtain⟨sr,r,ρ',e,q⟩:=hq_
  cases d with
  |nil=>cases e
  |cons d1 ds=>
   cases r with
   |cons r1 r2=>
    have e:(g d1 ρ).bind (λρ'=>gs ds ρ')=some ρ':=e
    cases e1:g d1 ρ with
    |none=>rw[e1] at e;cases e
    |some ρ1=>
     rw[e1] at e;exact⟨_,_,rfl,d1,sr,r1,ρ1,e1,λH1 k1 s1=>⟨(ρ1,ds),s1,r2.mono k1.vw,ρ',e,λH2 k2 s2=>q H2 (k1.trans k2) s2⟩⟩
theorem vx {gs:o6}{kk n:Nat}(hc:X.calm=true)(h:A6 X c es gs)(hn:(assignEach es X.env).length=n:=by rfl)(hst:(assignEach es X.env).findIdx? (·.1)=none:=by rfl):AO X c (.Tuple es kk pos) (gT n gs):=λhid ρ d=>
 PG.imp (t9 hc (p8 λds=>h hid ρ ds) hn hst) λv σ H Q hq_=>by
  obtain⟨sr,r,ρ',e,q⟩:=hq_
  unfold gT at e;split at e
  ·split at e
   ·cases r with
    |tup h1 h2=>exact⟨_,_,rfl,Same.seqT (dz _ _) h1,by rw[h2.length];assumption,_,sr,h2,ρ',e,q⟩
   ·cases e
  ·cases e
def ItOk(K:W.Frag)(W:Hp)(J:It)(ds:List D):Prop:=
 (∀(i:Nat) (d:D) (H:Hp),ds[i]? =some d->Same W H->J.go i H/\ ∀x H',J.yld i H x H'->Same H H'/\ ∀hid:bL,(∀b,hid b=true-> ∃o,H b=some o)->Same W (vw H hid)->Rep K (vw H' hid) x d)/\ ∀H,Same W H->J.stop ds.length H
def Cw(K:W.Frag)(c:Ct)(hid:bL)(f:GA)(ρ:aB):TI:=λσ H R=>SR K c hid ρ σ H/\ ∃ds ρ',f ρ=some (ds,ρ')/\ ∀J H',Kept hid H H'->SR K c hid ρ' σ H'->ItOk K (vw H' hid) J ds->R J H'
def DI(X:Cx)(c:Ct)(tg iter:Expr)(f:GA):Prop:= ∀hid ρ,PI X tg iter (Cw X.K c hid f ρ)
theorem PI.imp {t t':TI}(h:PI X tg iter t)(i: ∀σ H Q,t' σ H Q->t σ H Q):PI X tg iter t':=λae s σ H R I q=>h ae s σ H R I (i σ H R q)
theorem BE {α:Type}{t:α->TI}(h: ∀z,PI X tg iter (t z)):PI X tg iter (λσ H R=> ∃z,t z σ H R):=λae s σ H R I ⟨z,q⟩=>h z ae s σ H R I q
theorem uN {K:W.Frag}{W:Hp}{a:Addr}{xs:List V}{ds:List D}(h:SqT K W a xs)(r:Reps K W xs ds):ItOk K W (Bo K a) ds:=by
 refine⟨λi d H e s=>?_,λH s=>⟨xs,Same.seqT s h,by rw[r.length];exact Nat.le_refl _⟩⟩
 obtain⟨x,e1,r1⟩:=r.get e
 refine⟨⟨xs,x,Same.seqT s h,e1⟩,λy H' ⟨e2,e3⟩=>?_⟩
 subst e2;have:=e3 xs (Same.seqT s h)
 rw[e1] at this;cases this;exact⟨Same.refl _,λhid _ sw=>r1.mono sw⟩
def oJ(lo:Int)(n:Nat):List D:=(List.range n).map λ(i:Nat)=>D.int (lo+i)
theorem pj {K:W.Frag}{W:Hp}{lo:Int}{n:Nat}:ItOk K W (AM lo n) (oJ lo n):=by
 refine⟨λi d H e s=>?_,λH s=>by show n<=(oJ lo n).length;simp[oJ]⟩
 unfold oJ at e;rw[List.getElem?_map] at e;cases e1:(List.range n)[i]? with
 |none=>rw[e1] at e;cases e
 |some j=>
  rw[e1] at e;obtain⟨h1,h2⟩:=List.getElem?_eq_some_iff.mp e1
  simp at h1 h2;subst h2;cases e
  refine⟨h1,λy H' ⟨e2,e3⟩=>?_⟩
  subst e2 e3;exact⟨Same.refl _,λhid _ sw=>.int⟩
def dE(g:FG)(b:FS):List D->FS
 | [],ρ=>.nx ρ
 |d::r,ρ=>match g d ρ with
  |none=>.no
  |some ρ1=>match b ρ1 with
   | .nx ρ2=>dE g b r ρ2
   | .ct ρ2=>dE g b r ρ2
   | .bk ρ2=>.nx ρ2
   | .rt d ρ2=>.rt d ρ2
   | .no=>.no
def cY(f:GA)(g:FG)(b:FS):FS:=λρ=>match f ρ with
 |some (ds,ρ')=>dE g b ds ρ'
 |none=>.no
theorem fE {f:GA}{g:FG}{tb:FS}(hp:PassesOwn (model X.prog X.w) X.A X.env X.xe)(hc:X.calm=true)(hi:DI X c tg iter f)(hg:xX X c tg g)(hb:oP X c k body tb)
 (hs: ∀x,foldedSetIterable iter X.env x=pure x:=by intro _;rfl):DS X c k (.For tg iter body [] pos) (cY f g tb):=λρ=>
 PS.imp (xT hp hc (BE λhid=>hi hid ρ) (ul λz:bL×aB×D=>hg z.1 z.2.1 z.2.2) (qk λρ=>hb ρ) hs) λD σ H hq_=>by
  obtain⟨hid,sr,q⟩:=hq_
  unfold cY at q;cases e1:f ρ with
  |none=>rw[e1] at q;exact q.elim
  |some z=>
   obtain⟨ds,ρ0⟩:=z
   rw[e1] at q;have q':EndOk X.K c k D (vw H hid) (dE g tb ds ρ0):=q
   refine⟨hid,sr,ds,ρ0,e1,λJ H1 kp s1 it=>?_⟩
   refine⟨λi m σ H=>m=ds.length-i/\i<=ds.length/\ ∃hid2 ρ2,SR X.K c hid2 ρ2 σ H/\Same (vw H1 hid) (vw H hid2)/\EndOk X.K c k D (vw H hid2) (dE g tb (ds.drop i) ρ2),⟨ds.length,by simp,Nat.zero_le _,hid,ρ0,s1,Same.refl _,EndOk.mono q' kp.vw⟩,?_⟩
   rintro i m σ2 H2 ⟨rfl,hi',hid2,ρ2,s2,w2,q2⟩
   have wH:Same (vw H1 hid) H2:=w2.trans (dz _ _)
   by_cases hlt:i<ds.length
   ·have hd:ds[i]? =some ds[i]:=List.getElem?_eq_getElem hlt
    have e2:ds.drop i=ds[i]::ds.drop (i+1):=List.drop_eq_getElem_cons hlt
    rw[e2] at q2;unfold dE at q2;obtain⟨go,yl⟩:=it.1 i ds[i] H2 hd wH
    refine .inr ⟨go,λσ' H'=> ∃hid3 ρ3,SR X.K c hid3 ρ3 σ' H'/\Same (vw H1 hid) (vw H' hid3)/\EndOk X.K c k D (vw H' hid3) (dE g tb (ds.drop (i+1)) ρ3),λσ' H' n3=>⟨ds.length- (i+1),by omega,rfl,hlt,n3⟩,λx H3 y=>?_⟩
    obtain⟨s3,rp⟩:=yl x H3 y
    have rx:=rp hid2 s2.tr w2
    cases e3:g ds[i] ρ2 with
    |none=>rw[e3] at q2;exact q2.elim
    |some ρ3=>
     rw[e3] at q2;refine⟨(hid2,ρ2,ds[i]),s2.ext s3,rx,ρ3,e3,λσ4 s4 _=>⟨ρ3,hid2,s4,?_⟩⟩
     have w3:Same (vw H2 hid2) (vw H3 hid2):=aS s3
     dsimp only at q2;cases e4:tb ρ3 with
     |nx ρ5=>rw[e4] at q2;exact λσ' H' hid' z w=>⟨hid',ρ5,z,(w2.trans w3).trans w,EndOk.mono q2 (w3.trans w)⟩
     |ct ρ5=>rw[e4] at q2;exact λσ' H' hid' z w=>⟨hid',ρ5,z,(w2.trans w3).trans w,EndOk.mono q2 (w3.trans w)⟩
     |bk ρ5=>rw[e4] at q2;exact λσ' H' hid' z w=>q2 σ' H' hid' z (w3.trans w)
     |rt d ρ5=>rw[e4] at q2;exact q2
     |no=>rw[e4] at q2;exact q2.elim
   ·have e:i=ds.length:=by omega
    subst e;rw[List.drop_eq_nil_of_le (Nat.le_refl _)] at q2;exact .inl ⟨it.2 H2 wH,q2 σ2 H2 hid2 s2 (Same.refl _)⟩
def sI(p:FT)(b:FS):Nat->FS
 |0,_=>.no
 |n+1,ρ=>match p ρ with
  |none=>.no
  |some false=>.nx ρ
  |some true=>match b ρ with
   | .nx ρ2=>sI p b n ρ2
   | .ct ρ2=>sI p b n ρ2
   | .bk ρ2=>.nx ρ2
   | .rt d ρ2=>.rt d ρ2
   | .no=>.no
theorem vc(n:Nat){p:FT}{tb:FS}(hp:PassesOwn (model X.prog X.w) X.A X.env X.xe)(hc:DT X c e p)(hb:oP X c k body tb):DS X c k (.While e body [] pos) (sI p tb n):=λρ=>
 PS.imp (uI hp (zC λz:bL×aB=>hc z.1 z.2) (qk λρ=>hb ρ)) λD σ H hq_=>by
  obtain⟨hid,sr,q⟩:=hq_
  refine⟨λm σ H=> ∃hid2 ρ2,SR X.K c hid2 ρ2 σ H/\EndOk X.K c k D (vw H hid2) (sI p tb m ρ2),⟨n,hid,ρ,sr,q⟩,?_⟩
  rintro m σ2 H2 ⟨hid2,ρ2,s2,q2⟩
  cases m with
  |zero=>exact q2.elim
  |succ m=>
   unfold sI at q2;cases e1:p ρ2 with
   |none=>rw[e1] at q2;exact q2.elim
   |some b=>
    rw[e1] at q2;refine⟨(hid2,ρ2),s2,b,e1,λH3 s3=>?_⟩
    cases b with
    |false=>exact mF (q2 σ2 H3 hid2 (s2.ext s3) (aS s3))
    |true=>
     refine ma ⟨λσ' H'=> ∃hid3 ρ3,SR X.K c hid3 ρ3 σ' H'/\EndOk X.K c k D (vw H' hid3) (sI p tb m ρ3),λσ' H' n3=>⟨m,Nat.lt_succ_self _,n3⟩,ρ2,hid2,s2.ext s3,?_⟩
     have w3:Same (vw H2 hid2) (vw H3 hid2):=aS s3
     dsimp only at q2;cases e4:tb ρ2 with
     |nx ρ5=>rw[e4] at q2;exact λσ' H' hid' z w=>⟨hid',ρ5,z,EndOk.mono q2 (w3.trans w)⟩
     |ct ρ5=>rw[e4] at q2;exact λσ' H' hid' z w=>⟨hid',ρ5,z,EndOk.mono q2 (w3.trans w)⟩
     |bk ρ5=>rw[e4] at q2;exact λσ' H' hid' z w=>q2 σ' H' hid' z (w3.trans w)
     |rt d ρ5=>rw[e4] at q2;exact q2
     |no=>rw[e4] at q2;exact q2.elim
end
def eG(n:Nat)(ds:List D):aB:=ds.map Sl.v++List.replicate (n-ds.length) .no
def iw(kd:Kd)(n:Nat)(t:FS)(ds:List D):Option D:=match t (eG n ds) with
 | .rt d _=>some d
 | .nx _=>(match kd with
   | .n=>none
   |_=>some .non)
 |_=>none
def jY(n:Nat)(bs ds:List D):aB:=.arg bs::(ds.map Sl.v++List.replicate (n-1-ds.length) .no)
def j5:aB->Option (List D)
 | .arg bs::_=>some bs
 |_=>none
def oK(kd:Kd)(n:Nat)(t:FS)(bs ds:List D):Option (D×List D):=match t (jY n bs ds) with
 | .rt d ρ=>(j5 ρ).map λb=>(d,b)
 | .nx ρ=>(match kd with
   | .n=>none
   |_=>(j5 ρ).map λb=>(.non,b))
 |_=>none
theorem tK {K:W.Frag}{c:Ct}{hid:bL}{H:Hp}(m:Nat): ∀ {vs:List V} {ds:List D},Reps K (vw H hid) vs ds-> ∀(i:Nat) (s:Sl),(ds.map Sl.v++List.replicate m .no)[i]? =some s->SlOk K c hid (vs.map some++List.replicate m none) H i s:=by
 intro vs ds r i s e;have hl:=r.length
 by_cases hi:i<ds.length
 ·rw[List.getElem?_append_left (by simpa using hi),List.getElem?_map] at e
  have e2:ds[i]? =some ds[i]:=List.getElem?_eq_getElem hi
  rw[e2] at e;cases e
  obtain⟨x,h1,h2⟩:=r.get e2
  exact⟨x,by rw[List.getElem?_append_left (by simp;omega),List.getElem?_map,h1];rfl,h2⟩
 ·rw[List.getElem?_append_right (by simpa using hi),List.getElem?_replicate] at e
  split at e
  ·cases e;trivial
  ·cases e
theorem x0 {ds:List D}{m i:Nat}: ¬Ow (ds.map Sl.v++List.replicate m Sl.no)[i]? :=λo=>by
 by_cases hi:i<ds.length
 ·rw[List.getElem?_append_left (by simpa using hi),List.getElem?_map,List.getElem?_eq_getElem hi] at o
  exact o
 ·rw[List.getElem?_append_right (by simpa using hi),List.getElem?_replicate] at o
  split at o<;>exact o
theorem SR.begins {K:W.Frag}{hid:bL}{H:Hp}{N:List Str}{vs:List V}{ds:List D}(tr:zr hid H)(r:Reps K (vw H hid) vs ds):SR K ⟨H,hid,λ_=>false⟩ hid (eG N.length ds) (cR N vs) H:=by
 have hl:=r.length
 unfold cR eG;rw[hl];exact⟨tr.1,tr.2,λ_ h=>h,λ_ _ h _=>h,λb o h=>⟨o,h⟩,tr.1,(λ_ h=>nomatch h),by simp[hl],λi s e=>tK _ r i s e,λi j a _ o=>absurd o x0⟩
section
variable {P:Program}{w:World}{K:W.Frag}{mg:Str->Option Value}{base:Heap}{x qual:Str}{st:Stmt}{f:Addr}{fd:FuncData}{N ps:List Str}{k:Nat}{t:FS}{kd:Kd}
theorem qU(F:Fun K x qual st f fd)(S:FnScope N ps (aq st))(hkd:kd≠ .b)
 (body: ∀(cdv:Value) (A:Around) (outer:List Env) (s:Shared) (H:Hp) (hid:bL) (E:XK),Room k (A.deeper (envOfC qual (aq st) s.heap.objs.size f cdv))->
   oP (ji lG P w K mg base N qual (aq st) f cdv A outer s H E).nox ⟨H,hid,λ_=>false⟩ kd (aQ st) t):
 FnOk P w K mg base lG (k+1) f fd ps (gV K kd ps.length (iw kd N.length t)):=by
 refine F.ok S (λvs H Q E h=>?_) (λcdv A outer s H vs Q E hr h=>?_)
 ·obtain⟨hid,ds,_,r,hl,_⟩:=h
  rw[r.length,hl]
 ·obtain⟨hid,ds,tr,r,hl,d,hP,q⟩:=h
  refine⟨_,body cdv A outer s H hid E hr (eG N.length ds),hid,SR.begins tr r,?_⟩
  unfold iw at hP;cases e:t (eG N.length ds) with
  |nx ρ=>
   rw[e] at hP;intro σ' H' hid' sr _;have sm:Same H H':=λb o z=>sr.kp b o z rfl
   cases kd with
   |b=>exact absurd rfl hkd
   |s=>cases hP;exact q _ H' sm .non
   |n=>cases hP
  |rt d' ρ=>
   rw[e] at hP;cases hP
   intro v H' R;have sm:Same H H':=λb o z=>R.kp b o z rfl
   cases kd with
   |b=>exact absurd rfl hkd
   |s=>exact q v H' sm R.val
   |n=>exact q v H' sm R.val
  |bk ρ=>rw[e] at hP;cases hP
  |ct ρ=>rw[e] at hP;cases hP
  |no=>rw[e] at hP;cases hP
theorem SR.beginsE {hid:bL}{H:Hp}{a:Addr}{xs us:List V}{bs ds:List D}(tr:zr hid H)(ha:hid a=true)(hx:H a=some (.lst xs))(rb:Reps K (vw H hid) xs bs)(r:Reps K (vw H hid) us ds)(hN:0<N.length):
 SR K ⟨H,hid,λb=>decide (b=a)⟩ hid (jY N.length bs ds) (cR N (.ref a::us)) H:=by
 have hl:=r.length
 have es:cR N (.ref a::us)=some (V.ref a)::(us.map some++List.replicate (N.length-1-ds.length) none):=by
  unfold cR;rw[List.map_cons,List.cons_append,List.length_cons,hl];congr 3
  omega
 rw[es];unfold jY;refine⟨tr.1,tr.2,λ_ h=>h,λ_ _ h _=>h,λb o h=>⟨o,h⟩,tr.1,λb h=>?_,by simp[hl],λi s e=>?_,λi j z n o1 o2 q1 q2=>?_⟩
 ·have:b=a:=by simpa using h
  rw[this];exact ha
 ·cases i with
  |zero=>
   cases e
   exact⟨a,xs,rfl,hx,ha,by simp,rb⟩
  |succ i=>
   have z:=tK (c:=⟨H,hid,λb=>decide (b=a)⟩) (N.length-1-ds.length) r i s (by simpa using e)
   cases s with
   |no=>trivial
   |v d=>obtain⟨x,h1,h2⟩:=z;exact⟨x,by simpa using h1,h2⟩
   |own ds=>obtain⟨x,xs,h1,h2⟩:=z;exact⟨x,xs,by simpa using h1,h2⟩
   |arg ds=>obtain⟨x,xs,h1,h2⟩:=z;exact⟨x,xs,by simpa using h1,h2⟩
   |ob b=>obtain⟨x,h1,h2⟩:=z;exact⟨x,by simpa using h1,h2⟩
 ·cases i with
  |zero=>
   cases j with
   |zero=>exact n rfl
   |succ j=>exact x0 (by simpa using o2)
  |succ i=>exact x0 (by simpa using o1)
theorem rA {ρ:aB}{b:List D}(h:j5 ρ=some b):ρ[0]? =some (.arg b):=by
 unfold j5 at h;split at h
 ·cases h;rfl
 ·cases h
theorem zq {n:Nat}(F:Fun K x qual st f fd)(S:FnScope N ps (aq st))(hkd:kd≠ .b)(hn:ps.length=n+1)
 (body: ∀(cdv:Value) (A:Around) (outer:List Env) (s:Shared) (H:Hp) (hid:bL) (a:Addr) (E:XK),Room k (A.deeper (envOfC qual (aq st) s.heap.objs.size f cdv))->
   oP (ji lG P w K mg base N qual (aq st) f cdv A outer s H E).nox ⟨H,hid,λb=>decide (b=a)⟩ kd (aQ st) t):
 FnOk P w K mg base lG (k+1) f fd ps (oI K kd n (oK kd N.length t)):=by
 refine F.ok S (λvs H Q E h=>?_) (λcdv A outer s H vs Q E hr h=>?_)
 ·obtain⟨hid,a,xs,bs,us,ds,rfl,_,_,_,_,r,hl,_⟩:=h
  rw[List.length_cons,r.length,hl,hn]
 ·obtain⟨hid,a,xs,bs,us,ds,rfl,tr,ha,hx,rb,r,hl,d,bs',hM,q⟩:=h
  have hN:0<N.length:=by have:=congrArg List.length S.pre;rw[List.length_take] at this;omega
  refine⟨_,body cdv A outer s H hid a E hr (jY N.length bs ds),hid,SR.beginsE tr ha hx rb r hN,?_⟩
  have fin: ∀(v:V) (H':Hp) (ρ:aB) (d:D),Ret K ⟨H,hid,λb=>decide (b=a)⟩ kd ρ H' v d->j5 ρ=some bs'->(∀v H' xs',(∀b o,H b=some o->b≠a->H' b=some o)->H' a=some (.lst xs')->Ag K kd hid H H' v d xs' bs'->Q v H')->Q v H':=by
   intro v H' ρ d R h0 q;obtain⟨a',xs',m1,m2,m3⟩:=R.arg 0 _ (rA h0)
   have:a'=a:=by simpa using m1
   subst this;refine q v H' xs' (λb o z n=>R.kp b o z (by simpa using n)) m2 ?_
   cases kd with
   |b=>exact absurd rfl hkd
   |s=>exact⟨R.val,m3⟩
   |n=>
    obtain⟨p,ys,es,rfl,rfl,h1,h2,h3⟩:=R.val
    exact⟨p,ys,es,rfl,rfl,h1,h2,h3,m3⟩
  unfold oK at hM;cases e:t (jY N.length bs ds) with
  |nx ρ=>
   rw[e] at hM;intro σ' H' hid' sr _;cases kd with
   |b=>exact absurd rfl hkd
   |s=>
    dsimp only at hM;cases e0:j5 ρ with
    |none=>rw[e0] at hM;cases hM
    |some b=>
     rw[e0] at hM;cases hM;exact fin .non H' ρ .non (qC (k:=.s) (by decide) (sr.post (k:=.s) (Same.refl _) .non (by decide)) sr.h0) e0 q
   |n=>cases hM
  |rt d' ρ=>
   rw[e] at hM;dsimp only at hM;cases e0:j5 ρ with
   |none=>rw[e0] at hM;cases hM
   |some b=>
    rw[e0] at hM;cases hM;intro v H' R;exact fin v H' ρ _ R e0 q
  |bk ρ=>rw[e] at hM;cases hM
  |ct ρ=>rw[e] at hM;cases hM
  |no=>rw[e] at hM;cases hM
end
def qh(K:W.Frag):Sp:=λvs H Q _=> ∃(a:Addr) (ns:List Int),vs=[.ref a]/\SqR K H a (ns.map V.int)/\ns.length<=63/\ ∀H',Q (.bl true) H'
theorem lJ {K:W.Frag}{F:Hp}: ∀ns:List Int,Reps K F (ns.map V.int) (ns.map D.int)
 | []=>.nil
 |_::r=>.cons .int (lJ r)
theorem yr {P:Program}{w:World}{K:W.Frag}{mg:Str->Option Value}{base:Heap}{f:Addr}{fd:FuncData}{x:Str}{k:Nat}{M:List D->Option D}(F:FnOk P w K mg base lG k f fd [x] (gV K .s 1 M))(hM: ∀ns:List Int,ns.length<=63->M [.scr (ns.map D.int)]=some (.bl true)):
 FnOk P w K mg base lG k f fd [x] (qh K):=F.imp λvs H Q E hq_=>by
 obtain⟨a,ns,e,hS,hl,q⟩:=hq_
 subst e;have hv:vw H (λ_=>false)=H:=by funext b;unfold vw;simp
 refine⟨λ_=>false,[.scr (ns.map D.int)],⟨(λb h=>nomatch h),(λb xs h=>nomatch h)⟩,?_,rfl,.bl true,hM ns hl,λv H' _ r=>?_⟩
 ·rw[hv];exact .cons (.scr hS (lJ ns)) .nil
 ·cases r;exact q H'
theorem walkD {l:W.OpenLaw}{k:Nat}{x:Str}{q:Program}{loose:List Str}{XP:(Str->Option Value)->Heap->Prop}{YP:World->Heap->Prop}{d:DefRec}{K:Params->W.Frag}(hn:l.most=some 63)(hdf:d.params.defaults=[])(hr:Room k callerA)
 (hY: ∀(w:World) (h:Heap),YP w h->(K w.params).In h)
 (F: ∀(w:World) (mg:Str->Option Value) (fa:Addr) (h:Heap),(K w.params).In h->h.Ns mainGlobals mg->mg d.name=some (.ref fa)->
   ∃fd:FuncData,(∀(s:Shared) (u:Value),BindsTo s fd ⟨[u],[]⟩ [(x,u)])/\ ∀base:Heap,(K w.params).In base->base.Ns mainGlobals mg->FnOk l.prog w (K w.params) mg base lG k fa fd [x] (qh (K w.params))):
 W.WalkO q loose XP YP l.row.toRowW d [] (λf vs=>PySem.call f vs):=
 L2.walk_of (n:=63) (k:=k) (x:=x) (CX:=λ_=>lG) (sp:=λw=>qh (K w.params)) hn (by decide) hdf hr hY F (λ_ H a ns hl hO hS=>⟨a,ns,rfl,hS.elim (λr=>r.elim (λe=>by rcases hO a with z|⟨o,xs,z⟩<;>rw[z] at e<;>cases e) .inl) .inr,hl,λ_=>rfl⟩) λ_ _ _ _ _ z=>z
def nC(cells:List (Str×Addr)):List (Str×NameKind)->List (Str×Addr)->List (Str×Addr)
 | [],acc=>acc
 |(n,k)::r,acc=>nC cells r (if k== .free then(match cells.lookup n with
  |some c=>(n,c)::acc
  |none=>acc) else acc)
theorem mQ {cells:List (Str×Addr)}: ∀ {names:List (Str×NameKind)} {acc:List (Str×Addr)},(∀p∈acc,cells.lookup p.1=some p.2)-> ∀p∈nC cells names acc,cells.lookup p.1=some p.2
 | [],acc,h,p,hp=>h p hp
 |(n,k)::r,acc,h,p,hp=>by
  refine mQ (names:=r) ?_ p hp
  intro q hq;split at hq
  ·split at hq
   ·rename_i c e
    rcases List.mem_cons.mp hq with rfl|hq
    ·exact e
    ·exact h q hq
   ·exact h q hq
  ·exact h q hq
theorem oG {cells:List (Str×Addr)}: ∀ {names:List (Str×NameKind)} {acc:List (Str×Addr)} (p:Str×Addr),p∈nC cells names acc->p∈acc\/(p.1,NameKind.free)∈names
 | [],acc,p,hp=>.inl hp
 |(n,k)::r,acc,p,hp=>by
  rcases oG (names:=r) p hp with hq|hq
  ·split at hq
   ·rename_i ek
    split at hq
    ·rcases List.mem_cons.mp hq with e|hq
     ·subst e
      have:k=.free:=by simpa using ek
      subst this;exact .inr List.mem_cons_self
     ·exact .inl hq
    ·exact .inl hq
   ·exact .inl hq
  ·exact .inr (List.mem_cons_of_mem _ hq)
theorem oy {cells:List (Str×Addr)}: ∀ {names:List (Str×NameKind)} {acc:List (Str×Addr)} {p:Str×Addr},p∈acc->p∈nC cells names acc
 | [],acc,p,h=>h
 |(n,k)::r,acc,p,h=>by
  refine oy (names:=r) ?_
  split
  ·split
   ·exact List.mem_cons_of_mem _ h
   ·exact h
  ·exact h
theorem qc {cells:List (Str×Addr)}{x:Str}{c:Addr}(hc:cells.lookup x=some c): ∀ {names:List (Str×NameKind)} {acc:List (Str×Addr)},(x,NameKind.free)∈names->(x,c)∈nC cells names acc
 | [],_,h=>nomatch h
 |(n,k)::r,acc,h=>by
  rcases List.mem_cons.mp h with e|h
  ·cases e
   refine oy (names:=r) ?_
   rw[if_pos (by rfl),hc]
   exact List.mem_cons_self
  ·exact qc hc (names:=r) h
theorem kR {l:List (Str×Addr)}{x:Str}{c:Addr}(h:(x,c)∈l)(u: ∀p∈l,p.1=x->p.2=c):l.lookup x=some c:=by
 induction l with
 |nil=>exact nomatch h
 |cons p r ih=>
  obtain⟨n,a⟩:=p
  rw[List.lookup_cons];cases e:x==n with
  |true=>
   have e':x=n:=eq_of_beq e
   have:=u (n,a) List.mem_cons_self e'.symm
   simpa using this
  |false=>
   have ne:x≠n:=λe'=>by rw[e'] at e;simp at e
   rcases List.mem_cons.mp h with e'|h
   ·cases e';exact absurd rfl ne
   ·exact ih h λp hp=>u p (List.mem_cons_of_mem _ hp)
theorem o9 {cells:List (Str×Addr)}{names:List (Str×NameKind)}{x:Str}{c:Addr}(h:(nC cells names []).lookup x=some c):cells.lookup x=some c:=
 mQ (names:=names) (acc:=[]) (λ_ z=>nomatch z) (x,c) (PySem.mem_of_lookup h)
theorem js {cells:List (Str×Addr)}{names:List (Str×NameKind)}{x:Str}{c:Addr}(hc:cells.lookup x=some c)(hf:(x,NameKind.free)∈names):(nC cells names []).lookup x=some c:=
 kR (qc hc hf) λp hp e=>by
  have:=mQ (names:=names) (acc:=[]) (λ_ z=>nomatch z) p hp
  rw[e,hc] at this;exact(Option.some.inj this).symm
theorem gy {scope:Scope}{env:Env}(h: ∀x,(x,NameKind.free)∈scope.names-> ∃c,env.cells.lookup x=some c):closureFor scope env=pure (nC env.cells scope.names []):=by
 unfold closureFor;have key: ∀(names:List (Str×NameKind)) (acc:List (Str×Addr)),(∀x,(x,NameKind.free)∈names-> ∃c,env.cells.lookup x=some c)->
  (forIn names acc (λ(p:Str×NameKind) (r:List (Str×Addr))=>match p with
    |(name,kind)=>if(kind==NameKind.free)=true then do
       let __do_lift <-cellOf env name
       pure (ForInStep.yield ((name,__do_lift)::r)) else pure (ForInStep.yield r)):Sem (List (Str×Addr)))=pure (nC env.cells names acc):=by
  intro names
  induction names with
  |nil=>intro acc _;rfl
  |cons p r ih=>
   intro acc h;obtain⟨n,k⟩:=p
   rw[List.forIn_cons];have hr: ∀x,(x,NameKind.free)∈r-> ∃c,env.cells.lookup x=some c:=λx hx=>h x (List.mem_cons_of_mem _ hx)
   cases e:k==NameKind.free with
   |false=>
    simp only[e,Bool.false_eq_true,if_false,pure_bind];rw[ih acc hr]
    conv=>rhs;unfold nC
    simp[e]
   |true=>
    have ek:k=.free:=by simpa using e
    subst ek;obtain⟨c,hc⟩:=h n List.mem_cons_self
    have ec:cellOf env n=pure c:=by unfold cellOf;rw[hc]
    simp only[beq_self_eq_true,if_true,ec,pure_bind];rw[ih _ hr]
    conv=>rhs;unfold nC
    simp[hc]
 have:=key scope.names [] h
 simp only[this,pure_bind]
theorem fS {sc:Scope}{env:Env}{x:Str}{k:NameKind}(h:(relabel sc env).names.lookup x=some k): ∃k0,sc.names.lookup x=some k0/\(k=k0\/(k0=.free/\k=.cell)):=by
 unfold relabel at h;dsimp only at h
 generalize sc.names=l at h⊢
 induction l with
 |nil=>simp at h
 |cons p r ih=>
  obtain⟨n,k1⟩:=p
  rw[List.map_cons] at h;dsimp only at h;rw[List.lookup_cons];cases hx:x==n with
  |true=>
   refine⟨k1,rfl,?_⟩
   split at h
   ·rename_i hc
    rw[List.lookup_cons] at h;simp only[hx] at h;cases h
    have:k1=.free:=by
     simp only[Bool.and_eq_true] at hc;exact eq_of_beq hc.1.1
    exact .inr ⟨this,rfl⟩
   ·rw[List.lookup_cons] at h
    simp only[hx] at h;cases h
    exact .inl rfl
  |false=>
   split at h
   ·rw[List.lookup_cons] at h;simp only[hx] at h;exact ih h
   ·rw[List.lookup_cons] at h;simp only[hx] at h;exact ih h
def mH(cells:List (Str×Addr))(scope:Scope)(C:Addr):List (Str×Addr):=cellsFrom (C+1) scope.names (nC cells scope.names [])
theorem bw: ∀(names:List (Str×NameKind)) (n:Nat) (acc:List (Str×Addr)),cellsFrom n names acc=cellsFrom n names []++acc
 | [],_,_=>rfl
 |(name,kind)::r,n,acc=>by
  unfold cellsFrom;split
  ·rw[bw r (n+1) ((name,n)::acc),bw r (n+1) [(name,n)],List.append_assoc];rfl
  ·exact bw r n acc
theorem mf: ∀ {names:List (Str×NameKind)} {n:Nat} {p:Str×Addr},p∈cellsFrom n names []->(p.1,NameKind.cell)∈names
 | [],_,_,h=>nomatch h
 |(name,kind)::r,n,p,h=>by
  unfold cellsFrom at h;split at h
  ·rename_i hk
   have hk':kind=.cell:=by simpa using hk
   subst hk';rw[bw] at h;rcases List.mem_append.mp h with h|h
   ·exact List.mem_cons_of_mem _ (mf h)
   ·rw[List.mem_singleton.mp h];exact List.mem_cons_self
  ·exact List.mem_cons_of_mem _ (mf h)
theorem i9: ∀ {names:List (Str×NameKind)} {n:Nat} {x:Str},(x,NameKind.cell)∈names-> ∃c,(x,c)∈cellsFrom n names []
 | [],_,_,h=>nomatch h
 |(name,kind)::r,n,x,h=>by
  unfold cellsFrom;rcases List.mem_cons.mp h with e|h
  ·cases e
   rw[if_pos (by rfl),bw]
   exact⟨n,List.mem_append_right _ List.mem_cons_self⟩
  ·split
   ·obtain⟨c,hc⟩:=i9 (n:=n+1) h
    rw[bw];exact⟨c,List.mem_append_left _ hc⟩
   ·exact i9 h
theorem pH {l:List (Str×Addr)}{x:Str}{c:Addr}(h:(x,c)∈l): ∃c',l.lookup x=some c':=by
 induction l with
 |nil=>exact nomatch h
 |cons p r ih=>
  obtain⟨n,a⟩:=p
  rw[List.lookup_cons];cases e:x==n with
  |true=>exact⟨a,rfl⟩
  |false=>
   rcases List.mem_cons.mp h with e'|h
   ·cases e';simp at e
   ·exact ih h
theorem dH {cells:List (Str×Addr)}{sc:Scope}{C:Addr}{x:Str}{c:Addr}(h:(mH cells sc C).lookup x=some c):(x,c)∈cellsFrom (C+1) sc.names []\/(nC cells sc.names []).lookup x=some c:=by
 unfold mH at h;rw[bw,List.lookup_append] at h;cases e:(cellsFrom (C+1) sc.names []).lookup x with
 |none=>rw[e] at h;exact .inr h
 |some c'=>rw[e] at h;cases h;exact .inl (PySem.mem_of_lookup e)
theorem tH {cells:List (Str×Addr)}{sc:Scope}{C:Addr}{x:Str}(h:(x,NameKind.cell)∈sc.names): ∃c,(mH cells sc C).lookup x=some c:=by
 obtain⟨c,hc⟩:=i9 (n:=C+1) h
 obtain⟨c',e⟩:=pH hc
 exact⟨c',by unfold mH;rw[bw,List.lookup_append,e];rfl⟩
theorem oE {cells:List (Str×Addr)}{sc:Scope}{C:Addr}{x:Str}(h:(x,NameKind.cell)∉sc.names):(mH cells sc C).lookup x=(nC cells sc.names []).lookup x:=by
 unfold mH;rw[bw,List.lookup_append];cases e:(cellsFrom (C+1) sc.names []).lookup x with
 |none=>rfl
 |some c'=>exact absurd (mf (PySem.mem_of_lookup e)) h
theorem vO {M:Model}{A:Around}{E:Value->Shared->Prop}{s:Shared}{scope:Scope}{globals:Addr}{closure:List (Str×Addr)}{qual:Str}{outer:Env}{Q:Env->Shared->Prop}
 (hQ: ∀h',h'.Ns s.heap.objs.size (λ_=>none)->(∀b o,s.heap.get? b=some o->h'.get? b=some o)->CellsOk h' (s.heap.objs.size+1) (cellsFrom (s.heap.objs.size+1) scope.names [])->
   Q (newEnv scope s.heap.objs.size globals (cellsFrom (s.heap.objs.size+1) scope.names closure) qual none .none (some outer) builtinsNs) {s with heap:=h',toks:=s.toks}):
 wpAny M A (newFunctionEnv scope globals closure [] qual none .none (some outer)) Q E s:=by
 simp only[newFunctionEnv,Option.isSome_some,if_true];refine wpAny_bind (wpAny_alloc ?_)
 refine wpAny_bind (wpAny_layCells _ (λname kind cells=>by cases hkc:kind==NameKind.cell<;>simp[hkc]) _ _ _ _ ?_)
 have ok:=cellsFrom_ok scope.names (s.heap.push {cls:=.type "dict",data:=.dict #[]}) (s.heap.objs.size+1) [] ⟨λ_ _ hm=>(nomatch hm),List.Pairwise.nil⟩ (by rw[Heap.size_push];exact Nat.le_refl _)
 rw[Heap.size_push] at ok;rw[show({s with heap:=s.heap.push {cls:=.type "dict",data:=.dict #[]}}:Shared).heap.objs.size=s.heap.objs.size+1 from Heap.size_push ..]
 rw[List.forIn_nil];refine wpAny_bind (wpAny_pure (wpAny_pure ?_))
 exact hQ _ ((Heap.Ns.new s.heap (.type "dict")).keeps (pushCells_keeps _ _)) (λb o e=>pushCells_keeps _ _ b o (Heap.get?_push_of_some _ e)) ok
def bK(X:Cx)(N':List Str)(scope:Scope)(C:Addr)(s₀:Shared)(H₀:Hp)(ex:List Addr):Cx where
 prog:=X.prog
 w:=X.w
 K:=X.K
 mg:=X.mg
 base:=X.base
 A:=X.A
 N:=N'
 s₀:=s₀
 H₀:=H₀
 env:=compEnvC scope (mH X.env.cells scope C) C X.env
 outer:=X.stack
 stack:=X.stack
 ex:=ex
 fn:=λx=>scope.names.lookup x==some .local||scope.names.lookup x==some .cell
 calm:=X.calm
 pn:=[]
 xe:=λ_ _=>False
def vL(N N':List Str)(sc:Scope):Bool:=
 decide (N.length<=N'.length)&&((N'.take N.length).zip N).all (λp=>(p.1==p.2&& !(sc.names.lookup p.1==some .local)&& !(sc.names.lookup p.1==some .cell))||(sc.names.lookup p.1).isNone)&&
  (N'.drop N.length).all λx=>sc.names.lookup x==some .local||sc.names.lookup x==some .cell
def vm(sc:Scope)(outer:Scope):Bool:=
 sc.names.all λy=>(y.2 != .cell||sc.names.lookup y.1==some .cell)&&(y.2 != .local||sc.names.lookup y.1==some .local)&&(y.2 != .free||(sc.names.lookup y.1==some .free&&(outer.names.lookup y.1==some .cell||outer.names.lookup y.1==some .free)))
theorem og {sc o:Scope}(h:vm sc o=true): ∀y∈sc.names,y.2=.cell->sc.names.lookup y.1=some .cell:=λy hy e=>by
 have:=List.all_eq_true.mp h y hy
 simpa [e] using this
theorem lP {sc o:Scope}(h:vm sc o=true): ∀y∈sc.names,y.2=.local->sc.names.lookup y.1=some .local:=λy hy e=>by
 have:=List.all_eq_true.mp h y hy
 simpa [e] using this
theorem iE {sc o:Scope}(h:vm sc o=true): ∀x,(x,NameKind.free)∈sc.names->o.names.lookup x=some .cell\/o.names.lookup x=some .free:=λx hx=>by
 have:=List.all_eq_true.mp h _ hx
 simpa using (by simpa using this:_/\_).2
theorem lF {sc o:Scope}(h:vm sc o=true): ∀x,(x,NameKind.free)∈sc.names->sc.names.lookup x=some .free:=λx hx=>by
 have:=List.all_eq_true.mp h _ hx
 simpa using (by simpa using this:_/\_).1
theorem rE {N N':List Str}{sc:Scope}(h:vL N N' sc=true){i:Nat}{x:Str}(hi:i<N.length)(e:N'[i]? =some x)(hv: ∃k,sc.names.lookup x=some k/\(k=.local\/k=.cell\/k=.free)):N[i]? =some x/\sc.names.lookup x=some .free:=by
 unfold vL at h;simp only[Bool.and_eq_true,decide_eq_true_eq] at h;obtain⟨⟨h1,h2⟩,_⟩:=h
 have hN:N[i]? =some N[i]:=List.getElem?_eq_getElem hi
 have e1:(N'.take N.length)[i]? =some x:=by rw[List.getElem?_take_of_lt hi];exact e
 have hm:(x,N[i])∈(N'.take N.length).zip N:=by
  refine List.mem_of_getElem? (i:=i) ?_
  rw[List.getElem?_zip_eq_some];exact⟨e1,hN⟩
 have:=List.all_eq_true.mp h2 _ hm
 obtain⟨k,hk,hk2⟩:=hv
 dsimp only at this;rw[hk] at this;simp only[Option.isNone_some,Bool.or_false,Bool.and_eq_true,Bool.not_eq_true'] at this;obtain⟨⟨t1,t2⟩,t3⟩:=this
 have ex:x=N[i]:=eq_of_beq t1
 rcases hk2 with rfl|rfl|rfl
 ·simp at t2
 ·simp at t3
 ·exact⟨by rw[hN,<-ex],hk⟩
theorem wK {N N':List Str}{sc:Scope}(h:vL N N' sc=true):N.length<=N'.length:=by
 unfold vL at h;simp only[Bool.and_eq_true,decide_eq_true_eq] at h;exact h.1.1
section
variable {X:Cx}{ae:List (Addr×Obj)}{σ:St}{H:Hp}{s:Shared}{scope:Scope}{N':List Str}{fp:List Addr}
theorem rV(I:Inv X ae σ H s){b:Addr}(f:kA X ae H b):b∉gj X.stack:=λz=>by
 rcases List.mem_cons.mp (I.stkSub b z) with e|z
 ·exact f.2.1 e
 ·exact f.2.2.1 z
theorem tu {h':Heap}{tk:Nat}(I:Inv X ae σ H s)(hF: ∀b∈fp,kA X ae H b)(hO: ∀b∈fp,∃o,s.heap.get? b=some o)(hk:scope.kind=.function)(hs:vm scope X.env.scope=true)(hn:vL X.N N' scope=true)
 (ns:h'.Ns s.heap.objs.size λ_=>none) (kp: ∀b o,s.heap.get? b=some o->h'.get? b=some o) (oc:CellsOk h' (s.heap.objs.size+1) (cellsFrom (s.heap.objs.size+1) scope.names [])):
 Inv (bK X N' scope s.heap.objs.size s H fp) [] (σ++List.replicate (N'.length-X.N.length) none) H {s with heap:=h',toks:=tk}:=by
 have hlen:=wK hn
 have cl: ∀x c,(nC X.env.cells scope.names []).lookup x=some c->X.env.cells.lookup x=some c:=λx c e=>o9 e
 have clt: ∀x c,(nC X.env.cells scope.names []).lookup x=some c->c<s.heap.objs.size:=λx c e=>let⟨_,z⟩:=I.cell x c (cl x c e);z.lt
 have newC:H s.heap.objs.size=none:=I.hok.fresh (Nat.le_refl _)
 refine⟨⟨I.ok.mod,hk,I.ok.glob,I.ok.blt,Nat.le_refl _,λx y c h1 h2=>?_,λx hx=>?_,λx c h1 h2=>?_,I.ok.hd,I.ok.frames,.inl rfl,λb hb=>⟨?_,λx c e=>?_⟩,I.bs,Nat.le_trans I.ok.bsz I.sz,λb o e hb=>?_,λb hb=>rV I (hF b hb),I.stack,I.stkFree⟩,
  rfl,I.bare,Un.kept kp,⟨_,ns,λi x v e1 e2 e3=>?_⟩,λx c e=>?_,newC,λx c e=>?_,λp hp=>absurd (show p∈([]:List (Addr×Obj)) from hp) (by simp),I.hok.kept kp,?_⟩
 ·
  rcases dH h1 with h1|h1<;>rcases dH h2 with h2|h2
  ·exact name_of_addr oc.apart h1 h2
  ·exact absurd (clt y c h2) (Nat.not_lt.mpr (Nat.le_of_succ_le (oc.empty _ _ h1).2))
  ·exact absurd (clt x c h1) (Nat.not_lt.mpr (Nat.le_of_succ_le (oc.empty _ _ h2).2))
  ·exact I.ok.inj x y c (cl x c h1) (cl y c h2)
 ·
  have hx':(relabel scope X.env).names.lookup x=some .cell\/(relabel scope X.env).names.lookup x=some .free:=hx
  have:(x,NameKind.cell)∈scope.names\/(x,NameKind.free)∈scope.names:=by
   rcases hx' with hx'|hx'
   ·obtain⟨k0,e0,e1|⟨e1,_⟩⟩:=fS hx'
    ·subst e1;exact .inl (PySem.mem_of_lookup e0)
    ·subst e1;exact .inr (PySem.mem_of_lookup e0)
   ·obtain⟨k0,e0,e1|⟨_,e1⟩⟩:=fS hx'
    ·subst e1;exact .inr (PySem.mem_of_lookup e0)
    ·cases e1
  rcases this with this|this
  ·exact tH this
  ·have hc:=iE hs x this
   obtain⟨c,e⟩:=I.ok.has x hc
   exact⟨c,(oE λz=>by have z1:=og hs _ z rfl;have z2:=lF hs x this;rw[z2] at z1;cases z1).trans (js e this)⟩
 ·
  have h1':scope.names.lookup x=some .local\/scope.names.lookup x=some .cell:=by
   have h1:(scope.names.lookup x==some .local||scope.names.lookup x==some .cell)=true:=h1
   simpa using h1
  rcases dH h2 with h2|h2
  ·exact Nat.le_of_succ_le (oc.empty _ _ h2).2
  ·exfalso
   rcases oG _ (PySem.mem_of_lookup h2) with z|z
   ·exact nomatch z
   ·rw[lF hs x z] at h1';rcases h1' with h1'|h1'<;>cases h1'
 ·obtain⟨o,e⟩:=hO b hb
  exact Nat.ne_of_lt (Heap.lt_size e)
 ·rcases dH e with e|e
  ·obtain⟨o,e'⟩:=hO b hb
   exact λz=>absurd (Heap.lt_size e') (Nat.not_lt.mpr (z▸Nat.le_of_succ_le (oc.empty _ _ e).2))
  ·exact(hF b hb).2.2.2.2.1 x c (cl x c e)
 ·obtain⟨_,_,_,h4,_⟩:=hF b hb
  rcases h4 with h4|h4
  ·exact I.ok.noex b o e h4
  ·exact absurd (Nat.lt_of_lt_of_le (Heap.lt_size e) (Nat.le_trans I.ok.bsz h4)) (Nat.lt_irrefl _)
 ·have hi:i<X.N.length:=by
   by_cases hi:i<σ.length
   ·rw[<-I.len];exact hi
   ·rw[List.getElem?_append_right (by omega),List.getElem?_replicate] at e2
    split at e2<;>cases e2
  rw[List.getElem?_append_left (by rw[I.len];exact hi)] at e2
  have e3':(relabel scope X.env).names.lookup x=some .local\/(relabel scope X.env).names.lookup x=some .cell\/(relabel scope X.env).names.lookup x=some .free:=e3
  have hv: ∃k,scope.names.lookup x=some k/\(k=.local\/k=.cell\/k=.free):=by
   rcases e3' with z|z|z
   all_goals
    obtain⟨k0,q0,q1|⟨q1,q2⟩⟩:=fS z
    ·subst q1;exact⟨_,q0,by simp⟩
    ·subst q1;exact⟨_,q0,by simp⟩
  obtain⟨hN,hf⟩:=rE hn hi e1 hv
  have hfm:=PySem.mem_of_lookup hf
  have hc:=iE hs x hfm
  have nc:(x,NameKind.cell)∉scope.names:=λz=>by have z1:=og hs _ z rfl;rw[hf] at z1;cases z1
  obtain⟨m,hm,hl⟩:=I.loc
  obtain⟨u,r,l⟩:=hl i x v hN e2 (.inr hc)
  refine⟨u,r,.inr ⟨?_,?_⟩⟩
  ·show(relabel scope X.env).names.lookup x=some .cell\/(relabel scope X.env).names.lookup x=some .free
   rcases e3' with z|z|z
   ·obtain⟨k0,q0,q1|⟨q1,q2⟩⟩:=fS z
    ·subst q1;rw[hf] at q0;cases q0
    ·cases q2
   ·exact .inl z
   ·exact .inr z
  ·rcases l with⟨l,_⟩|⟨_,c,ec,z⟩
   ·have l':X.env.scope.names.lookup x=some .local:=l
    rcases hc with hc|hc<;>rw[hc] at l'<;>cases l'
   ·exact⟨c,(oE nc).trans (js ec hfm),z.keeps kp⟩
 ·rcases dH e with e|e
  ·exact⟨_,(oc.empty _ _ e).1⟩
  ·obtain⟨v,z⟩:=I.cell x c (cl x c e)
   exact⟨v,z.keeps kp⟩
 ·rcases dH e with e|e
  ·exact I.hok.fresh (Nat.le_of_succ_le (oc.empty _ _ e).2)
  ·exact I.freeC x c (cl x c e)
 ·show(σ++_).length=N'.length
  rw[List.length_append,List.length_replicate,I.len];omega
end
def Bk(K:W.Frag)(c:Ct)(hid:bL)(f:FA)(ρ:aB):TI:=λσ H R=>SR K c hid ρ σ H/\ ∃ds,f ρ=some ds/\ ∀J H',Same H H'->ItOk K (vw H' hid) J ds->R J H'
def DIp(X:Cx)(c:Ct)(tg iter:Expr)(f:FA):Prop:= ∀hid ρ,PI X tg iter (Bk X.K c hid f ρ)
def As {ι:Type}(IR:Hp->V->ι->Prop)(L W:Hp)(J:It)(ds:List ι):Prop:=
 (∀(i:Nat) (d:ι) (H:Hp),ds[i]? =some d->Same L H->Same W H->J.go i H/\ ∀x H',J.yld i H x H'->Same H H'/\ ∀hid:bL,(∀b,hid b=true-> ∃o,H b=some o)->Same W (vw H hid)->IR (vw H' hid) x d)/\ ∀H,Same L H->Same W H->J.stop ds.length H
abbrev Cf(K:W.Frag)(L W:Hp)(J:It)(ds:List D):Prop:=As (Rep K) L W J ds
theorem ItOk.b {K:W.Frag}{L W:Hp}{J:It}{ds:List D}(h:ItOk K W J ds):Cf K L W J ds:=⟨λi d H e _ w=>h.1 i d H e w,λH _ w=>h.2 H w⟩
def BV {ι:Type}(IR:Hp->V->ι->Prop)(K:W.Frag)(c:Ct)(hid:bL)(f:aB->Option (List ι))(ρ:aB):TI:=λσ H R=>SR K c hid ρ σ H/\ ∃ds,f ρ=some ds/\ ∀J H',Same H H'->As IR H' (vw H' hid) J ds->R J H'
def Be {ι:Type}(IR:Hp->V->ι->Prop)(X:Cx)(c:Ct)(tg iter:Expr)(f:aB->Option (List ι)):Prop:= ∀hid ρ,PI X tg iter (BV IR X.K c hid f ρ)
abbrev AX(X:Cx)(c:Ct)(tg iter:Expr)(f:FA):Prop:=Be (Rep X.K) X c tg iter f
section
variable {X:Cx}{c:Ct}{k:Kd}{tg iter:Expr}{pos:Pos}
theorem DIp.b {f:FA}(h:DIp X c tg iter f):AX X c tg iter f:=λhid ρ=>PI.imp (h hid ρ) λσ H R ⟨sr,ds,e,q⟩=>⟨sr,ds,e,λJ H' s io=>q J H' s io.b⟩
theorem DIp.e {f:FA}(h:DIp X c tg iter f):DI X c tg iter (bZ f):=λhid ρ=>PI.imp (h hid ρ) λσ H R hq_=>by
 obtain⟨sr,ds,ρ',e,q⟩:=hq_
 obtain⟨e1,rfl⟩:=nN e
 exact⟨sr,ds,e1,λJ H' s io=>q J H' (.of s) (sr.ext s) io⟩
def mR(f:FE):FA:=λρ=>(f ρ).bind λd=>match d with
 | .lst ds=>some ds
 |_=>none
def wf(f:FE):FA:=λρ=>(f ρ).bind λd=>match d with
 | .tup ds=>some ds
 |_=>none
theorem lu {f:FE}{ρ:aB}{ds:List D}(h:mR f ρ=some ds):f ρ=some (.lst ds):=by
 unfold mR at h;cases e:f ρ with
 |none=>rw[e] at h;cases h
 |some d=>
  rw[e] at h;cases d with
  |lst z=>cases h;rfl
  |_=>cases h
theorem rQ {f:FE}{ρ:aB}{ds:List D}(h:wf f ρ=some ds):f ρ=some (.tup ds):=by
 unfold wf at h;cases e:f ρ with
 |none=>rw[e] at h;cases h
 |some d=>
  rw[e] at h;cases d with
  |tup z=>cases h;rfl
  |_=>cases h
theorem uA {K:W.Frag}{W:Hp}{a:Addr}{xs:List V}{ds:List D}(h1:SqL K W a xs)(h2:Reps K W xs ds):ItOk K W (Br K a) ds:=by
 refine⟨λi d H e s=>?_,λH s=>⟨_,s.seq h1,by rw[h2.length];exact Nat.le_refl _⟩⟩
 obtain⟨x,e1,r1⟩:=h2.get e
 refine⟨⟨_,x,s.seq h1,e1⟩,λy H' ⟨e2,e3⟩=>?_⟩
 subst e2;have:=e3 _ (s.seq h1)
 rw[e1] at this;cases this;exact⟨Same.refl _,λhid _ sw=>r1.mono sw⟩
theorem t8 {f:FE}(h:DP X c .s iter f):DIp X c tg iter (mR f):=λhid ρ=>PI.imp (lW (h hid ρ)) λσ H R hq_=>by
 obtain⟨sr,ds,e,q⟩:=hq_
 refine⟨sr,_,lu e,λv H' s' r=>?_⟩
 cases r with
 |lst h1 h2=>have h1:=SqL.of (K:=X.K) h1;exact⟨_,rfl,⟨_,(dz _ _).seq h1⟩,q _ H' s' (uA h1 h2)⟩
theorem tL {f:FE}(h:DP X c .b iter f):AX X c tg iter (mR f):=λhid ρ=>PI.imp (lW (h hid ρ)) λσ H R hq_=>by
 obtain⟨sr,ds,e,q⟩:=hq_
 refine⟨sr,_,lu e,λv H' s' r=>?_⟩
 obtain⟨a,xs,rfl,h1,h2⟩:=Rep1.lst r
 refine⟨a,rfl,⟨_,h1⟩,q _ H' s' ⟨λi d H e s w=>?_,λH s w=>⟨_,s.seq h1,by rw[h2.length];exact Nat.le_refl _⟩⟩⟩
 obtain⟨x,e1,r1⟩:=h2.get e
 refine⟨⟨_,x,s.seq h1,e1⟩,λy H' ⟨e2,e3⟩=>?_⟩
 subst e2;have:=e3 _ (s.seq h1)
 rw[e1] at this;cases this;exact⟨Same.refl _,λhid _ sw=>r1.mono sw⟩
theorem xc {f:FE}(h:DP X c .s iter f):DIp X c tg iter (wf f):=λhid ρ=>PI.imp (zj (h hid ρ)) λσ H R hq_=>by
 obtain⟨sr,ds,e,q⟩:=hq_
 refine⟨sr,_,rQ e,λv H' s' r=>?_⟩
 cases r with
 |tup h1 h2=>exact⟨_,rfl,⟨_,Same.seqT (dz _ _) h1⟩,q _ H' s' (uN h1 h2)⟩
def aW(f:FA):FA:=λρ=>(f ρ).bind λds=>match ds with
 | [.int j]=>if j.natAbs<4000000000 then some (oJ 0 j.toNat) else none
 |_=>none
theorem bz {a:Expr}{f:FA}{p:Pos}(hm:X.mg "range"=none)(ha:DA X c [a] f)(hg:Gl X "range":=by rfl)(hs:starEach [a] X.env=[(false,eval a X.env)]:=by rfl):DIp X c tg (.Call (.Name "range" p) [a] [] pos) (aW f):=λhid ρ=>
 PI.imp (sy hg hm (ha hid ρ) hs) λσ H R hq_=>by
  obtain⟨sr,ds,e,q⟩:=hq_
  unfold aW at e;cases e1:f ρ with
  |none=>rw[e1] at e;cases e
  |some z=>
   rw[e1] at e;dsimp only[Option.bind] at e;split at e
   ·split at e
    ·cases e
     refine⟨sr,_,e1,λvs H' s' r=>?_⟩
     cases r with
     |cons r t=>cases t;cases r;exact⟨_,rfl,by omega,by omega,q _ H' s' pj⟩
    ·cases e
   ·cases e
def qw(ifs:List Expr)(env:Env):Sem Bool:=forIn ifs true λc r=>if r=true then do let ok <-isTrue c env (eval c env);pure (ForInStep.yield ok) else pure (ForInStep.yield r)
def yM(X:Cx)(c:Ct)(ifs:List Expr)(p:FT):Prop:= ∀hid ρ (ae:List (Addr×Obj)) (s:Shared) (σ:St) (H:Hp) (Q:Bool->Hp->Prop),Inv X ae σ H s->By X.K c hid p ρ σ H Q->wpAny (model X.prog X.w) X.A (qw ifs X.env) (TP X ae σ Q) X.xe s
def cx:FT:=λ_=>some true
theorem fq:yM X c [] cx:=λhid ρ ae s σ H Q I hq_=>by
 obtain⟨sr,d,e,q⟩:=hq_
 cases e
 exact wpAny_tests_nil ⟨H,I,q H (Same.refl _)⟩
theorem qM {e:Expr}{p:FT}(h:DT X c e p):yM X c [e] p:=λhid ρ ae s σ H Q I q=>wpAny_tests_one (h hid ρ ae s σ H Q I q)
end
theorem fT {prog:Program}{w:World}{A:Around}{R:Result->Shared->Prop}{s:Shared}{elt target iter:Expr}{ifs:List Expr}{scope:Scope}{pos:Pos}{it acc:Value}{env:Env}(I:Nat->Shared->Prop)
 (turn: ∀n s,I n s->wpAny (model prog w) A (pyNext it) (λr s₁=>match r with
   |none=>R (.ok .next) s₁
   |some v=>wpAny (model prog w) A (letOwnedTupleGo target it v) (λ_ s₁=>wpAny (model prog w) A (assign target env v) (λ_ s₂=>
     wpAny (model prog w) A (qw ifs env) (λok s₃=>
      if ok=true then wpAny (model prog w) A (eval elt env) (λx s₄=>
       wpAny (model prog w) A (call (.builtin "list.append") [acc,x]) (λ_ s₅=> ∃m,m<n/\I m s₅) (λ_ _=>False) s₄) (λ_ _=>False) s₃
      else∃m,m<n/\I m s₃) (λ_ _=>False) s₂) (λ_ _=>False) s₁) (λ_ _=>False) s₁) (λ_ _=>False) s)
 (n:Nat) (h:I n s):
 codeAny (model prog w) A (.compLoop (.ListComp elt [⟨target,iter,ifs,0⟩] scope pos) 0 it acc env) R s:=by
 have no: ∀ {E':Value->Shared->Prop} (x:Value) (s:Shared),False->E' x s:=λ_ _ z=>z.elim
 refine codeAny_loop rfl I (λn s hI=>?_) n h
 show wpAny _ A ((compTurn (.ListComp elt [⟨target,iter,ifs,0⟩] scope pos) 0 it acc env).onRaise (λx=>do noteFrame x env;theTreesLotGoes x)) _ _ s
 refine wpAny_noted ?_
 rw[compTurn_list];refine wpAny_bind (wpAny_standAt (wpAny_bind (wpAny_mono (turn n s hI) (λr s₁ h₁=>?_) no)))
 cases r with
 |none=>exact wpAny_pure h₁
 |some v=>
  refine wpAny_bind (wpAny_mono h₁ (λ_ s₁ h₁=>?_) no)
  refine wpAny_bind (wpAny_mono h₁ (λ_ s₂ h₂=>wpAny_bind (wpAny_mono h₂ (λok s₃ h₃=>?_) no)) no)
  cases ok with
  |false=>exact wpAny_pure ⟨rfl,h₃⟩
  |true=>
   exact wpAny_bind (wpAny_bind (wpAny_mono h₃ (λx s₄ h₄=>wpAny_bind (wpAny_mono h₄ (λ_ s₅ h₅=>wpAny_pure (wpAny_pure ⟨rfl,h₅⟩)) no)) no))
def bF {ι:Type}(g:ι->aB->Option aB)(p:FT)(f:FE)(ρ0:aB):List ι->Option (List D)
 | []=>some []
 |d::r=>(g d ρ0).bind λρ1=>(p ρ1).bind λb=>if b=true then(f ρ1).bind λy=>(bF g p f ρ0 r).map (y:: ·) else bF g p f ρ0 r
def aV {ι:Type}(m:Nat)(gi:aB->Option (List ι))(g:ι->aB->Option aB)(p:FT)(f:FE):FE:=λρ=>(gi ρ).bind λds=>if ds.length<=sizeLine then(bF g p f (ρ++List.replicate m .no) ds).map D.lst else none
theorem jV {ι:Type}{m:Nat}{gi:aB->Option (List ι)}{g:ι->aB->Option aB}{p:FT}{f:FE}{ρ:aB}{d:D}(h:aV m gi g p f ρ=some d): ∃ds ys,gi ρ=some ds/\ds.length<=sizeLine/\bF g p f (ρ++List.replicate m .no) ds=some ys/\d=.lst ys:=by
 unfold aV at h;cases e1:gi ρ with
 |none=>rw[e1] at h;cases h
 |some ds=>
  rw[e1] at h;dsimp only[Option.bind] at h;split at h
  ·cases e2:bF g p f (ρ++List.replicate m .no) ds with
   |none=>rw[e2] at h;cases h
   |some ys=>rw[e2] at h;cases h;exact⟨ds,ys,rfl, ‹_›,e2,rfl⟩
  ·cases h
def mO {ι:Type}(n:Nat)(g:ι->aB->Option aB):Prop:= ∀d (ρ0 ρ1:aB),g d ρ0=some ρ1->ρ1.length=ρ0.length/\ ∀i:Nat,i<n->ρ1[i]? =ρ0[i]?
def qN(n:Nat)(g:o6):Prop:= ∀d (ρ0 ρ1:aB),g d ρ0=some ρ1->ρ1.length=ρ0.length/\ ∀i:Nat,i<n->ρ1[i]? =ρ0[i]?
theorem fD {n i:Nat}(h:n<=i):mO n (gN i):=λd ρ0 ρ1 e=>by
 cases e
 exact⟨by simp,λj hj=>List.getElem?_set_ne (by omega)⟩
theorem rW {n:Nat}:qN n lU:=λd ρ0 ρ1 e=>by
 unfold lU at e;split at e
 ·cases e;exact⟨rfl,λ_ _=>rfl⟩
 ·cases e
theorem jJ {n:Nat}{g:FG}{gs:o6}(h1:mO n g)(h2:qN n gs):qN n (gO g gs):=λd ρ0 ρ1 e=>by
 cases d with
 |nil=>cases e
 |cons d ds=>
  have e:(g d ρ0).bind (λρ'=>gs ds ρ')=some ρ1:=e
  cases e1:g d ρ0 with
  |none=>rw[e1] at e;cases e
  |some ρ2=>
   rw[e1] at e;obtain⟨a1,a2⟩:=h1 d ρ0 ρ2 e1
   obtain⟨b1,b2⟩:=h2 ds ρ2 ρ1 e
   exact⟨b1.trans a1,λi hi=>(b2 i hi).trans (a2 i hi)⟩
theorem yj {n m:Nat}{gs:o6}(h:qN n gs):mO n (gT m gs):=λd ρ0 ρ1 e=>by
 unfold gT at e;split at e
 ·split at e
  ·exact h _ _ _ e
  ·cases e
 ·cases e
theorem SR.forget {K:W.Frag}{c:Ct}{hid:bL}{ρ0 ρ1:aB}{σ:St}{H:Hp}(h:SR K c hid ρ1 σ H)(hl:ρ1.length=ρ0.length)(hs: ∀(i:Nat) (s:Sl),ρ0[i]? =some s->s=.no\/ρ1[i]? =some s):SR K c hid ρ0 σ H:=by
 have ow: ∀i:Nat,Ow ρ0[i]? ->Ow ρ1[i]? :=λi o=>by
  cases e:ρ0[i]? with
  |none=>rw[e] at o;exact o.elim
  |some s=>
   rcases hs i s e with rfl|z
   ·rw[e] at o;exact o.elim
   ·rw[z,<-e];exact o
 refine⟨h.tr,h.ht,h.h0,h.kp,h.t0,h.c0,h.m0,h.len.trans hl,λi s e=>?_,λi j a n o1 o2=>h.ap i j a n (ow i o1) (ow j o2)⟩
 rcases hs i s e with rfl|z
 ·trivial
 ·exact h.sl i s z
theorem SR.more {K:W.Frag}{c:Ct}{hid:bL}{ρ:aB}{σ:St}{H:Hp}(h:SR K c hid ρ σ H)(m:Nat):SR K c hid (ρ++List.replicate m .no) (σ++List.replicate m none) H:=by
 have lt: ∀ {i:Nat},Ow (ρ++List.replicate m Sl.no)[i]? ->i<ρ.length:=λ{i} o=>by
  by_cases hi:i<ρ.length
  ·exact hi
  ·rw[List.getElem?_append_right (by omega),List.getElem?_replicate] at o
   split at o<;>exact o.elim
 refine⟨h.tr,h.ht,h.h0,h.kp,h.t0,h.c0,h.m0,by simp[h.len],λi s e=>?_,λi j a n o1 o2 q1 q2=>?_⟩
 ·by_cases hi:i<ρ.length
  ·rw[List.getElem?_append_left hi] at e
   have z:=h.sl i s e
   have es:(σ++List.replicate m none)[i]? =σ[i]? :=List.getElem?_append_left (by rw[h.len];exact hi)
   cases s with
   |no=>trivial
   |v d=>obtain⟨x,h1,h2⟩:=z;exact⟨x,es.trans h1,h2⟩
   |own ds=>obtain⟨a,xs,h1,h2⟩:=z;exact⟨a,xs,es.trans h1,h2⟩
   |arg ds=>obtain⟨a,xs,h1,h2⟩:=z;exact⟨a,xs,es.trans h1,h2⟩
   |ob b=>obtain⟨a,h1,h2⟩:=z;exact⟨a,es.trans h1,h2⟩
  ·rw[List.getElem?_append_right (by omega),List.getElem?_replicate] at e
   split at e
   ·cases e;trivial
   ·cases e
 ·have l1:=lt o1
  have l2:=lt o2
  rw[List.getElem?_append_left l1] at o1;rw[List.getElem?_append_left l2] at o2;rw[List.getElem?_append_left (by rw[h.len];exact l1)] at q1
  rw[List.getElem?_append_left (by rw[h.len];exact l2)] at q2
  exact h.ap i j a n o1 o2 q1 q2
section
variable {X:Cx}{c:Ct}{elt tg iter:Expr}{ifs:List Expr}{scope:Scope}{pos:Pos}{N':List Str}{m:Nat}{ι:Type}{IR:Hp->V->ι->Prop}{gi:aB->Option (List ι)}{g:ι->aB->Option aB}{p:FT}{f:FE}
theorem SR.write {K:W.Frag}{hid:bL}{ρ:aB}{σ:St}{H:Hp}{a:Addr}{o':HO}(h:SR K c hid ρ σ H)(hh:hid a=true)(h0:c.H₀ a=none)(na: ∀i:Nat,Ow ρ[i]? ->σ[i]? ≠some (some (.ref a))){o:HO}(ha:H a=some o)(hm: ∀p u,o≠ .nst p u:=by intro _ _ e;cases e)(hn: ∀xs,o'≠ .tup xs:=by intro _ e;cases e):SR K c hid ρ σ (bf H a o'):=by
 have tr': ∀b o,H b=some o-> ∃o2,(bf H a o') b=some o2:=λb o q=>by
  by_cases e:b=a
  ·subst e;exact⟨_,ax⟩
  ·exact⟨o,by rw[ar e];exact q⟩
 refine⟨λb hb=>let⟨o,q⟩:=h.tr b hb;tr' b o q,λb xs hb q=>by
  by_cases e:b=a
  ·subst e;rw[ax] at q;exact hn _ (Option.some.inj q)
  ·rw[ar e] at q;exact h.ht b xs hb q,h.h0,λb o q m=>?_,λb o q=>let⟨o2,q2⟩:=h.t0 b o q;tr' b o2 q2,h.c0,h.m0,h.len,λi s e=>?_,h.ap⟩
 ·rw[ar (bv q h0)];exact h.kp b o q m
 ·have z:=h.sl i s e
  have ne: ∀a',Ow ρ[i]? ->σ[i]? =some (some (.ref a'))->a'≠a:=λa' o q w=>by subst w;exact na i o q
  cases s with
  |no=>trivial
  |v d=>obtain⟨x,h1,h2⟩:=z;exact⟨x,h1,by rw[cV hh];exact h2⟩
  |own ds=>obtain⟨a',xs,h1,h2,h3,h4,h5⟩:=z;exact⟨a',xs,h1,by rw[ar (ne a' (by rw[e];trivial) h1)];exact h2,h3,h4,by rw[cV hh];exact h5⟩
  |arg ds=>obtain⟨a',xs,h1,h2,h3,h4,h5⟩:=z;exact⟨a',xs,h1,by rw[ar (ne a' (by rw[e];trivial) h1)];exact h2,h3,h4,by rw[cV hh];exact h5⟩
  |ob b=>obtain⟨a',h1,h2⟩:=z;exact⟨a',h1,h2.mono (λow x hx o q=>by rw[ar (hx.ne (ne a' (by rw[e];exact ow) h1) ha hm)];exact q) (by rw[cV hh];exact Same.refl _) λ_ _ _ q=>q⟩
structure CLI(Y:Cx)(K:W.Frag)(c:Ct)(hid:bL)(ρ0:aB)(H W:Hp)(D0:Addr)(fp:List Addr)(tn:Nat->Heap->Prop){ι:Type}(g:ι->aB->Option aB)(p:FT)(f:FE)(ds:List ι)(ys:List D)(n i:Nat)(xs:List V)(ad:List D)(σ':St)(H':Hp)(s':Shared):Prop where
 e:n=ds.length-i
 hi:i<=ds.length
 I:Inv Y [] σ' H' s'
 st:tn i s'.heap
 fr: ∀b∈fp,H' b=none
 sr:SR K c hid ρ0 σ' H'
 sm:Same H H'
 ac:H' D0=some (.lst xs)
 rp:Reps K (vw H' hid) xs ad
 w:Same W (vw H' hid)
 hl:xs.length<=i
 na: ∀i:Nat,Ow ρ0[i]? ->σ'[i]? ≠some (some (.ref D0))
 go: ∃rest,bF g p f ρ0 (ds.drop i)=some rest/\ad++rest=ys
theorem se(hcalm:X.calm=true)(hT:mO X.N.length g)
 (hg: ∀C s₀ H₀ ex,AL IR (bK X N' scope C s₀ H₀ ex) c tg g) (hp: ∀C s₀ H₀ ex,yM (bK X N' scope C s₀ H₀ ex) c ifs p) (he: ∀C s₀ H₀ ex,DP (bK X N' scope C s₀ H₀ ex) c .s elt f)
 {σ3:St} {H H3:Hp} {s3 s4:Shared} {hid:bL} {ρ:aB} {J:It} {it D0 C:Addr} {fp:List Addr} {tn:Nat->Heap->Prop} {ds:List ι} {ys:List D} {R:Result->Shared->Prop} {W:Hp} (hρ:ρ.length=X.N.length)
 (I:Inv (bK X N' scope C s3 H3 fp) [] σ3 H3 s4) (sr:SR X.K c hid (ρ++List.replicate m .no) σ3 H3) (hh:hid D0=true) (h00:c.H₀ D0=none) (na: ∀i:Nat,Ow (ρ++List.replicate m Sl.no)[i]? ->σ3[i]? ≠some (some (.ref D0))) (hacc:H3 D0=some (.lst [])) (sm:Same H H3) (nD:H D0=none) (wv:Same W (vw H3 hid)) (T:Turn X.prog X.w X.K tg J fp it tn) (st:tn 0 s4.heap) (hF: ∀b∈fp,H3 b=none)
 (io:As IR H W J ds) (hz:ds.length<=sizeLine) (hc:bF g p f (ρ++List.replicate m .no) ds=some ys)
 (hR: ∀(s':Shared) (σ':St) (H':Hp) (xs:List V),Inv (bK X N' scope C s3 H3 fp) [] σ' H' s'->Same H H'->H' D0=some (.lst xs)->Reps X.K (vw H' hid) xs ys->R (.ok .next) s'):
 codeAny (model X.prog X.w) X.A (.compLoop (.ListComp elt [⟨tg,iter,ifs,0⟩] scope pos) 0 (.ref it) (.ref D0) (compEnvC scope (mH X.env.cells scope C) C X.env)) R s4:=by
 have stat: ∀ {ae:List (Addr×Obj)} {H':Hp},(∀q∈ae,q.1∉fp)->(∀b∈fp,H' b=none)-> ∀b∈fp,kA (bK X N' scope C s3 H3 fp) ae H' b:=λ{ae H'} hpn hn b hb=>
  ⟨hn b hb,(I.ok.exf b hb).1,I.ok.exfs b hb,.inl hb,(I.ok.exf b hb).2,λq hq e=>hpn q (by have hq':q∈([]:List (Addr×Obj))++ae:=hq;simpa using hq') (by rw[e];exact hb)⟩
 have no: ∀q∈([]:List (Addr×Obj)),q.1∉fp:=λq hq=>nomatch hq
 refine fT (λn s'=> ∃(i:Nat) (xs:List V) (ad:List D) (σ':St) (H':Hp),CLI (bK X N' scope C s3 H3 fp) X.K c hid (ρ++List.replicate m .no) H W D0 fp tn g p f ds ys n i xs ad σ' H' s') ?_ ds.length
  ⟨0,[],[],σ3,H3,by simp,Nat.zero_le _,I,st,hF,sr,sm,hacc,.nil,wv,Nat.zero_le _,na,ys,by simpa using hc,rfl⟩
 rintro n s5 ⟨i,xs,ad,σ5,H5,rfl,hi,I5,st5,f5,sr5,sm5,ac5,rp5,w5,hl5,na5,rest,hc5,hy5⟩
 have wH:Same W H5:=w5.trans (dz _ _)
 by_cases hlt:i<ds.length
 ·have hd:ds[i]? =some ds[i]:=List.getElem?_eq_getElem hlt
  have e2:ds.drop i=ds[i]::ds.drop (i+1):=List.drop_eq_getElem_cons hlt
  rw[e2] at hc5;unfold bF at hc5;obtain⟨go,yl⟩:=io.1 i ds[i] H5 hd sm5 wH
  refine cv (T.item (bK X N' scope C s3 H3 fp) rfl rfl rfl hcalm i [] s5 σ5 H5 (λ_ _=>False) I5 (stat no f5) st5 go) λr s6 hq_=>?_
  obtain⟨u,hr,h6⟩:=hq_
  subst hr;refine cv h6 λ_ s7 hq_=>?_
  obtain⟨x,H7,I7,r7,y7,st7,f7⟩:=hq_
  obtain⟨s7',rp⟩:=yl x H7 y7
  have rx:=rp hid sr5.tr w5
  have I7':=I7.pinned (stat no f7) (T.obj _ _ st7)
  cases e3:g ds[i] (ρ++List.replicate m .no) with
  |none=>rw[e3] at hc5;cases hc5
  |some ρ1=>
   rw[e3] at hc5;have hc5:(p ρ1).bind (λb=>if b=true then(f ρ1).bind λy=>(bF g p f (ρ++List.replicate m .no) (ds.drop (i+1))).map (y:: ·) else bF g p f (ρ++List.replicate m .no) (ds.drop (i+1)))=some rest:=hc5
   obtain⟨tl1,tl2⟩:=hT _ _ _ e3
   have fg: ∀ {σ':St} {H':Hp},SR X.K c hid ρ1 σ' H'->SR X.K c hid (ρ++List.replicate m .no) σ' H':=λ{σ' H'} z=>z.forget tl1 λj s e=>by
    by_cases hj:j<X.N.length
    ·exact .inr ((tl2 j hj).trans e)
    ·refine .inl ?_
     rw[List.getElem?_append_right (by omega),List.getElem?_replicate] at e
     split at e
     ·cases e;rfl
     ·cases e
   have keepT: ∀ {σ':St} {H':Hp} {s':Shared},Inv (bK X N' scope C s3 H3 fp) ([]++kc fp s7.heap) σ' H' s'->tn (i+1) s'.heap/\ ∀b∈fp,H' b=none:=λ{σ' H' s'} J'=>by
    refine⟨T.keep _ _ _ st7 λb hb o e=>(J'.pin (b,o) (List.mem_append_right _ (List.mem_append_right _ (fU hb e)))).1,λb hb=>?_⟩
    obtain⟨o,e,_⟩:=T.obj _ _ st7 b hb
    exact(J'.pin (b,o) (List.mem_append_right _ (List.mem_append_right _ (fU hb e)))).2.1
   refine cv (hg C s3 H3 fp hid _ ds[i] _ s7 σ5 H7 x u (λσ' H'=>H'=H7/\SR X.K c hid ρ1 σ' H7/\OwK (ρ++List.replicate m .no) ρ1 σ5 σ') I7' r7 ⟨sr5.ext s7',rx,ρ1,e3,λσ' z o=>⟨rfl,z,o⟩⟩) λ_ s8 hq_=>?_
   obtain⟨σ8,H8,I8,e8,q8,o8⟩:=hq_
   subst e8;have na8: ∀i:Nat,Ow (ρ++List.replicate m Sl.no)[i]? ->σ8[i]? ≠some (some (.ref D0)):=λj o=>by
    have o1:Ow ρ1[j]? :=by
     by_cases hj:j<X.N.length
     ·rw[tl2 j hj];exact o
     ·exfalso
      rw[List.getElem?_append_right (by omega),List.getElem?_replicate] at o
      split at o<;>exact o.elim
    rw[(o8 j o1).2];exact na5 j o
   cases e4:p ρ1 with
   |none=>rw[e4] at hc5;cases hc5
   |some b=>
    rw[e4] at hc5;have hc5:(if b=true then(f ρ1).bind λy=>(bF g p f (ρ++List.replicate m .no) (ds.drop (i+1))).map (y:: ·) else bF g p f (ρ++List.replicate m .no) (ds.drop (i+1)))=some rest:=hc5
    refine cv (hp C s3 H3 fp hid ρ1 _ s8 σ8 H8 (λb' H'=>b'=b/\Same H8 H') I8 ⟨q8,b,e4,λH' s'=>⟨rfl,s'⟩⟩) λok s9 hq_=>?_
    obtain⟨H9,I9,e9,sm9⟩:=hq_
    subst e9;have w9:Same (vw H5 hid) (vw H9 hid):=aS (s7'.trans sm9)
    cases ok with
    |false=>
     have hc5:bF g p f (ρ++List.replicate m .no) (ds.drop (i+1))=some rest:=hc5
     obtain⟨k1,k2⟩:=keepT I9
     exact⟨ds.length- (i+1),by omega,i+1,xs,ad,σ8,H9,rfl,hlt,I9.unpinned,k1,k2,fg (q8.ext sm9),sm5.trans (s7'.trans sm9),sm9 _ _ (s7' _ _ ac5),rp5.mono w9,w5.trans w9,by omega,na8,rest,hc5,hy5⟩
    |true=>
     have hc5:((f ρ1).bind λy=>(bF g p f (ρ++List.replicate m .no) (ds.drop (i+1))).map (y:: ·))=some rest:=hc5
     cases e5:f ρ1 with
     |none=>rw[e5] at hc5;cases hc5
     |some y=>
      rw[e5] at hc5;have hc5:(bF g p f (ρ++List.replicate m .no) (ds.drop (i+1))).map (y:: ·)=some rest:=hc5
      cases e6:bF g p f (ρ++List.replicate m .no) (ds.drop (i+1)) with
      |none=>rw[e6] at hc5;cases hc5
      |some rest'=>
       rw[e6] at hc5;cases hc5
       show wpAny (model X.prog X.w) X.A (eval elt _) _ _ s9;refine cv (he C s3 H3 fp hid ρ1 _ s9 σ8 H9 (λv H'=>Same H9 H'/\Rep X.K (vw H' hid) v y) I9 ⟨q8.ext sm9,y,e5,λv H' s' r=>⟨s',r⟩⟩) λv s10 hq_=>?_
       obtain⟨z,H10,I10,rz,sm10,rp10⟩:=hq_
       have sm':Same H5 H10:=s7'.trans (sm9.trans sm10)
       have a10:H10 D0=some (.lst xs):=sm' _ _ ac5
       refine cv (iP (X:=bK X N' scope C s3 H3 fp) _ s10 σ8 H10 (.ref D0) [z] (.ref D0) [v] (λ_ H'=>H'=bf H10 D0 (.lst (xs++[z]))) I10 rfl (.cons rz .nil) ⟨D0,xs,z,rfl,rfl,a10,by omega,rfl⟩) λ_ s11 ⟨_,H11,I11,_,e11⟩=>?_
       subst e11;obtain⟨k1,k2⟩:=keepT I11
       have vv:vw (bf H10 D0 (.lst (xs++[z]))) hid=vw H10 hid:=cV hh
       have w10:Same (vw H5 hid) (vw H10 hid):=aS sm'
       refine⟨ds.length- (i+1),by omega,i+1,xs++[z],ad++[y],σ8,_,rfl,hlt,I11.unpinned,k1,k2,?_,λb o e=>?_,ax,?_,?_,by simp;omega,na8,rest',e6,by rw[<-hy5];simp⟩
       ·
        have q10:=fg ((q8.ext sm9).ext sm10)
        exact q10.write hh h00 na8 a10
       ·rw[ar (bv e nD)];exact sm' _ _ (sm5 _ _ e)
       ·rw[vv];exact(rp5.mono w10).append (.cons rp10 .nil)
       ·rw[vv];exact w5.trans w10
 ·have e:i=ds.length:=by omega
  subst e;rw[List.drop_eq_nil_of_le (Nat.le_refl _)] at hc5;cases hc5
  rw[List.append_nil] at hy5;subst hy5;refine cv (T.done (bK X N' scope C s3 H3 fp) rfl rfl rfl hcalm ds.length [] s5 σ5 H5 (λ_ _=>False) I5 (stat no f5) st5 (io.2 H5 sm5 wH)) λr s6 hq_=>?_
  obtain⟨hr,I6⟩:=hq_
  subst hr;exact hR s6 σ5 H5 xs I6 sm5 ac5 rp5
theorem kz(hcalm:X.calm=true)(hk:scope.kind=.function)(hs:vm scope X.env.scope=true)(hn:vL X.N N' scope=true)(hm:N'.length-X.N.length=m)(hT:mO X.N.length g)
 (hg: ∀C s₀ H₀ ex,AL IR (bK X N' scope C s₀ H₀ ex) c tg g) (hp: ∀C s₀ H₀ ex,yM (bK X N' scope C s₀ H₀ ex) c ifs p) (he: ∀C s₀ H₀ ex,DP (bK X N' scope C s₀ H₀ ex) c .s elt f)
 {E:Value->Shared->Prop} {ae:List (Addr×Obj)} {σ:St} {H:Hp} {s:Shared} {hid:bL} {ρ:aB} {J:It} {it:Addr} {fp:List Addr} {tn:Nat->Heap->Prop} {ds:List ι} {ys:List D} {RR:Value->Addr->Result->Shared->Prop}
 (I:Inv X ae σ H s) (sr:SR X.K c hid ρ σ H) (T:Turn X.prog X.w X.K tg J fp it tn) (st:tn 0 s.heap) (hF: ∀b∈fp,kA X ae H b) (io:As IR H (vw H hid) J ds) (hz:ds.length<=sizeLine) (hc:bF g p f (ρ++List.replicate m .no) ds=some ys)
 (hR: ∀(D C:Addr) (s':Shared) (H':Hp) (xs:List V),s.heap.objs.size<=D->s.heap.objs.size<=C->D≠C->H D=none->Same H H'->H' D=some (.lst xs)->Reps X.K (vw H' (bQ hid D)) xs ys->(∃m,s'.heap.Ns C m)->H' C=none->s'.os=s.os->AllBare s'.gens->HOk X.prog X.w H' s'.heap->Un (gj X.stack) fp H H' s.heap s'.heap->RR (.ref D) C (.ok .next) s'):
 wpAny (model X.prog X.w) X.A (newList []) (λacc s₃=>wpAny (model X.prog X.w) X.A (newFunctionEnv scope X.env.globals (nC X.env.cells scope.names []) [] X.env.qual none .none (some X.env)) (λcenv s₄=>
  codeAny (model X.prog X.w) X.A (.compStart (.ListComp elt [⟨tg,iter,ifs,0⟩] scope pos) 0 (.ref it) acc {cenv with scope:=relabel scope X.env}) (RR acc cenv.locals) s₄) E s₃) E s:=by
 refine wpAny_newObj_type (vO λh₁ hns₁ kp1 oc₁=>?_)
 dsimp only at hns₁ kp1 oc₁⊢
 generalize hH2:s.heap.push {cls:=.type "list",dict:=none,data:=.seq ([]:List Value).toArray}=H2 at hns₁ kp1 oc₁⊢
 have hC:H2.objs.size=s.heap.objs.size+1:=by rw[<-hH2,Heap.size_push]
 have hD:H s.heap.objs.size=none:=I.hok.fresh (Nat.le_refl _)
 have I2:Inv X ae σ (bf H s.heap.objs.size (.lst [])) {s with heap:=H2}:=by
  rw[<-hH2];exact I.laid (t':=s.toks) (λb o e=>Heap.get?_push_of_some _ e) (Nat.le_refl _) ⟨Nat.zero_le _,[],0,.nil,Heap.get?_push_size _ rfl⟩
 have fpLt: ∀b∈fp,b<s.heap.objs.size:=λb hb=>let⟨o,e,_⟩:=T.obj 0 s.heap st b hb;Heap.lt_size e
 have hF2: ∀b∈fp,kA X ae (bf H s.heap.objs.size (.lst [])) b:=λb hb=>⟨by rw[ar (Nat.ne_of_lt (fpLt b hb))];exact(hF b hb).1,(hF b hb).2⟩
 have kp0: ∀b o,s.heap.get? b=some o->H2.get? b=some o:=λb o e=>by rw[<-hH2];exact Heap.get?_push_of_some _ e
 have IY:=tu (tk:=s.toks) (N':=N') (fp:=fp) I2 hF2 (λb hb=>let⟨o,e,_⟩:=T.obj 0 s.heap st b hb;⟨o,kp0 b o e⟩) hk hs hn hns₁ kp1 oc₁
 rw[hm] at IY;dsimp only at IY;have sr0:SR X.K c (bQ hid s.heap.objs.size) (ρ++List.replicate m .no) (σ++List.replicate m none) (bf H s.heap.objs.size (.lst [])):=(sr.hide (aU hD _) hD ax).more m
 have hρ:ρ.length=X.N.length:=by rw[<-sr.len];exact I.len
 have nf:hid s.heap.objs.size=false:=sr.fresh hD
 have st1:tn 0 h₁:=T.keep _ _ _ st λb hb o e=>kp1 b o (kp0 b o e)
 have na0: ∀i:Nat,Ow (ρ++List.replicate m Sl.no)[i]? ->(σ++List.replicate m none)[i]? ≠some (some (V.ref s.heap.objs.size)):=(sr.more m).notOw nf
 have wv:Same (vw H hid) (vw (bf H s.heap.objs.size (.lst [])) (bQ hid s.heap.objs.size)):=by rw[i4 hD];exact Same.refl _
 have loop: ∀s4:Shared,s4={s with heap:=h₁,toks:=s.toks}->
  codeAny (model X.prog X.w) X.A (.compLoop (.ListComp elt [⟨tg,iter,ifs,0⟩] scope pos) 0 (.ref it) (.ref s.heap.objs.size) (compEnvC scope (mH X.env.cells scope H2.objs.size) H2.objs.size X.env)) (RR (.ref s.heap.objs.size) H2.objs.size) s4:=by
  rintro s4 rfl
  refine se (H:=H) (hid:=bQ hid s.heap.objs.size) (W:=vw H hid) hcalm hT hg hp he hρ IY sr0 cM (sr.fresh0 hD) na0 ax (aU hD _) hD wv T st1 (λb hb=>(hF2 b hb).1) io hz hc ?_
  intro s' σ' H' xs I' sm' hx' rp';have un1:Un (gj X.stack) fp H (bf H s.heap.objs.size (.lst [])) s.heap H2:=Un.laid (λb o e=>kp0 b o e) (Nat.le_refl _) hD
  refine hR s.heap.objs.size H2.objs.size s' H' xs (Nat.le_refl _) (by rw[hC];exact Nat.le_succ _) (by rw[hC];exact Nat.ne_of_lt (Nat.lt_succ_self _)) hD sm' hx' rp' (let⟨m,hm,_⟩:=I'.loc;⟨m,hm⟩) I'.free I'.os I'.bare I'.hok (un1.trans I'.base)
 exact codeAny_compStart_list (loop _ rfl) (T.self X.A 0 _ _ _ st1 (loop _ rfl))
theorem fo(hcalm:X.calm=true)(hT:mO X.N.length g)(hi:Be IR X c tg iter gi)
 (hg: ∀C s₀ H₀ ex,AL IR (bK X N' scope C s₀ H₀ ex) c tg g) (hp: ∀C s₀ H₀ ex,yM (bK X N' scope C s₀ H₀ ex) c ifs p) (he: ∀C s₀ H₀ ex,DP (bK X N' scope C s₀ H₀ ex) c .s elt f)
 (hk:scope.kind=.function:=by rfl) (hs:vm scope X.env.scope=true:=by kernel_rfl) (hn:vL X.N N' scope=true:=by kernel_rfl) (hm:N'.length-X.N.length=m:=by rfl) (hset: ∀x,foldedSetIterable iter X.env x=pure x:=by intro _;rfl):
 DP X c .n (.ListComp elt [⟨tg,iter,ifs,0⟩] scope pos) (aV m gi g p f):=by
 intro hid ρ ae s σ H Q I hq;obtain⟨sr,d,hd,q⟩:=hq
 obtain⟨ds,ys,e1,hz,hc,rfl⟩:=jV hd
 rw[eval_ListComp];refine wpAny_comprehension_free (use:=none) rfl hset (gy λx hx=>I.ok.has x (iE hs x hx)) hk (lP hs) ?_
 refine cv (hi hid ρ ae s σ H (λJ H'=>Same H H'/\As IR H' (vw H' hid) J ds) I ⟨sr,ds,e1,λJ H' s1 io=>⟨s1,io⟩⟩) λv s1 h1=>cv h1 λitv s2 h2=>?_
 obtain⟨it,fp,tn,J,H2,rfl,I2,T,st2,f2,sm,io⟩:=h2
 refine kz (RR:=λacc C=>compPost (model X.prog X.w) X.A X.xe none (EP X ae σ Q) acc C) hcalm hk hs hn hm hT hg hp he I2 (sr.ext sm) T st2 f2 io hz hc ?_
 intro D C s' H' xs hDge hCge hDC hD sm' hx rp ⟨mm,hns⟩ hC' hos hbare hok hun;refine⟨mm,hns,λh' hsb=>⟨.ref D,H',?_,rfl,q _ H' (sm.trans sm') ⟨D,xs,ys,rfl,rfl,sm.free hD,hx,rp⟩⟩⟩
 have neC: ∀b o,s2.heap.get? b=some o->b≠C:=λb o e z=>by subst z;exact absurd (Heap.lt_size e) (Nat.not_lt.mpr hCge)
 have hun':Un (gj X.stack) fp H2 H' s2.heap h':=⟨λb o e n h1 h2=>(hsb.2 b (neC b o e)).trans (hun.keep b o e n h1 h2),λb o e n h1 h2=>let⟨sl,z⟩:=hun.slot b o e n h1 h2;⟨sl,(hsb.2 b (neC b o e)).trans z⟩,hun.free,λb o e h2=>let⟨o',z⟩:=hun.there b o e h2;⟨o',(hsb.2 b (neC b o e)).trans z⟩,hun.tups,hun.frzs,hun.tbls⟩
 have hok':HOk X.prog X.w H' h':=λb o e=>by
  have nb: ∀b' o',H' b'=some o'->b'≠C:=λb' o' e' z=>by subst z;rw[hC'] at e';cases e'
  refine(hok b o e).stay (λc' u hc' z=>(hsb.2 c' ?_).trans z) (λ_ z=>z) λ_ _ z=>z
  rcases hc' with z'|z'
  ·rw[z'];exact nb b o e
  ·exact nb c' _ z'
 exact I2.call' (s':={s' with heap:=h'}) (ch:=fp) hos hun' hok' hbare λb hb=>⟨(f2 b hb).2.2.2.1,(f2 b hb).2.1,(f2 b hb).2.2.2.2.1,(f2 b hb).2.2.2.2.2⟩
end
section
variable {X:Cx}{c:Ct}{elt tg iter:Expr}{ifs:List Expr}{scope:Scope}{pos spos py:Pos}{N':List Str}{m:Nat}{gi:FA}{g:FG}{p:FT}{f:FE}{y:Str}
theorem wg(i:Nat)(hcalm:X.calm=true)(hN:X.N.Nodup)(hT:mO X.N.length g)(hi:AX X c tg iter gi)
 (hg: ∀C s₀ H₀ ex,xX (bK X N' scope C s₀ H₀ ex) c tg g) (hp: ∀C s₀ H₀ ex,yM (bK X N' scope C s₀ H₀ ex) c ifs p) (he: ∀C s₀ H₀ ex,DP (bK X N' scope C s₀ H₀ ex) c .s elt f)
 (hsw:swapsWith (.ListComp elt [⟨tg,iter,ifs,0⟩] scope pos) (some (.Name y py)) spos.line X.env=pure true) (hyi:X.N[i]? =some y) (hy:X.env.scope.names.lookup y=some .local)
 (hk:scope.kind=.function) (hs:vm scope X.env.scope=true) (hn:vL X.N N' scope=true) (hm:N'.length-X.N.length=m) (hset: ∀x,foldedSetIterable iter X.env x=pure x) (ρ:aB):
 PS X (.Assign [.Name y py] (.ListComp elt [⟨tg,iter,ifs,0⟩] scope pos) spos) (yA (λσ H Q=> ∃hid,rY X.K c hid .n (aV m gi g p f) ρ σ H Q) (tt i)):=by
 intro ae s σ H E I hq;obtain⟨hid,sr,d,hd,q⟩:=hq
 obtain⟨ds,ys,e1,hz,hc,rfl⟩:=jV hd
 rw[exec_Assign_Name_used _ _ _ _ hsw];refine wpAny_bind (wpAny_standAt (wpAny_bind ?_))
 show wpAny _ X.A (do let _ <-comprehension (.ListComp elt [⟨tg,iter,ifs,0⟩] scope pos) scope X.env _ (newList []) false (eval iter X.env) (some (assign (.Name y py) X.env))) _ _ s
 refine wpAny_bind (wpAny_mono (wpAny_comprehension_free (use:=some (assign (.Name y py) X.env)) (Q:=λ_ s'=>SP X ae E .next s') rfl hset (gy λx hx=>I.ok.has x (iE hs x hx)) hk (lP hs) ?_) (λ_ s' hq=>wpAny_pure (wpAny_pure hq)) λ_ _ e=>e)
 refine cv (hi hid ρ ae s σ H (λJ H'=>Same H H'/\Cf X.K H' (vw H' hid) J ds) I ⟨sr,ds,e1,λJ H' s1 io=>⟨s1,io⟩⟩) λv s1 h1=>cv h1 λitv s2 h2=>?_
 obtain⟨it,fp,tn,J,H2,rfl,I2,T,st2,f2,sm,io⟩:=h2
 refine kz (IR:=Rep X.K) (RR:=λacc C=>compPost (model X.prog X.w) X.A X.xe (some (assign (.Name y py) X.env)) (λ_ s'=>SP X ae E .next s') acc C) hcalm hk hs hn hm hT hg hp he I2 (sr.ext sm) T st2 f2 io hz hc ?_
 intro D C s' H' xs hDge hCge hDC hD sm' hx rp ⟨mm,hns⟩ hC' hos hbare hok hun;have I3:Inv X ae σ H' s':=I2.call' (ch:=fp) hos hun hok hbare λb hb=>⟨(f2 b hb).2.2.2.1,(f2 b hb).2.1,(f2 b hb).2.2.2.2.1,(f2 b hb).2.2.2.2.2⟩
 have fin:=q _ H' (sm.trans sm') ⟨D,xs,ys,rfl,rfl,sm.free hD,hx,rp⟩
 have ltC: ∀b o,s2.heap.get? b=some o->b≠C:=λb o e z=>by subst z;exact absurd (Heap.lt_size e) (Nat.not_lt.mpr hCge)
 have hLC:C≠X.env.locals:=λz=>by
  have:=I2.lt
  rw[<-z] at this;exact absurd this (Nat.not_lt.mpr hCge)
 show wpAny _ X.A (assign (.Name y py) X.env (.ref D)) _ _ s';refine wpAny_assign_Name (ly (v:=.ref D) I3 hN hyi (.inl hy) rfl (λs'' I4 hb=>?_) (.inr hy))
 obtain⟨a,hsb,ha⟩:=hb
 have hCa:C≠a:=by
  rcases ha with rfl|ha
  ·exact hLC
  ·obtain⟨w',o,ho,_⟩:=I2.cell y a ha
   exact λz=>ltC a o ho z.symm
 refine⟨mm,hns.sameBut hsb hCa,λh3 hs3=>⟨_,H',?_,fin⟩⟩
 refine I4.turned (t':=s''.toks) (it:=C) (λb o nb e=>(hs3.2 b nb).trans e) hC' hLC (.inr (Nat.le_trans I2.sz hCge)) (λx c' e z=>?_) (λq hq z=>?_)
 ·obtain⟨w',o,ho,_⟩:=I2.cell x c' e
  exact ltC c' o ho z
 ·exact ltC q.1 q.2 (I2.pin q hq).1 z
theorem qQ(i:Nat){k:Kd}(hcalm:X.calm=true)(hN:X.N.Nodup)(hT:mO X.N.length g)(hi:AX X c tg iter gi)
 (hg: ∀C s₀ H₀ ex,xX (bK X N' scope C s₀ H₀ ex) c tg g) (hp: ∀C s₀ H₀ ex,yM (bK X N' scope C s₀ H₀ ex) c ifs p) (he: ∀C s₀ H₀ ex,DP (bK X N' scope C s₀ H₀ ex) c .s elt f)
 (hsw:swapsWith (.ListComp elt [⟨tg,iter,ifs,0⟩] scope pos) (some (.Name y py)) spos.line X.env=pure true:=by rfl) (hyi:X.N[i]? =some y:=by rfl) (hy:X.env.scope.names.lookup y=some .local:=by rfl)
 (hk:scope.kind=.function:=by rfl) (hs:vm scope X.env.scope=true:=by kernel_rfl) (hn:vL X.N N' scope=true:=by kernel_rfl) (hm:N'.length-X.N.length=m:=by rfl) (hset: ∀x,foldedSetIterable iter X.env x=pure x:=by intro _;rfl):
 DS X c k (.Assign [.Name y py] (.ListComp elt [⟨tg,iter,ifs,0⟩] scope pos) spos) (fj i (aV m gi g p f)):=λρ=>PS.imp (wg i hcalm hN hT hi hg hp he hsw hyi hy hk hs hn hm hset ρ) λD σ H hq_=>by
 obtain⟨hid,sr,q⟩:=hq_
 unfold fj at q;cases e1:aV m gi g p f ρ with
 |none=>rw[e1] at q;exact q.elim
 |some z=>
  rw[e1] at q;exact⟨hid,sr,z,e1,λv H' s r=>zd (sr.post s r (by decide)) q⟩
end
mutual
def dg:D->D->Bool
 | .non,.non=>true
 | .bl a,.bl b=>a==b
 | .bl a,.int b=>(if a then 1 else 0)==b
 | .int a,.bl b=>a==(if b then 1 else 0)
 | .int a,.int b=>a==b
 | .str a,.str b=>a==b
 | .tup a,.tup b=>bY a b
 | .lst a,.lst b=>bY a b
 | .lst a,.scr b=>bY a b
 | .scr a,.lst b=>bY a b
 | .scr a,.scr b=>bY a b
 |_,_=>false
def bY:List D->List D->Bool
 | [],[]=>true
 |x::xs,y::ys=>dg x y&&bY xs ys
 |_,_=>false
end
mutual
def dw:D->Nat
 | .tup a=>gh a+1
 | .lst a=>gh a+1
 | .scr _=>cLine
 |_=>0
def gh:List D->Nat
 | []=>0
 |x::xs=>max (dw x) (gh xs)
end
theorem oA: ∀ {xs:List D} {i:Nat} {d:D},xs[i]? =some d->dw d<=gh xs
 | [],_,_,h=>by simp at h
 |x::xs,0,d,h=>by simp at h;subst h;unfold gh;exact Nat.le_max_left _ _
 |x::xs,i+1,d,h=>by
  have:=oA (xs:=xs) (i:=i) (d:=d) (by simpa using h)
  unfold gh;exact Nat.le_trans this (Nat.le_max_right _ _)
mutual
theorem jZ: ∀x:D,dg x x=true
 | .non=>by unfold dg;rfl
 | .bl a=>by unfold dg;simp
 | .int a=>by unfold dg;simp
 | .str a=>by unfold dg;simp
 | .tup a=>by unfold dg;exact fK a
 | .lst a=>by unfold dg;exact fK a
 | .scr a=>by unfold dg;exact fK a
theorem fK: ∀x:List D,bY x x=true
 | []=>by unfold bY;rfl
 |x::xs=>by unfold bY;rw[jZ x,fK xs];rfl
end
def gZ(xs ys:List D)(j:Nat):Bool:=match xs[j]?,ys[j]? with
 |some x,some y=>dg x y
 |_,_=>false
theorem lH {xs ys:List D}(h:xs.length=ys.length):(List.range xs.length).all (gZ xs ys)=bY xs ys:=by
 induction xs generalizing ys with
 |nil=>
  cases ys with
  |nil=>unfold bY;rfl
  |cons y ys=>simp at h
 |cons x xs ih=>
  cases ys with
  |nil=>simp at h
  |cons y ys=>
   rw[List.length_cons,List.range_succ_eq_map,List.all_cons,List.all_map];have e0:gZ (x::xs) (y::ys) 0=dg x y:=rfl
   have e1:((gZ (x::xs) (y::ys))∘Nat.succ)=gZ xs ys:=by funext j;simp[gZ]
   rw[e0,e1,ih (by simpa using h)]
   conv=>rhs;unfold bY
theorem jR: ∀ {xs ys:List D},xs.length≠ys.length->bY xs ys=false
 | [],[],h=>absurd rfl h
 | [],_::_,_=>by unfold bY;rfl
 |_::_,[],_=>by unfold bY;rfl
 |x::xs,y::ys,h=>by unfold bY;rw[jR (xs:=xs) (ys:=ys) (by simpa using h)];simp
section
variable {X:Cx}{ae:List (Addr×Obj)}{σ:St}{H:Hp}{s:Shared}
theorem dW(I:Inv X ae σ H s){a:Addr}{xs ys:List V}(h:SqL X.K H a xs)(h':SqT X.K H a ys):False:=by
 obtain⟨its,_,pl,_⟩:=I.list h
 obtain⟨its',_,pt,_⟩:=I.tuple h'
 exact SeqAt.ne_of_list_tuple pl.isList pt rfl
theorem zE {a b:List D}(h: ∀zs,bY a zs=bY b zs):(∀z,dg (.tup a) z=dg (.tup b) z)/\(∀z,dg (.lst a) z=dg (.lst b) z)/\ ∀z,dg (.scr a) z=dg (.lst b) z:=by
 refine⟨λz=>?_,λz=>?_,λz=>?_⟩<;>cases z<;>unfold dg<;>first|exact h _|rfl
theorem Al {b:List D}: ∀z,dg (.scr b) z=dg (.lst b) z:=(zE λ_=>rfl).2.2
mutual
theorem Rep.eqv(I:Inv X ae σ H s): ∀ {v:V} {x y:D},Rep X.K H v x->Rep X.K H v y-> ∀z,dg x z=dg y z
 |_,_,_,.non,.non=>λ_=>rfl
 |_,_,_,.bl,.bl=>λ_=>rfl
 |_,_,_,.int,.int=>λ_=>rfl
 |_,_,_,.str,.str=>λ_=>rfl
 |_,_,_,.tup h r,.tup h' r'=>by rw[I.tuple_inj h h'] at r;exact(zE (Reps.eqv I r r')).1
 |_,_,_,.lst h r,.lst h' r'=>by rw[I.list_inj (SqL.of h) (SqL.of h')] at r;exact(zE (Reps.eqv I r r')).2.1
 |_,_,_,.lst h r,.scr h' r'=>by rw[I.list_inj (SqL.of h) h'.seq] at r;exact λz=>((zE (Reps.eqv I r r')).2.1 z).trans (Al z).symm
 |_,_,_,.scr h r,.lst h' r'=>by rw[I.list_inj h.seq (SqL.of h')] at r;exact(zE (Reps.eqv I r r')).2.2
 |_,_,_,.scr h r,.scr h' r'=>by rw[I.list_inj h.seq h'.seq] at r;exact λz=>((zE (Reps.eqv I r r')).2.2 z).trans (Al z).symm
 |_,_,_,.tup h r,.lst h' r'=>(dW I (SqL.of h') h).elim
 |_,_,_,.lst h r,.tup h' r'=>(dW I (SqL.of h) h').elim
 |_,_,_,.tup h r,.scr h' r'=>(dW I h'.seq h).elim
 |_,_,_,.scr h r,.tup h' r'=>(dW I h.seq h').elim
theorem Reps.eqv(I:Inv X ae σ H s): ∀ {v:List V} {x y:List D},Reps X.K H v x->Reps X.K H v y-> ∀z,bY x z=bY y z
 |_,_,_,.nil,.nil=>λ_=>rfl
 |_,_,_,.cons r t,.cons r' t'=>λz=>by
  cases z with
  |nil=>unfold bY;rfl
  |cons w ws=>unfold bY;rw[Rep.eqv I r r' w,Reps.eqv I t t' ws]
end
theorem aF(I:Inv X ae σ H s){a:Addr}{xs:List V}{ds:List D}(h:SqL X.K H a xs)(r:Reps X.K H xs ds): ∃its:List Value,s.heap.IsList a its.toArray/\its.length=ds.length/\ ∀(j:Nat) (hj:j<its.length),∃(v:V) (d:D),ds[j]? =some d/\RelV v its[j]/\Rep X.K H v d:=by
 obtain⟨its,rv,pl,_⟩:=I.list h
 have h1:=rv.length
 have h2:=r.length
 refine⟨its,pl.isList,by omega,λj hj=>?_⟩
 have e:xs[j]? =some xs[j]:=List.getElem?_eq_getElem (by omega)
 obtain⟨u,e1,r1⟩:=rv.get e
 obtain⟨d,e2,r2⟩:=r.get' e
 have:its[j]=u:=by rw[List.getElem?_eq_getElem hj] at e1;exact Option.some.inj e1
 rw[this];exact⟨xs[j],d,e2,r1,r2⟩
theorem bO(I:Inv X ae σ H s){a:Addr}{xs:List V}{ds:List D}(h:SqT X.K H a xs)(r:Reps X.K H xs ds): ∃its:List Value,s.heap.IsTuple a its.toArray/\its.length=ds.length/\ ∀(j:Nat) (hj:j<its.length),∃(v:V) (d:D),ds[j]? =some d/\RelV v its[j]/\Rep X.K H v d:=by
 obtain⟨its,rv,pl,_⟩:=I.tuple h
 have h1:=rv.length
 have h2:=r.length
 refine⟨its,pl,by omega,λj hj=>?_⟩
 have e:xs[j]? =some xs[j]:=List.getElem?_eq_getElem (by omega)
 obtain⟨u,e1,r1⟩:=rv.get e
 obtain⟨d,e2,r2⟩:=r.get' e
 have:its[j]=u:=by rw[List.getElem?_eq_getElem hj] at e1;exact Option.some.inj e1
 rw[this];exact⟨xs[j],d,e2,r1,r2⟩
end
section
variable {X:Cx}{ae:List (Addr×Obj)}{σ:St}{H:Hp}{s:Shared}
theorem lN(A:Around):A.in1.units=A.units+1:=rfl
theorem xp {A:Around}{n:Nat}(IH: ∀ {x y:D} {v u:V} {a b:Value} {A:Around},dw x<n->A.units+dw x<cLine->RelV v a->RelV u b->Rep X.K H v x->Rep X.K H u y->SeqAt.EqAt A s a b (dg x y)){xs ys:List D}{its its2:List Value}(hd:gh xs<n)(hu:A.units+gh xs<cLine)
 (g1: ∀(j:Nat) (hj:j<its.length),∃(v:V) (d:D),xs[j]? =some d/\RelV v its[j]/\Rep X.K H v d) (g2: ∀(j:Nat) (hj:j<its2.length),∃(v:V) (d:D),ys[j]? =some d/\RelV v its2[j]/\Rep X.K H v d):
 ∀j (h1:j<its.toArray.size) (h2:j<its2.toArray.size),SeqAt.EqAt A s its.toArray[j] its2.toArray[j] (gZ xs ys j):=λj h1 h2=>by
 obtain⟨v,d,e1,r1,p1⟩:=g1 j (by simpa using h1)
 obtain⟨u,d',e2,r2,p2⟩:=g2 j (by simpa using h2)
 have ez:gZ xs ys j=dg d d':=by unfold gZ;rw[e1,e2]
 rw[ez];have hdd:=oA e1
 exact IH (by omega) (by omega) (by simpa using r1) (by simpa using r2) p1 p2
theorem gI(I:Inv X ae σ H s){A:Around}{n:Nat}(IH: ∀ {x y:D} {v u:V} {a b:Value} {A:Around},dw x<n->A.units+dw x<cLine->RelV v a->RelV u b->Rep X.K H v x->Rep X.K H u y->SeqAt.EqAt A s a b (dg x y)){xs ys:List D}{zs ws:List V}{a b:Addr}(hd:gh xs<n)(hu:A.units+(gh xs+1)<cLine)
 (h1:SqL X.K H a zs) (r1:Reps X.K H zs xs) (h2:SqL X.K H b ws) (r2:Reps X.K H ws ys):SeqAt.RcAt A s (.ref a) (.ref b) (bY xs ys)/\SeqAt.RcNeAt A s (.ref a) (.ref b) (!bY xs ys):=by
 obtain⟨its,l1,n1,g1⟩:=aF I h1 r1
 obtain⟨its2,l2,n2,g2⟩:=aF I h2 r2
 by_cases e:xs.length=ys.length
 ·have hsz:its.toArray.size=its2.toArray.size:=by simp;omega
  have he:=xp (A:=A.in1) IH hd (by rw[lN];omega) g1 g2
  have ea:(List.range its.toArray.size).all (gZ xs ys)=bY xs ys:=by rw[List.size_toArray,n1];exact lH e
  rw[<-ea];exact⟨SeqAt.RcAt.lists l1 l2 hsz (by omega) he,SeqAt.RcNeAt.lists l1 l2 hsz (by omega) he⟩
 ·rw[jR e]
  have hsz:(its.toArray.size !=its2.toArray.size)=true:=by simp;omega
  exact⟨SeqAt.RcAt.lists_lengths l1 l2 hsz (by omega),SeqAt.RcNeAt.lists_lengths l1 l2 hsz (by omega)⟩
theorem p5(I:Inv X ae σ H s){A:Around}{n:Nat}(IH: ∀ {x y:D} {v u:V} {a b:Value} {A:Around},dw x<n->A.units+dw x<cLine->RelV v a->RelV u b->Rep X.K H v x->Rep X.K H u y->SeqAt.EqAt A s a b (dg x y)){xs ys:List D}{zs ws:List V}{a b:Addr}(hd:gh xs<n)(hu:A.units+(gh xs+1)<cLine)
 (h1:SqT X.K H a zs) (r1:Reps X.K H zs xs) (h2:SqT X.K H b ws) (r2:Reps X.K H ws ys):SeqAt.RcAt A s (.ref a) (.ref b) (bY xs ys)/\SeqAt.RcNeAt A s (.ref a) (.ref b) (!bY xs ys):=by
 obtain⟨its,l1,n1,g1⟩:=bO I h1 r1
 obtain⟨its2,l2,n2,g2⟩:=bO I h2 r2
 have he:=xp (A:=A.in1) IH hd (by rw[lN];omega) g1 g2
 have ea:((List.range (min its.toArray.size its2.toArray.size)).all (gZ xs ys)&&its.toArray.size==its2.toArray.size)=bY xs ys:=by
  rw[List.size_toArray,List.size_toArray,n1,n2]
  by_cases e:xs.length=ys.length
  ·rw[<-e,Nat.min_self,lH e];simp
  ·rw[jR e];simp[e]
 rw[<-ea];exact⟨SeqAt.RcAt.tuples l1 l2 (by omega) he,SeqAt.RcNeAt.tuples l1 l2 (by omega) he⟩
theorem jh(I:Inv X ae σ H s){A:Around}{a b:Addr}{x y:D}(r1:Rep X.K H (.ref a) x)(r2:Rep X.K H (.ref b) y)(e:a=b):SeqAt.EqAt A s (.ref a) (.ref b) (dg x y):=by
 subst e;rw[Rep.eqv I r1 r2,jZ];exact SeqAt.EqAt.same _
theorem zy(I:Inv X ae σ H s){n:Nat}(IH: ∀ {x y:D} {v u:V} {a b:Value} {A:Around},dw x<n->A.units+dw x<cLine->RelV v a->RelV u b->Rep X.K H v x->Rep X.K H u y->SeqAt.EqAt A s a b (dg x y)){x y:D}{v u:V}{a b:Value}{A:Around}(hd:dw x<n+1)(hu:A.units+dw x<cLine)(hc:A.units<cLine)
 (ra:RelV v a) (rb:RelV u b) (px:Rep X.K H v x) (py:Rep X.K H u y):SeqAt.EqAt A s a b (dg x y):=by
 unfold dg;cases px with
 |non=>
  cases ra
  cases py with
  |non=>
   cases rb
   exact SeqAt.EqAt.same _
  |bl=>
   cases rb
   exact SeqAt.EqAt.none_bool _
  |int=>
   obtain⟨t2,rfl⟩:=rb
   exact SeqAt.EqAt.none_int _ _
  |str=>
   obtain⟨t2,rfl⟩:=rb
   exact SeqAt.EqAt.none_str _ _
  | @tup a2 _ _ h2 r2=>
    cases rb
    obtain⟨its2,l2,_⟩:=bO I h2 r2
    exact SeqAt.EqAt.none_tuple l2 (by omega)
  | @lst a2 _ _ h2 r2=>
    cases rb
    obtain⟨its2,l2,_⟩:=aF I (SqL.of h2) r2
    exact SeqAt.EqAt.none_list l2 (by omega)
  | @scr a2 _ _ h2 r2=>
    cases rb
    obtain⟨its2,l2,_⟩:=aF I h2.seq r2
    exact SeqAt.EqAt.none_list l2 (by omega)
 |bl=>
  cases ra
  cases py with
  |non=>
   cases rb
   exact SeqAt.EqAt.bool_none _
  |bl=>
   cases rb
   exact SeqAt.EqAt.bool_bool _ _
  |int=>
   obtain⟨t2,rfl⟩:=rb
   exact SeqAt.EqAt.bool_int _ _ _
  |str=>
   obtain⟨t2,rfl⟩:=rb
   exact SeqAt.EqAt.bool_str _ _ _
  | @tup a2 _ _ h2 r2=>
    cases rb
    obtain⟨its2,l2,_⟩:=bO I h2 r2
    exact SeqAt.EqAt.bool_tuple _ l2 (by omega)
  | @lst a2 _ _ h2 r2=>
    cases rb
    obtain⟨its2,l2,_⟩:=aF I (SqL.of h2) r2
    exact SeqAt.EqAt.bool_list _ l2 (by omega)
  | @scr a2 _ _ h2 r2=>
    cases rb
    obtain⟨its2,l2,_⟩:=aF I h2.seq r2
    exact SeqAt.EqAt.bool_list _ l2 (by omega)
 |int=>
  obtain⟨t1,rfl⟩:=ra
  cases py with
  |non=>
   cases rb
   exact SeqAt.EqAt.int_none _ _
  |bl=>
   cases rb
   exact SeqAt.EqAt.int_bool _ _ _
  |int=>
   obtain⟨t2,rfl⟩:=rb
   exact SeqAt.EqAt.int_int _ _ _ _
  |str=>
   obtain⟨t2,rfl⟩:=rb
   exact SeqAt.EqAt.int_str _ _ _ _
  | @tup a2 _ _ h2 r2=>
    cases rb
    obtain⟨its2,l2,_⟩:=bO I h2 r2
    exact SeqAt.EqAt.int_tuple _ _ l2 (by omega)
  | @lst a2 _ _ h2 r2=>
    cases rb
    obtain⟨its2,l2,_⟩:=aF I (SqL.of h2) r2
    exact SeqAt.EqAt.int_list _ _ l2 (by omega)
  | @scr a2 _ _ h2 r2=>
    cases rb
    obtain⟨its2,l2,_⟩:=aF I h2.seq r2
    exact SeqAt.EqAt.int_list _ _ l2 (by omega)
 |str=>
  obtain⟨t1,rfl⟩:=ra
  cases py with
  |non=>
   cases rb
   exact SeqAt.EqAt.str_none _ _
  |bl=>
   cases rb
   exact SeqAt.EqAt.str_bool _ _ _
  |int=>
   obtain⟨t2,rfl⟩:=rb
   exact SeqAt.EqAt.str_int _ _ _ _
  |str=>
   obtain⟨t2,rfl⟩:=rb
   exact SeqAt.EqAt.str_str _ _ _ _
  | @tup a2 _ _ h2 r2=>
    cases rb
    obtain⟨its2,l2,_⟩:=bO I h2 r2
    exact SeqAt.EqAt.str_tuple _ _ l2 (by omega)
  | @lst a2 _ _ h2 r2=>
    cases rb
    obtain⟨its2,l2,_⟩:=aF I (SqL.of h2) r2
    exact SeqAt.EqAt.str_list _ _ l2 (by omega)
  | @scr a2 _ _ h2 r2=>
    cases rb
    obtain⟨its2,l2,_⟩:=aF I h2.seq r2
    exact SeqAt.EqAt.str_list _ _ l2 (by omega)
 | @tup a1 _ _ h1 r1=>
   cases ra
   obtain⟨its,l1,_⟩:=bO I h1 r1
   cases py with
   |non=>
    cases rb
    exact SeqAt.EqAt.tuple_none l1 (by omega)
   |bl=>
    cases rb
    exact SeqAt.EqAt.tuple_bool _ l1 (by omega)
   |int=>
    obtain⟨t2,rfl⟩:=rb
    exact SeqAt.EqAt.tuple_int _ _ l1 (by omega)
   |str=>
    obtain⟨t2,rfl⟩:=rb
    exact SeqAt.EqAt.tuple_str _ _ l1 (by omega)
   | @tup a2 _ _ h2 r2=>
     cases rb
     obtain⟨its2,l2,_⟩:=bO I h2 r2
     by_cases e:a1=a2
     ·exact(jh I (.tup h1 r1) (.tup h2 r2) e)
     ·exact SeqAt.EqAt.of_refs e (p5 I IH (by unfold dw at hd;omega) (by unfold dw at hu;omega) h1 r1 h2 r2).1
   | @lst a2 _ _ h2 r2=>
     cases rb
     obtain⟨its2,l2,_⟩:=aF I (SqL.of h2) r2
     exact SeqAt.EqAt.tuple_list l1 l2 (by omega)
   | @scr a2 _ _ h2 r2=>
     cases rb
     obtain⟨its2,l2,_⟩:=aF I h2.seq r2
     exact SeqAt.EqAt.tuple_list l1 l2 (by omega)
 | @scr a1 _ _ h1 r1=>exact absurd hu (by unfold dw;omega)
 | @lst a1 _ _ h1 r1=>
   cases ra
   obtain⟨its,l1,_⟩:=aF I (SqL.of h1) r1
   cases py with
   |non=>
    cases rb
    exact SeqAt.EqAt.list_none l1 (by omega)
   |bl=>
    cases rb
    exact SeqAt.EqAt.list_bool _ l1 (by omega)
   |int=>
    obtain⟨t2,rfl⟩:=rb
    exact SeqAt.EqAt.list_int _ _ l1 (by omega)
   |str=>
    obtain⟨t2,rfl⟩:=rb
    exact SeqAt.EqAt.list_str _ _ l1 (by omega)
   | @tup a2 _ _ h2 r2=>
     cases rb
     obtain⟨its2,l2,_⟩:=bO I h2 r2
     exact SeqAt.EqAt.list_tuple l1 l2 (by omega)
   | @lst a2 _ _ h2 r2=>
     cases rb
     obtain⟨its2,l2,_⟩:=aF I (SqL.of h2) r2
     by_cases e:a1=a2
     ·exact(jh I (.lst h1 r1) (.lst h2 r2) e)
     ·exact SeqAt.EqAt.of_refs e (gI I IH (by unfold dw at hd;omega) (by unfold dw at hu;omega) (SqL.of h1) r1 (SqL.of h2) r2).1
   | @scr a2 _ _ h2 r2=>
     cases rb
     obtain⟨its2,l2,_⟩:=aF I h2.seq r2
     by_cases e:a1=a2
     ·exact(jh I (.lst h1 r1) (.scr h2 r2) e)
     ·exact SeqAt.EqAt.of_refs e (gI I IH (by unfold dw at hd;omega) (by unfold dw at hu;omega) (SqL.of h1) r1 h2.seq r2).1
theorem mW(I:Inv X ae σ H s): ∀(n:Nat) {x y:D} {v u:V} {a b:Value} {A:Around},dw x<n->A.units+dw x<cLine->RelV v a->RelV u b->Rep X.K H v x->Rep X.K H u y->SeqAt.EqAt A s a b (dg x y)
 |0,x,y,v,u,a,b,A,hd,hu,ra,rb,px,py=>absurd hd (Nat.not_lt_zero _)
 |n+1,x,y,v,u,a,b,A,hd,hu,ra,rb,px,py=>zy I (λh1 h2 h3 h4 h5 h6=>mW I n h1 h2 h3 h4 h5 h6) hd hu (by omega) ra rb px py
theorem yW(I:Inv X ae σ H s){x y:D}{v u:V}{a b:Value}{A:Around}(hu:A.units+dw x<cLine)(hc:A.units<cLine)(ra:RelV v a)(rb:RelV u b)(px:Rep X.K H v x)(py:Rep X.K H u y):SeqAt.RcAt A s a b (dg x y):=by
 have IH:=λ{x y:D} {v u:V} {a b:Value} {A:Around} (n:Nat)=> @mW X ae σ H s I n x y v u a b A
 have IH: ∀ {n:Nat} {x y:D} {v u:V} {a b:Value} {A:Around},dw x<n->A.units+dw x<cLine->RelV v a->RelV u b->Rep X.K H v x->Rep X.K H u y->SeqAt.EqAt A s a b (dg x y):=λ{n x y v u a b A}=>mW I n
 unfold dg;cases px with
 |non=>
  cases ra
  cases py with
  |non=>
   cases rb
   exact SeqAt.RcAt.none_none
  |bl=>
   cases rb
   exact SeqAt.RcAt.none_bool _
  |int=>
   obtain⟨t2,rfl⟩:=rb
   exact SeqAt.RcAt.none_int _ _
  |str=>
   obtain⟨t2,rfl⟩:=rb
   exact SeqAt.RcAt.none_str _ _
  | @tup a2 _ _ h2 r2=>
    cases rb
    obtain⟨its2,l2,_⟩:=bO I h2 r2
    exact SeqAt.RcAt.none_tuple l2 (by omega)
  | @lst a2 _ _ h2 r2=>
    cases rb
    obtain⟨its2,l2,_⟩:=aF I (SqL.of h2) r2
    exact SeqAt.RcAt.none_list l2 (by omega)
  | @scr a2 _ _ h2 r2=>
    cases rb
    obtain⟨its2,l2,_⟩:=aF I h2.seq r2
    exact SeqAt.RcAt.none_list l2 (by omega)
 |bl=>
  cases ra
  cases py with
  |non=>
   cases rb
   exact SeqAt.RcAt.bool_none _
  |bl=>
   cases rb
   exact SeqAt.RcAt.bool_bool _ _
  |int=>
   obtain⟨t2,rfl⟩:=rb
   exact SeqAt.RcAt.bool_int _ _ _
  |str=>
   obtain⟨t2,rfl⟩:=rb
   exact SeqAt.RcAt.bool_str _ _ _
  | @tup a2 _ _ h2 r2=>
    cases rb
    obtain⟨its2,l2,_⟩:=bO I h2 r2
    exact SeqAt.RcAt.bool_tuple _ l2 (by omega)
  | @lst a2 _ _ h2 r2=>
    cases rb
    obtain⟨its2,l2,_⟩:=aF I (SqL.of h2) r2
    exact SeqAt.RcAt.bool_list _ l2 (by omega)
  | @scr a2 _ _ h2 r2=>
    cases rb
    obtain⟨its2,l2,_⟩:=aF I h2.seq r2
    exact SeqAt.RcAt.bool_list _ l2 (by omega)
 |int=>
  obtain⟨t1,rfl⟩:=ra
  cases py with
  |non=>
   cases rb
   exact SeqAt.RcAt.int_none _ _
  |bl=>
   cases rb
   exact SeqAt.RcAt.int_bool _ _ _
  |int=>
   obtain⟨t2,rfl⟩:=rb
   exact SeqAt.RcAt.int_int _ _ _ _
  |str=>
   obtain⟨t2,rfl⟩:=rb
   exact SeqAt.RcAt.int_str _ _ _ _
  | @tup a2 _ _ h2 r2=>
    cases rb
    obtain⟨its2,l2,_⟩:=bO I h2 r2
    exact SeqAt.RcAt.int_tuple _ _ l2 (by omega)
  | @lst a2 _ _ h2 r2=>
    cases rb
    obtain⟨its2,l2,_⟩:=aF I (SqL.of h2) r2
    exact SeqAt.RcAt.int_list _ _ l2 (by omega)
  | @scr a2 _ _ h2 r2=>
    cases rb
    obtain⟨its2,l2,_⟩:=aF I h2.seq r2
    exact SeqAt.RcAt.int_list _ _ l2 (by omega)
 |str=>
  obtain⟨t1,rfl⟩:=ra
  cases py with
  |non=>
   cases rb
   exact SeqAt.RcAt.str_none _ _
  |bl=>
   cases rb
   exact SeqAt.RcAt.str_bool _ _ _
  |int=>
   obtain⟨t2,rfl⟩:=rb
   exact SeqAt.RcAt.str_int _ _ _ _
  |str=>
   obtain⟨t2,rfl⟩:=rb
   exact SeqAt.RcAt.str_str _ _ _ _
  | @tup a2 _ _ h2 r2=>
    cases rb
    obtain⟨its2,l2,_⟩:=bO I h2 r2
    exact SeqAt.RcAt.str_tuple _ _ l2 (by omega)
  | @lst a2 _ _ h2 r2=>
    cases rb
    obtain⟨its2,l2,_⟩:=aF I (SqL.of h2) r2
    exact SeqAt.RcAt.str_list _ _ l2 (by omega)
  | @scr a2 _ _ h2 r2=>
    cases rb
    obtain⟨its2,l2,_⟩:=aF I h2.seq r2
    exact SeqAt.RcAt.str_list _ _ l2 (by omega)
 | @tup a1 _ _ h1 r1=>
   cases ra
   obtain⟨its,l1,_⟩:=bO I h1 r1
   cases py with
   |non=>
    cases rb
    exact SeqAt.RcAt.tuple_none l1 (by omega)
   |bl=>
    cases rb
    exact SeqAt.RcAt.tuple_bool _ l1 (by omega)
   |int=>
    obtain⟨t2,rfl⟩:=rb
    exact SeqAt.RcAt.tuple_int _ _ l1 (by omega)
   |str=>
    obtain⟨t2,rfl⟩:=rb
    exact SeqAt.RcAt.tuple_str _ _ l1 (by omega)
   | @tup a2 _ _ h2 r2=>
     cases rb
     obtain⟨its2,l2,_⟩:=bO I h2 r2
     exact(p5 I IH (Nat.lt_succ_self _) (by unfold dw at hu;omega) h1 r1 h2 r2).1
   | @lst a2 _ _ h2 r2=>
     cases rb
     obtain⟨its2,l2,_⟩:=aF I (SqL.of h2) r2
     exact SeqAt.RcAt.tuple_list l1 l2 (by omega)
   | @scr a2 _ _ h2 r2=>
     cases rb
     obtain⟨its2,l2,_⟩:=aF I h2.seq r2
     exact SeqAt.RcAt.tuple_list l1 l2 (by omega)
 | @scr a1 _ _ h1 r1=>exact absurd hu (by unfold dw;omega)
 | @lst a1 _ _ h1 r1=>
   cases ra
   obtain⟨its,l1,_⟩:=aF I (SqL.of h1) r1
   cases py with
   |non=>
    cases rb
    exact SeqAt.RcAt.list_none l1 (by omega)
   |bl=>
    cases rb
    exact SeqAt.RcAt.list_bool _ l1 (by omega)
   |int=>
    obtain⟨t2,rfl⟩:=rb
    exact SeqAt.RcAt.list_int _ _ l1 (by omega)
   |str=>
    obtain⟨t2,rfl⟩:=rb
    exact SeqAt.RcAt.list_str _ _ l1 (by omega)
   | @tup a2 _ _ h2 r2=>
     cases rb
     obtain⟨its2,l2,_⟩:=bO I h2 r2
     exact SeqAt.RcAt.list_tuple l1 l2 (by omega)
   | @lst a2 _ _ h2 r2=>
     cases rb
     obtain⟨its2,l2,_⟩:=aF I (SqL.of h2) r2
     exact(gI I IH (Nat.lt_succ_self _) (by unfold dw at hu;omega) (SqL.of h1) r1 (SqL.of h2) r2).1
   | @scr a2 _ _ h2 r2=>
     cases rb
     obtain⟨its2,l2,_⟩:=aF I h2.seq r2
     exact(gI I IH (Nat.lt_succ_self _) (by unfold dw at hu;omega) (SqL.of h1) r1 h2.seq r2).1
theorem sO(I:Inv X ae σ H s){x y:D}{v u:V}{a b:Value}{A:Around}(hu:A.units+dw x<cLine)(hc:A.units<cLine)(ra:RelV v a)(rb:RelV u b)(px:Rep X.K H v x)(py:Rep X.K H u y):SeqAt.RcNeAt A s a b (!dg x y):=by
 have IH: ∀ {n:Nat} {x y:D} {v u:V} {a b:Value} {A:Around},dw x<n->A.units+dw x<cLine->RelV v a->RelV u b->Rep X.K H v x->Rep X.K H u y->SeqAt.EqAt A s a b (dg x y):=λ{n x y v u a b A}=>mW I n
 unfold dg;cases px with
 |non=>
  cases ra
  cases py with
  |non=>
   cases rb
   exact SeqAt.RcNeAt.none_none
  |bl=>
   cases rb
   exact SeqAt.RcNeAt.none_bool _
  |int=>
   obtain⟨t2,rfl⟩:=rb
   exact SeqAt.RcNeAt.none_int _ _
  |str=>
   obtain⟨t2,rfl⟩:=rb
   exact SeqAt.RcNeAt.none_str _ _
  | @tup a2 _ _ h2 r2=>
    cases rb
    obtain⟨its2,l2,_⟩:=bO I h2 r2
    exact SeqAt.RcNeAt.none_tuple l2 (by omega)
  | @lst a2 _ _ h2 r2=>
    cases rb
    obtain⟨its2,l2,_⟩:=aF I (SqL.of h2) r2
    exact SeqAt.RcNeAt.none_list l2 (by omega)
  | @scr a2 _ _ h2 r2=>
    cases rb
    obtain⟨its2,l2,_⟩:=aF I h2.seq r2
    exact SeqAt.RcNeAt.none_list l2 (by omega)
 |bl=>
  cases ra
  cases py with
  |non=>
   cases rb
   exact SeqAt.RcNeAt.bool_none _
  |bl=>
   cases rb
   exact SeqAt.RcNeAt.bool_bool _ _
  |int=>
   obtain⟨t2,rfl⟩:=rb
   exact SeqAt.RcNeAt.bool_int _ _ _
  |str=>
   obtain⟨t2,rfl⟩:=rb
   exact SeqAt.RcNeAt.bool_str _ _ _
  | @tup a2 _ _ h2 r2=>
    cases rb
    obtain⟨its2,l2,_⟩:=bO I h2 r2
    exact SeqAt.RcNeAt.bool_tuple _ l2 (by omega)
  | @lst a2 _ _ h2 r2=>
    cases rb
    obtain⟨its2,l2,_⟩:=aF I (SqL.of h2) r2
    exact SeqAt.RcNeAt.bool_list _ l2 (by omega)
  | @scr a2 _ _ h2 r2=>
    cases rb
    obtain⟨its2,l2,_⟩:=aF I h2.seq r2
    exact SeqAt.RcNeAt.bool_list _ l2 (by omega)
 |int=>
  obtain⟨t1,rfl⟩:=ra
  cases py with
  |non=>
   cases rb
   exact SeqAt.RcNeAt.int_none _ _
  |bl=>
   cases rb
   exact SeqAt.RcNeAt.int_bool _ _ _
  |int=>
   obtain⟨t2,rfl⟩:=rb
   exact SeqAt.RcNeAt.int_int _ _ _ _
  |str=>
   obtain⟨t2,rfl⟩:=rb
   exact SeqAt.RcNeAt.int_str _ _ _ _
  | @tup a2 _ _ h2 r2=>
    cases rb
    obtain⟨its2,l2,_⟩:=bO I h2 r2
    exact SeqAt.RcNeAt.int_tuple _ _ l2 (by omega)
  | @lst a2 _ _ h2 r2=>
    cases rb
    obtain⟨its2,l2,_⟩:=aF I (SqL.of h2) r2
    exact SeqAt.RcNeAt.int_list _ _ l2 (by omega)
  | @scr a2 _ _ h2 r2=>
    cases rb
    obtain⟨its2,l2,_⟩:=aF I h2.seq r2
    exact SeqAt.RcNeAt.int_list _ _ l2 (by omega)
 |str=>
  obtain⟨t1,rfl⟩:=ra
  cases py with
  |non=>
   cases rb
   exact SeqAt.RcNeAt.str_none _ _
  |bl=>
   cases rb
   exact SeqAt.RcNeAt.str_bool _ _ _
  |int=>
   obtain⟨t2,rfl⟩:=rb
   exact SeqAt.RcNeAt.str_int _ _ _ _
  |str=>
   obtain⟨t2,rfl⟩:=rb
   exact SeqAt.RcNeAt.str_str _ _ _ _
  | @tup a2 _ _ h2 r2=>
    cases rb
    obtain⟨its2,l2,_⟩:=bO I h2 r2
    exact SeqAt.RcNeAt.str_tuple _ _ l2 (by omega)
  | @lst a2 _ _ h2 r2=>
    cases rb
    obtain⟨its2,l2,_⟩:=aF I (SqL.of h2) r2
    exact SeqAt.RcNeAt.str_list _ _ l2 (by omega)
  | @scr a2 _ _ h2 r2=>
    cases rb
    obtain⟨its2,l2,_⟩:=aF I h2.seq r2
    exact SeqAt.RcNeAt.str_list _ _ l2 (by omega)
 | @tup a1 _ _ h1 r1=>
   cases ra
   obtain⟨its,l1,_⟩:=bO I h1 r1
   cases py with
   |non=>
    cases rb
    exact SeqAt.RcNeAt.tuple_none l1 (by omega)
   |bl=>
    cases rb
    exact SeqAt.RcNeAt.tuple_bool _ l1 (by omega)
   |int=>
    obtain⟨t2,rfl⟩:=rb
    exact SeqAt.RcNeAt.tuple_int _ _ l1 (by omega)
   |str=>
    obtain⟨t2,rfl⟩:=rb
    exact SeqAt.RcNeAt.tuple_str _ _ l1 (by omega)
   | @tup a2 _ _ h2 r2=>
     cases rb
     obtain⟨its2,l2,_⟩:=bO I h2 r2
     exact(p5 I IH (Nat.lt_succ_self _) (by unfold dw at hu;omega) h1 r1 h2 r2).2
   | @lst a2 _ _ h2 r2=>
     cases rb
     obtain⟨its2,l2,_⟩:=aF I (SqL.of h2) r2
     exact SeqAt.RcNeAt.tuple_list l1 l2 (by omega)
   | @scr a2 _ _ h2 r2=>
     cases rb
     obtain⟨its2,l2,_⟩:=aF I h2.seq r2
     exact SeqAt.RcNeAt.tuple_list l1 l2 (by omega)
 | @scr a1 _ _ h1 r1=>exact absurd hu (by unfold dw;omega)
 | @lst a1 _ _ h1 r1=>
   cases ra
   obtain⟨its,l1,_⟩:=aF I (SqL.of h1) r1
   cases py with
   |non=>
    cases rb
    exact SeqAt.RcNeAt.list_none l1 (by omega)
   |bl=>
    cases rb
    exact SeqAt.RcNeAt.list_bool _ l1 (by omega)
   |int=>
    obtain⟨t2,rfl⟩:=rb
    exact SeqAt.RcNeAt.list_int _ _ l1 (by omega)
   |str=>
    obtain⟨t2,rfl⟩:=rb
    exact SeqAt.RcNeAt.list_str _ _ l1 (by omega)
   | @tup a2 _ _ h2 r2=>
     cases rb
     obtain⟨its2,l2,_⟩:=bO I h2 r2
     exact SeqAt.RcNeAt.list_tuple l1 l2 (by omega)
   | @lst a2 _ _ h2 r2=>
     cases rb
     obtain⟨its2,l2,_⟩:=aF I (SqL.of h2) r2
     exact(gI I IH (Nat.lt_succ_self _) (by unfold dw at hu;omega) (SqL.of h1) r1 (SqL.of h2) r2).2
   | @scr a2 _ _ h2 r2=>
     cases rb
     obtain⟨its2,l2,_⟩:=aF I h2.seq r2
     exact(gI I IH (Nat.lt_succ_self _) (by unfold dw at hu;omega) (SqL.of h1) r1 h2.seq r2).2
end
theorem Rep1.full {K:W.Frag}{H:Hp}{hid:bL}{v:V}{d:D}(h:Rep1 K H (vw H hid) v d):Rep K H v d:=by
 rcases h with h|⟨a,xs,ds,rfl,rfl,h1,h2⟩
 ·exact h.mono (dz _ _)
 ·exact .lst h1 (h2.mono (dz _ _))
def zR(K:W.Frag):R2:=λv u H Q=> ∃x y,Rep K H v x/\Rep K H u y/\dw x<=32/\Q (.bl (dg x y)) H
def AD(K:W.Frag):R2:=λv u H Q=> ∃x y,Rep K H v x/\Rep K H u y/\dw x<=32/\Q (.bl (!dg x y)) H
theorem eT {X:Cx}(hu:X.A.units+64<cLine):iu X (compareOp .Eq) (zR X.K):=by
 intro ae s σ H x y v u Q I rx ry h;obtain⟨dx,dy,p1,p2,hd,q⟩:=h
 exact yW I (by omega) (by omega) rx ry p1 p2 X.prog X.w _ _ ⟨.bl _,H,I,rfl,q⟩
theorem gE {X:Cx}(hu:X.A.units+64<cLine):iu X (compareOp .NotEq) (AD X.K):=by
 intro ae s σ H x y v u Q I rx ry h;obtain⟨dx,dy,p1,p2,hd,q⟩:=h
 exact sO I (by omega) (by omega) rx ry p1 p2 X.prog X.w _ _ ⟨.bl _,H,I,rfl,q⟩
def fF:D->D->Option D:=λx y=>if dw x<=32 then some (.bl (dg x y)) else none
def ge:D->D->Option D:=λx y=>if dw x<=32 then some (.bl (!dg x y)) else none
theorem gm {K:W.Frag}:jU K .s (zR K) fF:=by
 intro H hid v u x y d Q hf h r1 r2 q;unfold fF at h;split at h
 ·cases h;exact⟨x,y,r1.full,r2.full, ‹_›,q _ H (Same.refl _) .bl⟩
 ·cases h
theorem jq {K:W.Frag}:jU K .s (AD K) ge:=by
 intro H hid v u x y d Q hf h r1 r2 q;unfold ge at h;split at h
 ·cases h;exact⟨x,y,r1.full,r2.full, ‹_›,q _ H (Same.refl _) .bl⟩
 ·cases h
section
variable {X:Cx}{c:Ct}{e o:Expr}{k:Kd}{f g:FE}{pos p p2:Pos}
def ik:List D->Option (List Bool)
 | []=>some []
 | .bl b::r=>(ik r).map (b:: ·)
 |_=>none
theorem nO: ∀ {ds:List D} {bs:List Bool} {i:Nat} {d:D},ik ds=some bs->ds[i]? =some d-> ∃b,d=.bl b/\bs[i]? =some b
 | [],_,_,_,_,h=>by simp at h
 |x::r,bs,i,d,h,e=>by
  cases x with
  |bl b=>
   unfold ik at h;cases e1:ik r with
   |none=>rw[e1] at h;cases h
   |some rs=>
    rw[e1] at h;cases h;cases i with
    |zero=>simp at e;subst e;exact⟨b,rfl,rfl⟩
    |succ i=>
     obtain⟨b',h1,h2⟩:=nO (i:=i) e1 (by simpa using e)
     exact⟨b',h1,by simpa using h2⟩
  |_=>cases h
theorem nB: ∀ {ds:List D} {bs:List Bool},ik ds=some bs->ds.length=bs.length
 | [],_,h=>by cases h;rfl
 |x::r,bs,h=>by
  cases x with
  |bl b=>
   unfold ik at h;cases e1:ik r with
   |none=>rw[e1] at h;cases h
   |some rs=>rw[e1] at h;cases h;simp[nB e1]
  |_=>cases h
theorem sA(bs:List Bool):(List.range bs.length).any (λi=>bs.getD i false)=bs.any id:=by
 induction bs with
 |nil=>rfl
 |cons b bs ih=>
  rw[List.length_cons,List.range_succ_eq_map,List.any_cons,List.any_map,List.any_cons];rw[show((λi=>(b::bs).getD i false)∘Nat.succ)=λi=>bs.getD i false by funext i;simp[List.getD],ih]
  rfl
theorem o5 {ae:List (Addr×Obj)}{σ:St}{H:Hp}{s:Shared}{a:Addr}{xs:List V}{ds:List D}{bs:List Bool}(I:Inv X ae σ H s)(h1:SqL X.K H a xs)(h2:Reps X.K H xs ds)(hb:ik ds=some bs)(hc:X.calm=true){E:Value->Shared->Prop}{R:Value->Shared->Prop}
 (hR: ∀(J:Addr) (s2:Shared) (its:Array Value) (hl:its.size=bs.length),Walks X.prog X.w X.A.in1 J [J,a] [J] its.size (λi v=>its[i]? =some v) (λi h=>h.IsListIter J a i/\h.IsList a its)->s2.heap.IsListIter J a 0->s2.heap.IsList a its->TruthOf X.prog X.w X.A.in1 (λi v=>its[i]? =some v) (λi=>bs.getD i false)->
   (∀h' tk,(∀b o,b∉ [J]->s2.heap.get? b=some o->h'.get? b=some o)->Inv X ae σ H {s2 with heap:=h',toks:=tk})->R (.ref J) s2):wpAny (model X.prog X.w) X.A.in1 (pyIter (.ref a)) R E s:=by
 obtain⟨its,rv,pl,hz⟩:=I.list h1
 have l1:=rv.length
 have l2:=h2.length
 have l3:=nB hb
 have hlt:a<s.heap.objs.size:=by obtain⟨o,n,e,_⟩:=pl;exact Heap.lt_size e
 refine wpAny_pyIter_list pl.isList (hR s.heap.objs.size _ its.toArray (by simp;omega) (Walks.list (A:=X.A.in1) (I.ok.hd hc) _ a (Nat.ne_of_lt hlt) its.toArray) ⟨_,Heap.get?_push_size _ rfl,rfl,rfl⟩ ?_ ?_ ?_)
 ·obtain⟨o,ho,q⟩:=pl.isList
  exact⟨o,Heap.get?_push_of_some _ ho,q⟩
 ·intro i v s' Q E hv hq
  have hv':its[i]? =some v:=by simpa using hv
  have hi:=(List.getElem?_eq_some_iff.mp hv').1
  have ex:xs[i]? =some xs[i]:=List.getElem?_eq_getElem (by omega)
  obtain⟨u,e1,r1⟩:=rv.get ex
  rw[hv'] at e1;cases e1;obtain⟨d,e2,r2⟩:=h2.get' ex
  obtain⟨b,rfl,e3⟩:=nO hb e2
  rcases hx:xs[i] with _|_|_|_|_|_|_|_<;>rw[hx] at r1 r2<;>cases r2
  cases r1
  have:bs.getD i false=b:=by simp[List.getD,e3]
  dsimp only at hq;rw[this] at hq;exact wpAny_truthy_bool hq
 ·intro h' tk hk
  refine I.kept λb o e=>hk b o (λhm=>?_) (Heap.get?_push_of_some _ e)
  have:b=s.heap.objs.size:=by simpa using hm
  exact absurd (this▸Heap.lt_size e) (Nat.lt_irrefl _)
theorem nl(hc:X.calm=true):er X (.builtin "any") (λxs H Q=> ∃a ys ds bs,xs=[.ref a]/\SqL X.K H a ys/\Reps X.K H ys ds/\ik ds=some bs/\Q (.bl (bs.any id)) H):=by
 intro ae s σ H xs us Q I r h;obtain⟨a,ys,ds,bs,rfl,h1,h2,h3,q⟩:=h
 obtain⟨u,rfl,rx⟩:=iL r
 cases rx
 refine call_any_walk (o5 I h1 h2 h3 hc λJ s2 its hl W st1 st2 tr kp=>?_)
 refine⟨J,_,_,_,_,_,_,rfl,W,⟨st1,st2⟩,tr,λh' tk hk=>⟨.bl _,H,kp h' tk hk,rfl,?_⟩⟩
 rw[hl,sA];exact q
def mq:List D->Option D
 | [.lst ds]=>(ik ds).map λbs=>.bl (bs.any id)
 |_=>none
theorem uf:gB X.K .s (λxs H Q=> ∃a ys ds bs,xs=[.ref a]/\SqL X.K H a ys/\Reps X.K H ys ds/\ik ds=some bs/\Q (.bl (bs.any id)) H) mq:=by
 intro H hid vs ds d Q hf h r q;unfold mq at h;split at h
 ·rename_i zs
  cases e1:ik zs with
  |none=>rw[e1] at h;cases h
  |some bs=>
   rw[e1] at h;cases h;obtain⟨x,rfl,r1⟩:=Reps1.one r
   obtain⟨a,xs,rfl,h1,h2⟩:=r1.lst
   exact⟨a,xs,zs,bs,rfl,h1,h2.mono (dz _ _),e1,q _ H (Same.refl _) .bl⟩
 ·cases h
def hJ:List D->Option (List Int)
 | []=>some []
 | .int b::r=>(hJ r).map (b:: ·)
 |_=>none
theorem iI: ∀ {ds:List D} {ns:List Int},hJ ds=some ns->ds=ns.map D.int
 | [],_,h=>by cases h;rfl
 |x::r,bs,h=>by
  cases x with
  |int b=>
   unfold hJ at h;cases e1:hJ r with
   |none=>rw[e1] at h;cases h
   |some rs=>rw[e1] at h;cases h;simp[iI e1]
  |_=>cases h
end
end L2
namespace PySem.SeqAt
open AutoSeq1 (wpAny_loadPart')
open MeetsSeq MeetsSeq2 MeetsSeq3 SeqRoads2
end PySem.SeqAt
namespace L2
open PySem PySem.Spec PyProof.Rows
section
variable {X:Cx}{c:Ct}{e o:Expr}{k k2:Kd}{f g:FE}{pos p p2 apos:Pos}
theorem ls:er X (.type "range") (λxs H Q=> ∃j:Int,xs=[.int j]/\ ∀p,H p=none->Q (.ref p) (bf H p (.rng 0 j))):=by
 intro ae s σ H xs us Q I r h;obtain⟨j,rfl,q⟩:=h
 obtain⟨u,rfl,t,rfl⟩:=iL r
 refine call_range_1 ⟨.ref s.heap.objs.size,_,I.laid (λb o e=>Heap.get?_push_of_some _ e) (Nat.le_refl _) ?_,rfl,q _ (I.hok.fresh (Nat.le_refl _))⟩
 exact⟨_,_,_,Heap.get?_push_size _ rfl⟩
theorem rX:er X (.type "range") (λxs H Q=> ∃i j:Int,xs=[.int i,.int j]/\ ∀p,H p=none->Q (.ref p) (bf H p (.rng i j))):=by
 intro ae s σ H xs us Q I r h;obtain⟨i,j,rfl,q⟩:=h
 obtain⟨u,w',rfl,⟨t,rfl⟩,⟨t',rfl⟩⟩:=tU r
 refine call_range_2 ⟨.ref s.heap.objs.size,_,I.laid (λb o e=>Heap.get?_push_of_some _ e) (Nat.le_refl _) ?_,rfl,q _ (I.hok.fresh (Nat.le_refl _))⟩
 exact⟨_,_,_,Heap.get?_push_size _ rfl⟩
theorem xo(lo:Int)(n:Nat): ∀ {K:W.Frag} {F:Hp},Reps K F ((List.range n).map λ(i:Nat)=>V.int (lo+i)) (oJ lo n):=by
 intro K F;unfold oJ
 generalize List.range n=l
 induction l with
 |nil=>exact .nil
 |cons a l ih=>exact .cons .int ih
theorem gY(hc:X.calm=true):er X (.type "list") (λxs H Q=> ∃p lo hi,xs=[.ref p]/\H p=some (.rng lo hi)/\ -(2^30)<=lo/\lo<=2^30/\ -(2^30)<=hi/\hi-lo<=1000000/\hi<=2^31/\ ∀l,H l=none->Q (.ref l) (bf H l (.lst ((List.range (hi-lo).toNat).map λ(i:Nat)=>V.int (lo+i))))):=by
 intro ae s σ H xs us Q I r h;obtain⟨p,lo,hi,rfl,hp,b1,b2,b3,b4,b5,q⟩:=h
 obtain⟨u,rfl,rx⟩:=iL r
 cases rx
 obtain⟨t,u,v,hr⟩:=I.hok p _ hp
 have hsz:Builtin.Range.rangeSize lo hi 1=(hi-lo).toNat:=by
  unfold Builtin.Range.rangeSize;rw[if_pos (by decide)]
  split
  ·rw[Int.ediv_one];omega
  ·omega
 refine call_list_range (a:=lo) (b:=hi) (c:=1) (n:=(hi-lo).toNat) (I.ok.hd hc) hr ?_ hsz (by omega) λh' tk acc' c' kp hS hacc=>?_
 ·exact small_one (by omega) (by omega) (by omega) (by omega)
 ·have hz:(hi-lo).toNat<=sizeLine:=by rw[sizeLine_eq];omega
  refine⟨.ref s.heap.objs.size,_,I.laid (t':=tk) kp (Nat.le_refl _) (show ObjOk X.prog X.w _ h' _ (.lst _) from⟨by simpa using hz,acc'.toList,c',?_,by simpa using hS⟩),rfl,q _ (I.hok.fresh (Nat.le_refl _))⟩
  obtain⟨ha,hb⟩:=hacc
  have key: ∀(l:List Value) (k m:Nat),l.length=m->(∀(j:Nat) v,l[j]? =some v-> ∃t,v=.int (lo+((k+j:Nat):Int)*1) t)->Vals ((List.range' k m).map λ(i:Nat)=>V.int (lo+i)) l:=by
   intro l
   induction l with
   |nil=>intro k m hm _;subst hm;exact .nil
   |cons x l ih=>
    intro k m hm hv;subst hm;rw[List.length_cons,List.range'_succ];refine .cons ?_ (ih (k+1) l.length rfl λj v e=>?_)
    ·obtain⟨t,rfl⟩:=hv 0 x rfl
     exact⟨t,by simp⟩
    ·obtain⟨t,rfl⟩:=hv (j+1) v (by simpa using e)
     exact⟨t,by congr 3;omega⟩
  have:=key acc'.toList 0 (hi-lo).toNat (by simpa using ha) λj v e=>by
   have:=hb j v (by simpa using e)
   simpa using this
  rw[List.range_eq_range'];exact this
def wT:D->Option D
 | .int j=>if j.natAbs<=1000000 then some (.lst (oJ 0 j.toNat)) else none
 |_=>none
def kH(f:FE):FE:=λρ=>(f ρ).bind wT
theorem fB(hc:X.calm=true)(hml:X.mg "list"=none)(hmr:X.mg "range"=none)(he:DP X c k e f)(hgl:Gl X "list":=by rfl)(hgr:Gl X "range":=by rfl)(hvl:bootBuiltins "list"=some (.type "list"):=by kernel_rfl)(hvr:bootBuiltins "range"=some (.type "range"):=by kernel_rfl)
 (hs1:starEach [e] X.env=(false,eval e X.env)::starEach [] X.env:=by rfl) (hpl1:(backTo pos (starEach [] X.env)).any (·.1)=false:=by rfl) (hpl2:(backTo p2 (starEach [] X.env)).any (·.1)=false:=by rfl) {p3:Pos}
 (hs2:starEach [.Call (.Name "range" p3) [e] [] p2] X.env=(false,eval (.Call (.Name "range" p3) [e] [] p2) X.env)::starEach [] X.env:=by rfl):
 DP X c .n (.Call (.Name "list" p) [.Call (.Name "range" p3) [e] [] p2] [] pos) (kH f):=λhid ρ=>
 PE.imp (eN (gY hc) hgl hml hvl (bp (eN ls hgr hmr hvr (bp (he hid ρ) cO hs1) (by decide) (by decide) hs1 hpl2) cO hs2) (by decide) (by decide) hs2 hpl1) λσ H Q hq_=>by
  obtain⟨sr,d,hd,q⟩:=hq_
  unfold kH at hd;cases e1:f ρ with
  |none=>rw[e1] at hd;cases hd
  |some z=>
   rw[e1] at hd;have hd:wT z=some d:=hd
   unfold wT at hd;split at hd
   ·split at hd
    ·rename_i _ j _ _
     cases hd
     refine⟨sr,_,e1,λv H1 s1 r1=>?_⟩
     have b1:=(RK.b k r1 λa n=>sr.fresh n).int
     cases b1
     refine⟨j,rfl,λr hr=>?_⟩
     refine⟨r,0,j,rfl,ax,by omega,by omega,by omega,by omega,by omega,λl hl=>?_⟩
     have s2:Same H (bf H1 r (.rng 0 j)):=s1.trans (aU hr _)
     refine q _ _ (s2.trans (aU hl _)) ?_
     have:=ia (hid:=hid) (K:=X.K) hl s2 (xo 0 (j-0).toNat)
     rw[show(j-0).toNat=j.toNat by omega] at this⊢
     exact this
    ·cases hd
   ·cases hd
def aL:=i2 (λ_ _=>true) λi j=>.int (i+j)
def bS:=i2 (λ_ _=>true) λi j=>.int (i-j)
def cA:=i2 (λi j=>decide (i.natAbs<2^1000)&&decide (j.natAbs<2^1000)) λi j=>.int (i*j)
def ba:=i2 (λ_ j=>decide (0<j)) λi j=>.int (i % j)
def da:=i2 (λ_ j=>decide (0<j)&&decide (j.natAbs<2^1000)) λi j=>.int (i / j)
def cE:=i2 (λi j=>decide (0<=j)&&decide (j<=1000000)&&decide (i.natAbs<2^64)) λi j=>.int (i^j.toNat)
def zF:=i2 (λ_ _=>true) λi j=>.bl (decide (i<j))
def sK:=i2 (λ_ _=>true) λi j=>.bl (decide (i<=j))
def kG:=i2 (λ_ _=>true) λi j=>.bl (decide (j<i))
def A4:=i2 (λ_ _=>true) λi j=>.bl (decide (j<=i))
theorem qG {i:Int}(h:i.natAbs<2^1000):Builtin.Int.intBits i<=2^20:=by
 unfold Builtin.Int.intBits;split
 ·exact Nat.zero_le _
 ·rename_i hz
  have h0:i.natAbs≠0:=by simp at hz;omega
  have:=(Nat.log2_lt h0).mpr h
  omega
theorem wt:iu X (binaryOp .Mult) (rI IntMulOk λi j=>.int (i*j)):=AQ λ_ _ _ _ _ _ _ hc q=>mul_int q hc
variable {a b:Expr}
theorem bJ {k1 k2:Kd}(ha:DP X c k1 a f)(hb:DP X c k2 b g):DP X c .s (.BinOp a .Add b pos) (ai aL f g):=j7 sL uS ha hb
theorem du {k1 k2:Kd}(ha:DP X c k1 a f)(hb:DP X c k2 b g):DP X c .s (.BinOp a .Sub b pos) (ai bS f g):=j7 x9 uS ha hb
theorem y0 {K:W.Frag}:jU K .s (rI IntMulOk λi j=>.int (i*j)) cA:=wd λi j h=>by
 simp only[Bool.and_eq_true,decide_eq_true_eq] at h;exact IntMulOk.of_bits (qG h.1) (qG h.2)
theorem gv {k1 k2:Kd}(ha:DP X c k1 a f)(hb:DP X c k2 b g):DP X c .s (.BinOp a .Mult b pos) (ai cA f g):=j7 wt y0 ha hb
theorem yy {K:W.Frag}:jU K .s (rI (λ_ j=>0<j) λi j=>.int (i % j)) ba:=wd λi j h=>by simpa using h
theorem cP {k1 k2:Kd}(ha:DP X c k1 a f)(hb:DP X c k2 b g):DP X c .s (.BinOp a .Mod b pos) (ai ba f g):=j7 yp yy ha hb
theorem ug:iu X (binaryOp .FloorDiv) (rI (λ_ j=>0<j/\j.natAbs<2^1000) λi j=>.int (i / j)):=AQ λi j _ _ _ _ _ hc q=>by
 obtain⟨h1,h2⟩:=hc
 refine floordiv_int (by omega) (by rw[Int.fdiv_eq_ediv_of_nonneg i (by omega)];exact q) (.inl (PyProof.noPylong_of_log2 ?_))
 have:=(Nat.log2_lt (n:=j.natAbs) (by omega)).mpr h2
 omega
theorem vn {K:W.Frag}:jU K .s (rI (λ_ j=>0<j/\j.natAbs<2^1000) λi j=>.int (i / j)) da:=wd λi j h=>by
 simp only[Bool.and_eq_true,decide_eq_true_eq] at h;exact⟨h.1,h.2⟩
theorem iz {k1 k2:Kd}(ha:DP X c k1 a f)(hb:DP X c k2 b g):DP X c .s (.BinOp a .FloorDiv b pos) (ai da f g):=j7 ug vn ha hb
theorem x6 {K:W.Frag}:jU K .s (rI Ay λi j=>.int (i^j.toNat)) cE:=wd λi j h=>by
 simp only[Bool.and_eq_true,decide_eq_true_eq] at h;exact⟨h.1.1,h.1.2,h.2⟩
theorem gq {k1 k2:Kd}(ha:DP X c k1 a f)(hb:DP X c k2 b g):DP X c .s (.BinOp a .Pow b pos) (ai cE f g):=j7 yG x6 ha hb
theorem mj {f g:GE}(ha:DE X c .s a f)(hb:DE X c .s b g):DE X c .s (.BinOp a .Add b pos) (hZ aL f g):=zK sL uS ha hb
def xR:D->Option D
 | .int i=>some (.int (-i))
 |_=>none
def ut(f:FE):FE:=λρ=>(f ρ).bind xR
theorem wP(ha:DP X c k a f):DP X c .s (.UnaryOp .USub a pos) (ut f):=λhid ρ=>PE.imp (Ap za (ha hid ρ)) λσ H Q hq_=>by
 obtain⟨sr,d,hd,q⟩:=hq_
 unfold ut at hd;cases e1:f ρ with
 |none=>rw[e1] at hd;cases hd
 |some z=>
  rw[e1] at hd;have hd:xR z=some d:=hd
  unfold xR at hd;split at hd
  ·cases hd
   refine⟨sr,_,e1,λv H1 s1 r1=>?_⟩
   cases (RK.b k r1 λa n=>sr.fresh n).int
   exact⟨_,rfl,q _ H1 s1 .int⟩
  ·cases hd
def gU:List D->Option D
 | [.int i]=>some (.int i)
 | [.bl b]=>some (.int (if b then 1 else 0))
 |_=>none
theorem oO:gB X.K .s (λxs H Q=>(∃i,xs=[.int i]/\Q (.int i) H)\/ ∃k,xs=[.bl k]/\Q (.int (if k then 1 else 0)) H) gU:=by
 intro H hid vs ds d Q hf h r q;unfold gU at h;split at h
 ·cases h
  obtain⟨x,rfl,r1⟩:=Reps1.one r
  cases r1.int
  exact .inl ⟨_,rfl,q _ H (Same.refl _) .int⟩
 ·cases h
  obtain⟨x,rfl,r1⟩:=Reps1.one r
  cases r1.bl
  exact .inr ⟨_,rfl,q _ H (Same.refl _) .int⟩
 ·cases h
end
structure Cl(P:Program)(w:World)(K:W.Frag)(mg:Str->Option Value)(base:Heap)(k:Nat)(x:Str)(ps:List Str)(sp:Sp):Prop where
 ex: ∃f fd,FnOk P w K mg base lG k f fd ps sp/\mg x=some (.ref f)/\W.keepIn K (.ref f)=true/\Binds K fd ps []
structure Df(K:W.Frag)(mg:Str->Option Value)(x:Str)(st:Stmt)(ps:List Str):Prop where
 ex: ∃f fd,Fun K x x st f fd/\mg x=some (.ref f)/\Binds K fd ps []
section
variable {P:Program}{w:World}{K:W.Frag}{mg:Str->Option Value}{base:Heap}{x:Str}{st:Stmt}{N ps:List Str}{k n:Nat}{t:FS}{kd:Kd}
theorem dm(F:Df K mg x st ps)(S:FnScope N ps (aq st))(hkd:kd≠ .b)(hn:ps.length=n)
 (body: ∀(f:Addr) (cdv:Value) (A:Around) (outer:List Env) (s:Shared) (H:Hp) (hid:bL) (E:XK),Room k (A.deeper (envOfC x (aq st) s.heap.objs.size f cdv))->
   oP (ji lG P w K mg base N x (aq st) f cdv A outer s H E).nox ⟨H,hid,λ_=>false⟩ kd (aQ st) t):
 Cl P w K mg base (k+1) x ps (gV K kd n (iw kd N.length t)):=by
 obtain⟨f,fd,F,hm,hb⟩:=F.ex
 subst hn;exact⟨f,fd,qU F S hkd (body f),hm,F.kp,hb⟩
theorem mM(F:Df K mg x st ps)(S:FnScope N ps (aq st))(hkd:kd≠ .b)(hn:ps.length=n+1)
 (body: ∀(f:Addr) (cdv:Value) (A:Around) (outer:List Env) (s:Shared) (H:Hp) (hid:bL) (a:Addr) (E:XK),Room k (A.deeper (envOfC x (aq st) s.heap.objs.size f cdv))->
   oP (ji lG P w K mg base N x (aq st) f cdv A outer s H E).nox ⟨H,hid,λb=>decide (b=a)⟩ kd (aQ st) t):
 Cl P w K mg base (k+1) x ps (oI K kd n (oK kd N.length t)):=by
 obtain⟨f,fd,F,hm,hb⟩:=F.ex
 exact⟨f,fd,zq F S hkd hn (body f),hm,F.kp,hb⟩
end
section
variable {X:Cx}{c:Ct}{e a b:Expr}{es rest:List Expr}{k:Kd}{pos p:Pos}{x:Str}{ps:List Str}{j n:Nat}
def nF(n:Nat)(P:List D->Option D):List D->Option D:=λds=>if ds.length=n then P ds else none
theorem fO {P:List D->Option D}{fs:FA}(C:Cl X.prog X.w X.K X.mg X.base j x ps (gV X.K k n P))(hr:Room j X.A)
 (ha:DA X c (e::es) fs) (hg:Gl X x:=by rfl) (hdb:(x==("__debug__":Str))=false:=by decide) (he:starEach (e::es) X.env=(false,eval e X.env)::starEach es X.env:=by rfl) (hpl:(backTo pos (starEach es X.env)).any (·.1)=false:=by rfl):
 DP X c k (.Call (.Name x p) (e::es) [] pos) (aj (nF n P) fs):=by
 obtain⟨f,fd,F,hm,hk,hb⟩:=C.ex
 exact wB F hr hm hk hb ha hg hdb he hpl
theorem eS(i:Nat){y:Str}{py:Pos}{M:List D->List D->Option (D×List D)}{fs:GA}(C:Cl X.prog X.w X.K X.mg X.base j x ps (oI X.K k n M))(hr:Room j X.A)
 (ha:DG X c es fs) (hkb:k≠ .b:=by decide) (hN:X.N[i]? =some y:=by rfl) (hv:m5 X.env.scope y:=by first|exact Or.inl rfl|exact Or.inr (Or.inl rfl)|exact Or.inr (Or.inr rfl)) (hd:(y==("__debug__":Str))=false:=by decide)
 (hcd:(y==("__classdict__":Str))=false:=by decide) (hs:starEach (.Name y py::es) X.env=(false,eval (.Name y py) X.env)::starEach es X.env:=by rfl) (hg:Gl X x:=by rfl) (hdb:(x==("__debug__":Str))=false:=by decide) (hpl:(backTo pos (starEach es X.env)).any (·.1)=false:=by rfl):
 DE X c k (.Call (.Name x p) (.Name y py::es) [] pos) (aN i n M fs):=by
 obtain⟨f,fd,F,hm,hk,hb⟩:=C.ex
 exact tN i F hr hm hk hb ha hkb hN hv hd hcd hs hg hdb hpl
end
open PySem PySem.W PyProof.Rows
structure Od(b:Nat->Nat->Bool):Prop where
 tr: ∀ {i j k:Nat},b j i=false->b k j=false->b k i=false
 as: ∀ {i j:Nat},b i j=true->b j i=false
theorem Od.rf {b:Nat->Nat->Bool}(O:Od b)(i:Nat):b i i=false:=by
 cases h:b i i with
 |false=>rfl
 |true=>have:=O.as h;rw[h] at this;exact this
structure Pm(N:Nat)(p:Array Nat):Prop where
 perm:p.Perm (List.toArray (List.range N))
theorem Pm.size {N:Nat}{p:Array Nat}(h:Pm N p):p.size=N:=by rw[h.perm.size_eq];simp
theorem Pm.lt {N:Nat}{p:Array Nat}(h:Pm N p)(hN:0<N)(k:Nat):p.getD k 0<N:=by
 by_cases hk:k<p.size
 ·have e:p.getD k 0=p[k]:=by simp[Array.getD,hk]
  rw[e];have:p[k]∈(List.toArray (List.range N)):=h.perm.mem_iff.mp (Array.getElem_mem hk)
  simpa using this
 ·have e:p.getD k 0=0:=by simp[Array.getD,hk]
  rw[e];exact hN
theorem nM {p q:Array Nat}{i j:Nat}(h:p[i]? =q[j]?):p.getD i 0=q.getD j 0:=by
 rw[Array.getD_eq_getD_getElem?,Array.getD_eq_getD_getElem?,h]
section
variable {b:Nat->Nat->Bool}{N:Nat}{cmp:Nat->Nat->(Bool->Shared->Prop)->Shared->Prop}{s:Shared}
def Srt(b:Nat->Nat->Bool)(p:Array Nat)(n:Nat):Prop:= ∀i j,i<=j->j<n->b (p.getD j 0) (p.getD i 0)=false
def Fal(b:Nat->Nat->Bool)(p:Array Nat)(n:Nat):Prop:= ∀i j,i<=j->j<n->b (p.getD i 0) (p.getD j 0)=false
theorem Srt.succ(O:Od b){p:Array Nat}{n:Nat}(h:Srt b p n)(hn:1<=n)(e:b (p.getD n 0) (p.getD (n-1) 0)=false):Srt b p (n+1):=λi j hij hj=>by
 by_cases h1:j<n
 ·exact h i j hij h1
 ·have:j=n:=by omega
  subst this
  by_cases h2:i=j
  ·subst h2;exact O.rf _
  ·exact O.tr (h i (j-1) (by omega) (by omega)) e
theorem Fal.succ(O:Od b){p:Array Nat}{n:Nat}(h:Fal b p n)(hn:1<=n)(e:b (p.getD (n-1) 0) (p.getD n 0)=false):Fal b p (n+1):=λi j hij hj=>by
 by_cases h1:j<n
 ·exact h i j hij h1
 ·have:j=n:=by omega
  subst this
  by_cases h2:i=j
  ·subst h2;exact O.rf _
  ·exact O.tr e (h i (j-1) (by omega) (by omega))
theorem Fal.congr(O:Od b){p q:Array Nat}{n:Nat}(h:Fal b p n)(e: ∀k,k<n->b (p.getD k 0) (q.getD k 0)=false/\b (q.getD k 0) (p.getD k 0)=false):Fal b q n:=λi j hij hj=>
 O.tr (O.tr (e j hj).1 (h i j hij hj)) (e i (by omega)).2
theorem vK(O:Od b)(p:Array Nat):Srt b p 1:=λi j hij hj=>by
 have:i=j:=by omega
 subst this;exact O.rf _
theorem vu(O:Od b)(p:Array Nat):Fal b p 1:=λi j hij hj=>by
 have:i=j:=by omega
 subst this;exact O.rf _
theorem iS {p:Array Nat}{i j:Nat}(hj:j<=p.size)(k:Nat):(kas_rev p i j).getD k 0=if i<=k/\k<j then p.getD (i+j-1-k) 0 else p.getD k 0:=by
 have:=getElem?_mirror_all (i:=i) hj k
 unfold kas_rev;split
 ·rename_i h;rw[if_pos h] at this;exact nM this
 ·rename_i h;rw[if_neg h] at this;exact nM this
theorem Pm.rev {p:Array Nat}(h:Pm N p)(i j:Nat):Pm N (kas_rev p i j):=⟨(mirror_perm _ _ _ _).trans h.perm⟩
variable(O:Od b)(hN:0<N)(hc: ∀(i j:Nat) (C:Bool->Shared->Prop),i<N->j<N->C (b i j) s->cmp i j C s)
include O hN hc
theorem pk {p:Array Nat}(P:Pm N p){Q:Nat->Shared->Prop}: ∀(f n:Nat),1<=n->n+f<=N->Srt b p n->
 (∀m,n<=m->m<=n+f->Srt b p m->(m<n+f->b (p.getD m 0) (p.getD (m-1) 0)=true)->Q m s)->(kas_asc p f n).kasWp cmp Q s
 |0,n,h1,h2,hs,q=>q n (Nat.le_refl _) (Nat.le_refl _) hs λz=>absurd z (Nat.lt_irrefl _)
 |f+1,n,h1,h2,hs,q=>by
  unfold kas_asc;refine hc _ _ _ (P.lt hN _) (P.lt hN _) ?_
  cases e:b (p.getD n 0) (p.getD (n-1) 0) with
  |true=>simp only[if_true];exact q n (Nat.le_refl _) (by omega) hs λ_=>e
  |false=>
   simp only[Bool.false_eq_true,if_false];exact pk P f (n+1) (by omega) (by omega) (hs.succ O h1 e) λm a1 a2 a3 a4=>q m (by omega) (by omega) a3 λz=>a4 (by omega)
def Eqs(b:Nat->Nat->Bool)(p:Array Nat)(n q:Nat):Prop:= ∀i,n- (q+1)<=i->i<n->b (p.getD i 0) (p.getD (n-1) 0)=false/\b (p.getD (n-1) 0) (p.getD i 0)=false
omit hN hc in
theorem Eqs.rev {p:Array Nat}{n q:Nat}(hn:n<=p.size)(hq:q<n)(h:Eqs b p n q)(k:Nat):b (p.getD k 0) ((kas_rev p (n- (q+1)) n).getD k 0)=false/\b ((kas_rev p (n- (q+1)) n).getD k 0) (p.getD k 0)=false:=by
 rw[iS hn];split
 ·rename_i hk
  have h1:=h k hk.1 hk.2
  have h2:=h (n- (q+1)+n-1-k) (by omega) (by omega)
  exact⟨O.tr h2.2 h1.1,O.tr h1.2 h2.1⟩
 ·exact⟨O.rf _,O.rf _⟩
theorem jG {Q:Array Nat×Nat×Nat->Shared->Prop}: ∀(f:Nat) (p:Array Nat) (n q:Nat),Pm N p->1<=n->n+f<=N->q<n->Fal b p n->Eqs b p n q->
 (∀p' n' q',Pm N p'->n<=n'->n'<=n+f->q'<n'->Fal b p' n'->Eqs b p' n' q'->Q (p',n',q') s)->(kas_desc f p n q).kasWp cmp Q s
 |0,p,n,q,P,h1,h2,hq,hf,he,k=>k p n q P (Nat.le_refl _) (Nat.le_refl _) hq hf he
 |f+1,p,n,q,P,h1,h2,hq,hf,he,k=>by
  have hz:=P.size
  have e0: ∀p':Array Nat,Eqs b p' (n+1) 0:=λp' i a1 a2=>by
   have:i=n:=by omega
   subst this;exact⟨O.rf _,O.rf _⟩
  unfold kas_desc;refine hc _ _ _ (P.lt hN _) (P.lt hN _) ?_
  cases e:b (p.getD n 0) (p.getD (n-1) 0) with
  |true=>
   simp only[if_true];split
   ·rename_i hq0
    have ev:=he.rev O (by omega) hq
    have hf':Fal b (kas_rev p (n- (q+1)) n) n:=hf.congr O λk _=>ev k
    refine jG f _ (n+1) 0 (P.rev _ _) (by omega) (by omega) (by omega) (hf'.succ O h1 ?_) (e0 _) λp' n' q' a1 a2 a3=>k p' n' q' a1 (by omega) (by omega)
    have e1:(kas_rev p (n- (q+1)) n).getD n 0=p.getD n 0:=by rw[iS (by omega),if_neg (by omega)]
    rw[e1];exact O.tr (O.as e) (ev (n-1)).2
   ·exact jG f p (n+1) 0 P (by omega) (by omega) (by omega) (hf.succ O h1 (O.as e)) (e0 _) λp' n' q' a1 a2 a3=>k p' n' q' a1 (by omega) (by omega)
  |false=>
   simp only[Bool.false_eq_true,if_false];refine hc _ _ _ (P.lt hN _) (P.lt hN _) ?_
   cases e2:b (p.getD (n-1) 0) (p.getD n 0) with
   |true=>simp only[if_true];exact k p n q P (Nat.le_refl _) (by omega) hq hf he
   |false=>
    simp only[Bool.false_eq_true,if_false];refine jG f p (n+1) (q+1) P (by omega) (by omega) (by omega) (hf.succ O h1 e2) (λi a1 a2=>?_) λp' n' q' b1 b2 b3=>k p' n' q' b1 (by omega) (by omega)
    rw[show n+1-1=n by omega]
    by_cases hi:i=n
    ·subst hi;exact⟨O.rf _,O.rf _⟩
    ·have z:=he i (by omega) (by omega)
     exact⟨O.tr e2 z.1,O.tr z.2 e⟩
theorem ou {p:Array Nat}(P:Pm N p){n:Nat}(h1:1<=n)(hn:n<=N)(hf:Fal b p n){Q:Nat×Array Nat->Shared->Prop}(q: ∀m p',Pm N p'->1<=m->m<=N->Srt b p' m->Q (m,p') s):(kas_tail3 n N p).kasWp cmp Q s:=by
 unfold kas_tail3;rw[KasT.kasWp_bind];have hz:=P.size
 have hs:Srt b (kas_rev p 0 n) n:=λi j hij hj=>by
  rw[iS (by omega),iS (by omega),if_pos (by omega),if_pos (by omega)]
  exact hf _ _ (by omega) (by omega)
 exact pk O hN hc (P.rev _ _) (N-n) n h1 (by omega) hs λm a1 a2 a3 _=>q m _ (P.rev _ _) (by omega) (by omega) a3
theorem jp {p:Array Nat}(P:Pm N p){n:Nat}(h1:1<=n)(hn:n+1<=N)(hf:Fal b p (n+1)){Q:Nat×Array Nat->Shared->Prop}(q: ∀m p',Pm N p'->1<=m->m<=N->Srt b p' m->Q (m,p') s):(kas_descPart n N p).kasWp cmp Q s:=by
 unfold kas_descPart;rw[KasT.kasWp_bind];refine jG O hN hc (N- (n+1)) p (n+1) 0 P (by omega) (by omega) (by omega) hf (λi a1 a2=>?_) λp' n' q' a1 a2 a3 a4 a5 a6=>?_
 ·have:i=n:=by omega
  subst this;exact⟨O.rf _,O.rf _⟩
 ·dsimp only
  have hz:=a1.size
  split
  ·exact ou O hN hc (a1.rev _ _) (by omega) (by omega) (a5.congr O λk _=>a6.rev O (by omega) a4 k) q
  ·exact ou O hN hc a1 (by omega) (by omega) a5 q
theorem uU {p:Array Nat}(P:Pm N p){Q:Nat×Array Nat->Shared->Prop}(q: ∀m p',Pm N p'->1<=m->m<=N->Srt b p' m->Q (m,p') s):(kas_count N p).kasWp cmp Q s:=by
 unfold kas_count;rw[KasT.kasWp_bind];have hz:=P.size
 refine pk O hN hc P (N-1) 1 (Nat.le_refl _) (by omega) (vK O p) λm a1 a2 a3 a4=>?_
 split
 ·exact q m p P a1 (by omega) a3
 ·rename_i hm
  have hm':m≠N:=by simpa using hm
  have lt:=a4 (by omega)
  split
  ·refine hc _ _ _ (P.lt hN _) (P.lt hN _) ?_
   cases e:b (p.getD 0 0) (p.getD (m-1) 0) with
   |true=>simp only[if_true];exact q m p P a1 (by omega) a3
   |false=>
    simp only[Bool.false_eq_true,if_false];have eq: ∀i j,i<m->j<m->b (p.getD i 0) (p.getD j 0)=false:=λi j hi hj=>O.tr (O.tr (a3 j (m-1) (by omega) (by omega)) e) (a3 0 i (by omega) hi)
    have hr: ∀i,i<m->(kas_rev p 0 m).getD i 0=p.getD (0+m-1-i) 0:=λi hi=>by rw[iS (by omega),if_pos (by omega)]
    refine jp O hN hc (P.rev _ _) a1 (by omega) (Fal.succ O (λi j hij hj=>?_) a1 ?_) q
    ·rw[hr i (by omega),hr j hj];exact eq _ _ (by omega) (by omega)
    ·have e1:(kas_rev p 0 m).getD m 0=p.getD m 0:=by rw[iS (by omega),if_neg (by omega)]
     rw[e1,hr (m-1) (by omega)]
     exact O.tr (O.as lt) (eq _ _ (by omega) (by omega))
  ·have:m=1:=by omega
   subst this;exact jp O hN hc P (Nat.le_refl _) (by omega) ((vu O p).succ O (Nat.le_refl _) (O.as lt)) q
theorem jI {p:Array Nat}(P:Pm N p){k:Nat}(hs:Srt b p k){Q:Nat->Shared->Prop}: ∀(f l r:Nat),l<=r->r<=k->r-l<=f->(∀i,i<l->b (p.getD k 0) (p.getD i 0)=false)->(∀i,r<=i->i<k->b (p.getD k 0) (p.getD i 0)=true)->
 (∀m,m<=k->(∀i,i<m->b (p.getD k 0) (p.getD i 0)=false)->(∀i,m<=i->i<k->b (p.getD k 0) (p.getD i 0)=true)->Q m s)->(kas_place p k f l r).kasWp cmp Q s
 |0,l,r,h1,h2,h3,a,c,q=>q l (by omega) a λi z=>c i (by omega)
 |f+1,l,r,h1,h2,h3,a,c,q=>by
  unfold kas_place;split
  ·exact q l (by omega) a λi z=>c i (by omega)
  ·rename_i hlr
   refine hc _ _ _ (P.lt hN _) (P.lt hN _) ?_
   cases e:b (p.getD k 0) (p.getD ((l+r) / 2) 0) with
   |true=>
    simp only[if_true];refine jI P hs f l _ (by omega) (by omega) (by omega) a (λi z1 z2=>?_) q
    cases e2:b (p.getD k 0) (p.getD i 0) with
    |true=>rfl
    |false=>
     have:=O.tr (hs ((l+r) / 2) i z1 z2) e2
     rw[e] at this;exact this.symm
   |false=>
    simp only[Bool.false_eq_true,if_false];exact jI P hs f _ r (by omega) (by omega) (by omega) (λi z=>O.tr (hs i ((l+r) / 2) (by omega) (by omega)) e) c q
omit hN hc in
theorem pE {p:Array Nat}{k m:Nat}(hk:k<p.size)(hs:Srt b p k)(hm:m<=k)(a: ∀i,i<m->b (p.getD k 0) (p.getD i 0)=false)(c: ∀i,m<=i->i<k->b (p.getD k 0) (p.getD i 0)=true):Srt b (bubble p k (k-m)) (k+1):=by
 have g: ∀j,(bubble p k (k-m)).getD j 0=if j=m then p.getD k 0 else if m<j/\j<=k then p.getD (j-1) 0 else p.getD j 0:=λj=>by
  have:=getElem?_bubble hk (k-m) (by omega) j
  rw[show k- (k-m)=m by omega] at this
  by_cases h:j=m
  ·rw[if_pos h] at this⊢;exact nM this
  ·rw[if_neg h] at this⊢
   by_cases h2:m<j/\j<=k
   ·rw[if_pos h2] at this⊢;exact nM this
   ·rw[if_neg h2] at this⊢;exact nM this
 intro i j hij hj;rw[g,g]
 by_cases ej:j=m
 ·rw[if_pos ej]
  by_cases ei:i=m
  ·rw[if_pos ei];exact O.rf _
  ·rw[if_neg ei,if_neg (by omega)];exact a i (by omega)
 ·rw[if_neg ej]
  by_cases ei:i=m
  ·rw[if_pos ei,if_pos (by omega)];exact O.as (c _ (by omega) (by omega))
  ·rw[if_neg ei]
   by_cases hj2:m<j/\j<=k
   ·rw[if_pos hj2]
    by_cases hi2:m<i/\i<=k
    ·rw[if_pos hi2];exact hs _ _ (by omega) (by omega)
    ·rw[if_neg hi2];exact hs _ _ (by omega) (by omega)
   ·rw[if_neg hj2,if_neg (by omega)];exact hs _ _ hij (by omega)
theorem uw {Q:Array Nat->Shared->Prop}: ∀(f:Nat) (p:Array Nat) (k:Nat),Pm N p->1<=k->k+f=N->Srt b p k->(∀p',Pm N p'->Srt b p' N->Q p' s)->(kas_bin f p k).kasWp cmp Q s
 |0,p,k,P,h1,h2,hs,q=>q p P (by rw[<-h2];exact hs)
 |f+1,p,k,P,h1,h2,hs,q=>by
  unfold kas_bin;rw[KasT.kasWp_bind];have hz:=P.size
  refine jI O hN hc P hs k 0 k (Nat.zero_le _) (Nat.le_refl _) (by omega) (λi z=>absurd z (by omega)) (λi z1 z2=>absurd z2 (by omega)) λm a1 a2 a3=>?_
  exact uw f _ (k+1) ⟨(bubble_perm _ _ _).trans P.perm⟩ (by omega) (by omega) (pE O (by omega) hs a1 a2 a3) q
theorem qo {Q:Array Nat->Shared->Prop}(q: ∀p,Pm N p->Srt b p N->Q p s):(kas_sort N).kasWp cmp Q s:=by
 unfold kas_sort;rw[KasT.kasWp_bind];refine uU O hN hc ⟨Array.Perm.refl _⟩ λm p' P h1 h2 hs=>?_
 dsimp only;split
 ·exact uw O hN hc _ p' _ P (by omega) (by omega) (by rw[show max m 1=m by omega];exact hs) q
 ·have:m=N:=by omega
  subst this;exact q p' P hs
end
open PySem PySem.W PySem.Calls PyProof.Rows
section
variable {prog:Program}{w:World}{A:Around}{E:Value->Shared->Prop}{s:Shared}
theorem pL {a:Addr}{us:List Value}{n:Nat}{P:PySem.Fin->Shared->Prop}(ho:s.heap.get? a=some (seqObj "list" us.toArray n))(hz:us.length<64)
 (few:us.length<2->P (.done (.ret .none)) {s with heap:=sortedHeap s.heap a us us.toArray})
 (many:2<=us.length-> ∀g:Heap,(∀c o,c≠a->s.heap.get? c=some o->g.get? c=some o)->wpAny (model prog w) A (keyKind' us.toArray) (λκ t=>t={s with heap:=g}/\
   (kas_sort us.length).kasWp (kas_ask prog w A κ us) (λp t'=>t'=t/\P (.done (.ret .none)) {s with heap:=sortedHeap s.heap a us (List.toArray (p.toList.map λi=>us.getD i Value.none))}) t) (λ_ _=>False) {s with heap:=g}):
 wpAny (model prog w) A (Builtin.«list.sort» ⟨[.ref a],[]⟩) P E s:=by
 have la:a<s.heap.objs.size:=Heap.lt_size ho
 have z1:us.toArray.size<=sizeLine:=by rw[List.size_toArray,sizeLine_eq];omega
 obtain⟨c1,h1⟩: ∃c,(s.heap.update a (Obj.mapSeq λ_=> #[])).get? a=some (seqObj "list" #[] c):=⟨_,get?_update_seq ho (λ_=> #[])⟩
 have h2:(((s.heap.update a (Obj.mapSeq λ_=> #[])).push (seqObj "tuple" us.toArray 0)).push (seqObj "list" #[] 0)).get? a=some (seqObj "list" #[] c1):=Heap.get?_push_of_some _ (Heap.get?_push_of_some _ h1)
 have kp: ∀c o,c≠a->s.heap.get? c=some o->(((s.heap.update a (Obj.mapSeq λ_=> #[])).push (seqObj "tuple" us.toArray 0)).push (seqObj "list" #[] 0)).get? c=some o:=λc o nc e=>
  Heap.get?_push_of_some _ (Heap.get?_push_of_some _ (by rw[Heap.get?_update_ne _ _ _ _ nc];exact e))
 rw[list_sort_plain];refine wpAny_bind (listItems_at ho rfl (wpAny_bind (listUpdate_at ho rfl ?_ z1 (Nat.zero_le _))))
 refine wpAny_bind (seqEpoch_at h1 rfl (wpAny_bind (wpAny_newTuple ?_ (show us.length<=_ by rw[sizeLine_eq];omega))))
 refine wpAny_bind (wpAny_newList (wpAny_holding ?_) (Nat.zero_le _))
 show wpAny (model prog w) A _ P E {s with heap:=((s.heap.update a (Obj.mapSeq λ_=> #[])).push (seqObj "tuple" us.toArray 0)).push (seqObj "list" #[] 0)}
 dsimp only
 by_cases hs:us.toArray.size<2
 ·rw[if_pos hs,if_pos hs]
  refine wpAny_bind (wpAny_pure ?_)
  rw[StateT.run_pure];refine wpAny_bind (wpAny_pure ?_)
  dsimp only;have ea:Array.map (λx=>x.2) (us.toArray.zip us.toArray)=us.toArray:=by
   apply Array.toList_inj.mp
   simp[List.map_snd_zip]
  refine wpAny_bind (seqEpoch_at h2 rfl (wpAny_bind (listUpdate_at h2 rfl ?_ (Nat.zero_le _) ?_)))
  ·simp only[bne_self_eq_false,Bool.false_eq_true,if_false]
   refine wpAny_pure ?_
   have:=few (by simpa using hs)
   show P _ {s with heap:=sortedHeap s.heap a us (Array.map (λx=>x.2) (us.toArray.zip us.toArray))}
   rw[ea];exact this
  ·show(Array.map (λx=>x.2) (us.toArray.zip us.toArray)).size<=_
   rw[ea];exact Nat.le_succ_of_le z1
 ·rw[if_neg hs,if_neg hs]
  have h2':2<=us.length:=by simpa using hs
  refine wpAny_bind (wpAny_mono (many h2' _ kp) (λκ t ⟨et,ht⟩=>?_) λ_ _ x=>x.elim)
  subst et;refine wpAny_bind (wpAny_mono (kat_run (ks:=us) (vs:=us) (G:=λp t'=>t'=_/\P (.done (.ret .none)) {s with heap:=sortedHeap s.heap a us (List.toArray (p.toList.map λi=>us.getD i Value.none))})
   (Q:=λst t'=>t'=_/\failedOf st=none/\ ∃p:Array Nat,p.size=us.length/\(arrOf st).map (·.2)=List.toArray (p.toList.map λi=>us.getD i Value.none)/\P (.done (.ret .none)) {s with heap:=sortedHeap s.heap a us (List.toArray (p.toList.map λi=>us.getD i Value.none))})
   rfl h2' hz (λp st t' a1 a2 a3 a4=>⟨a4.1,a3,p,a1,kat_snds rfl a2,a4.2⟩) ht) (λr t' hr=>?_) λ_ _ x=>x)
  obtain⟨u,st⟩:=r
  obtain⟨e1,hf,p,hp,ho',hP⟩:=hr
  subst e1;dsimp only at hf ho'⊢;rw[ho',hf];have zz:(List.toArray (p.toList.map λi=>us.getD i Value.none)).size<=sizeLine:=by rw[List.size_toArray,List.length_map,Array.length_toList,hp,sizeLine_eq];omega
  refine wpAny_bind (seqEpoch_at h2 rfl (wpAny_bind (listUpdate_at h2 rfl ?_ (Nat.zero_le _) (Nat.le_succ_of_le zz))))
  simp only[bne_self_eq_false,Bool.false_eq_true,if_false];exact wpAny_pure hP
theorem oY {l:Addr}{T:String}{o:Obj}{us:List Value}{n:Nat}{Q:List Value->Shared->Prop}(hT:T="list"\/T="tuple")(ho:s.heap.get? l=some o)(hc:o.cls=.type T)(hd:o.data=.seq us.toArray n)(hz:us.length<64)
 (q: ∀g:Heap,(∀b u,s.heap.get? b=some u->g.get? b=some u)->s.heap.objs.size<=g.objs.size->Q us {s with heap:=g}):wpAny (model prog w) A (collect (.ref l)) Q E s:=by
 have z:us.toArray.size<=sizeLine:=by rw[List.size_toArray,sizeLine_eq];omega
 have hN:(s.heap.push {cls:=.type "list",data:=.seq ([]:List Value).toArray}).get? s.heap.objs.size=some {cls:=.type "list",data:=.seq #[] 0}:=Heap.get?_push_size _ rfl
 have hU:=Heap.get?_update_self (Obj.mapSeq (·++us.toArray)) hN rfl
 have last:wpAny (model prog w) A (do
  match (<-load s.heap.objs.size).data with
   |Data.seq xs _=>pure xs.toList
   |_=>unsupported "internal:collect") Q E {s with heap:=(s.heap.push {cls:=.type "list",data:=.seq ([]:List Value).toArray}).update s.heap.objs.size (Obj.mapSeq (·++us.toArray))}:=by
  refine wpAny_bind (wpAny_load hU (wpAny_pure ?_))
  show Q ((#[]:Array Value)++us.toArray).toList _;rw[show((#[]:Array Value)++us.toArray).toList=us by simp]
  refine q _ (λb u e=>(Heap.get?_update_other _ _ (Nat.ne_of_gt (Heap.lt_size e))).trans (Heap.get?_push_of_some _ e)) ?_
  rw[Heap.size_update,Heap.size_push];exact Nat.le_succ _
 unfold collect;refine wpAny_bind (wpAny_runValue (codeAny_builtin F.entry_proto_collect ?_))
 rw[Around.under_plainId F.plain_proto_collect _];show wpAny _ A.in1 (newList []>>=λr=>again (.builtin "list.__iadd__" ⟨[r,.ref l],[]⟩)) _ _ s
 refine wpAny_bind (wpAny_newObj_type (wpAny_pure ⟨plainId_quiet F.plain_list_iadd _,codeAny_builtin F.entry_list_iadd ?_⟩))
 rw[Around.under_plainId F.plain_list_iadd _];show wpAny _ A.in1 (Builtin.List.listExtendWith (.ref s.heap.objs.size) (.ref l) (.ref s.heap.objs.size)) _ _ _;have ext:=wpAny_extend_seq (prog:=prog) (w:=w) (A:=A) (hsz:=z) (R:=λr t=>r=.ok (.ret (.ref s.heap.objs.size))/\t={s with heap:=(s.heap.push {cls:=.type "list",data:=.seq ([]:List Value).toArray}).update s.heap.objs.size (Obj.mapSeq (·++us.toArray))})
  (s:={s with heap:=s.heap.push {cls:=.type "list",data:=.seq ([]:List Value).toArray}}) _ l (.ref s.heap.objs.size) 0 hT hN (Heap.get?_push_of_some _ ho) hc hd ⟨rfl,rfl⟩
 refine wpAny_mono ext (λfin t h=>?_) (λe t h=>absurd h.1 (by simp))
 cases fin with
 |done f=>obtain⟨e,rfl⟩:=h;cases e;exact last
 |again c=>exact⟨h.1,codeAny_mono h.2 λr t' hr=>by obtain⟨rfl,rfl⟩:=hr;exact last⟩
theorem lR {l:Addr}{T:String}{o:Obj}{us:List Value}{n:Nat}{Q:Value->Shared->Prop}{G:List Nat->Prop}(hT:T="list"\/T="tuple")(ho:s.heap.get? l=some o)(hc:o.cls=.type T)(hd:o.data=.seq us.toArray n)(hz:us.length<64)
 (few:us.length<2->G (List.range us.length))
 (many:2<=us.length-> ∀g:Heap,(∀c o,s.heap.get? c=some o->g.get? c=some o)->wpAny (model prog w) A.in1.in1 (keyKind' us.toArray) (λκ t=>t={s with heap:=g}/\
   (kas_sort us.length).kasWp (kas_ask prog w A.in1.in1 κ us) (λp t'=>t'=t/\G p.toList) t) (λ_ _=>False) {s with heap:=g})
 (fin: ∀(g:Heap) (a e:Nat) (ix:List Nat),(∀c o,s.heap.get? c=some o->g.get? c=some o)->s.heap.objs.size<=a->G ix->g.get? a=some (seqObj "list" (List.toArray (ix.map λi=>us.getD i Value.none)) e)->Q (.ref a) {s with heap:=g}):
 wpAny (model prog w) A (call (.builtin "sorted") [.ref l]) Q E s:=by
 refine Calls.call_function_entry kind_sorted plain_sorted entry_sorted (args_sorted1 _) ?_
 unfold Builtin.«sorted»;refine wpAny_bind (m:=checkCount "sorted" 1 1 _) (wpAny_pure (wpAny_bind (oY hT ho hc hd hz λg kg sg=>?_)))
 refine wpAny_bind (wpAny_newList ?_ (by rw[sizeLine_eq];omega))
 have hL:(g.push (seqObj "list" us.toArray 0)).get? g.objs.size=some (seqObj "list" us.toArray 0):=Heap.get?_push_size _ rfl
 show wpAny _ _ _ _ _ {s with heap:=g.push (seqObj "list" us.toArray 0)}
 have end_: ∀ix:List Nat,G ix->Q (.ref g.objs.size) {s with heap:=sortedHeap (g.push (seqObj "list" us.toArray 0)) g.objs.size us (List.toArray (ix.map λi=>us.getD i Value.none))}:=λix hG=>by
  obtain⟨e,he⟩:=sortedHeap_at (out:=List.toArray (ix.map λi=>us.getD i Value.none)) hL
  refine fin _ g.objs.size e ix (λc u hu=>?_) sg hG he
  have lt:=Heap.lt_size (kg c u hu)
  rw[sortedHeap_old (Nat.ne_of_lt lt) (by rw[size_push'];exact Nat.lt_succ_of_lt lt)]
  exact Heap.get?_push_of_some _ (kg c u hu)
 refine wpAny_bind (wpAny_holding (wpAny_call_entry slot_list_sort ⟨_,hL,rfl⟩ entry_list_sort (pL (P:=λf t=> ∃v,f=.done (.ret v)/\wpAny (model prog w) A.in1 (pure (PySem.Fin.done (.ret (Value.ref g.objs.size)))) (λf t=> ∃v,f=.done (.ret v)/\Q v t) E t) hL hz (λh=>?_) (λh g' kg'=>?_)) (args_list_sort _)))
 ·have e:=end_ (List.range us.length) (few h)
  rw[show(List.range us.length).map (λi=>us.getD i Value.none)=us from List.ext_getElem? λi=>by
   by_cases hi:i<us.length
   ·simp[hi]
   ·simp[hi]] at e
  exact⟨_,rfl,wpAny_pure ⟨_,rfl,e⟩⟩
 ·refine wpAny_mono (many h g' λc u hu=>kg' c u (Nat.ne_of_lt (Heap.lt_size (kg c u hu))) (Heap.get?_push_of_some _ (kg c u hu))) (λκ t ⟨et,ht⟩=>⟨et,?_⟩) λ_ _ x=>x
  rw[kat_ask_eq rfl] at ht⊢;exact kas_wp_mono ht λp t' ⟨e1,hG⟩=>⟨e1,_,rfl,wpAny_pure ⟨_,rfl,end_ _ hG⟩⟩
end
open PySem PySem.W PySem.Spec PyProof.Rows
def dI:List Int->List Int->Bool
 |_,[]=>false
 | [],_::_=>true
 |x::xs,y::ys=>if x=y then dI xs ys else decide (x<y)
def tY(x y:Int):Bool:=decide (x<y)
structure Lt {α:Type}(lt:α->α->Bool):Prop where
 tr: ∀ {a b c:α},lt b a=false->lt c b=false->lt c a=false
 as: ∀ {a b:α},lt a b=true->lt b a=false
 eq: ∀ {a b:α},lt a b=false->lt b a=false->a=b
theorem ze:Lt tY:=⟨λh1 h2=>by simp only[tY,decide_eq_false_iff_not] at*;omega,λh=>by simp only[tY,decide_eq_false_iff_not,decide_eq_true_eq] at*;omega,λh1 h2=>by simp only[tY,decide_eq_false_iff_not] at*;omega⟩
theorem p6: ∀ {a b:List Int},dI a b=true->dI b a=false
 | [],[],h=>by simp[dI] at h
 |x::xs,[],h=>by simp[dI] at h
 | [],y::ys,h=>by simp[dI]
 |x::xs,y::ys,h=>by
  unfold dI at h⊢
  by_cases e:x=y
  ·subst e;simp only[if_true] at h⊢;exact p6 h
  ·rw[if_neg e] at h;rw[if_neg (Ne.symm e)];simp only[decide_eq_true_eq,decide_eq_false_iff_not] at*;omega
theorem qT: ∀ {a b:List Int},dI a b=false->dI b a=false->a=b
 | [],[],_,_=>rfl
 |x::xs,[],_,h=>by simp[dI] at h
 | [],y::ys,h,_=>by simp[dI] at h
 |x::xs,y::ys,h,h'=>by
  unfold dI at h h'
  by_cases e:x=y
  ·subst e;simp only[if_true] at h h';rw[qT h h']
  ·rw[if_neg e] at h;rw[if_neg (Ne.symm e)] at h';simp only[decide_eq_false_iff_not] at*;omega
theorem qp: ∀ {a b c:List Int},dI b a=false->dI c b=false->dI c a=false
 | [],_,_,_,_=>by unfold dI;rfl
 |x::xs,[],_,h,_=>by simp[dI] at h
 |x::xs,y::ys,[],_,h=>by simp[dI] at h
 |x::xs,y::ys,z::zs,h1,h2=>by
  unfold dI at h1 h2⊢
  by_cases e1:y=x
  ·subst e1
   simp only[if_true] at h1
   by_cases e2:z=y
   ·subst e2;simp only[if_true] at h2⊢;exact qp h1 h2
   ·rw[if_neg e2] at h2⊢;exact h2
  ·rw[if_neg e1] at h1
   by_cases e2:z=y
   ·subst e2;rw[if_neg e1];exact h1
   ·rw[if_neg e2] at h2
    simp only[decide_eq_false_iff_not] at h1 h2;rw[if_neg (by omega)]
    simp only[decide_eq_false_iff_not];omega
theorem Ar:Lt dI:=⟨qp,p6,qT⟩
def pF {α:Type}(lt:α->α->Bool)(x:α):List α->List α
 | []=>[x]
 |y::r=>if lt x y=true then x::y::r else y::pF lt x r
def eP {α:Type}(lt:α->α->Bool):List α->List α
 | []=>[]
 |x::r=>pF lt x (eP lt r)
section
variable {α:Type}{lt:α->α->Bool}
theorem iY(x:α): ∀l:List α,(pF lt x l).Perm (x::l)
 | []=>.refl _
 |y::r=>by
  unfold pF;split
  ·exact .refl _
  ·exact((iY x r).cons y).trans (.swap _ _ _)
theorem gC: ∀l:List α,(eP lt l).Perm l
 | []=>.refl _
 |x::r=>(iY x _).trans ((gC r).cons x)
theorem qJ(O:Lt lt)(x:α): ∀ {l:List α},l.Pairwise (λa b=>lt b a=false)->(pF lt x l).Pairwise (λa b=>lt b a=false)
 | [],_=>by simp[pF]
 |y::r,h=>by
  obtain⟨h1,h2⟩:=List.pairwise_cons.mp h
  unfold pF;split
  ·rename_i e
   refine List.pairwise_cons.mpr ⟨λz hz=>?_,h⟩
   rcases List.mem_cons.mp hz with rfl|hz
   ·exact O.as e
   ·exact O.tr (O.as e) (h1 z hz)
  ·rename_i e
   refine List.pairwise_cons.mpr ⟨λz hz=>?_,qJ O x h2⟩
   rcases List.mem_cons.mp ((iY x r).mem_iff.mp hz) with rfl|hz
   ·simpa using e
   ·exact h1 z hz
theorem ll(O:Lt lt): ∀l:List α,(eP lt l).Pairwise (λa b=>lt b a=false)
 | []=>.nil
 |x::r=>qJ O x (ll O r)
theorem lO(O:Lt lt){l l':List α}(p:l'.Perm l)(s:l'.Pairwise (λa b=>lt b a=false)):l'=eP lt l:=
 List.Perm.eq_of_pairwise (λa b _ _ h1 h2=>O.eq h2 h1) s (ll O l) (p.trans (gC l).symm)
theorem j9(ts:List α)(d:α):(List.range ts.length).map (λi=>ts.getD i d)=ts:=List.ext_getElem? λi=>by
 by_cases hi:i<ts.length
 ·simp[hi]
 ·simp[hi]
theorem jn(O:Lt lt){ts:List α}{d:α}{p:Array Nat}(P:Pm ts.length p)(S:Srt (λi j=>lt (ts.getD i d) (ts.getD j d)) p ts.length):p.toList.map (λi=>ts.getD i d)=eP lt ts:=by
 refine lO O ?_ ?_
 ·have h1:p.toList.Perm (List.range ts.length):=by simpa using (Array.perm_iff_toList_perm.mp P.perm)
  have h2:=h1.map (λi=>ts.getD i d)
  rw[j9] at h2;exact h2
 ·rw[List.pairwise_map,List.pairwise_iff_getElem]
  intro i j hi hj hij;have hz:=P.size
  have e:=S i j (by omega) (by simpa [hz] using hj)
  have g: ∀k (hk:k<p.toList.length),p.getD k 0=p.toList[k]:=λk hk=>by
   have:k<p.size:=by simpa using hk
   simp[Array.getD,this]
  rw[g i hi,g j hj] at e;exact e
theorem xC(O:Lt lt)(f:Nat->α):Od (λi j=>lt (f i) (f j)):=⟨λh1 h2=>O.tr h1 h2,λh=>O.as h⟩
end
def wx:D->Option (List Int)
 | .tup ds=>match hJ ds with
   |some (x::r)=>some (x::r)
   |_=>none
 |_=>none
def jM:List D->Option (List (List Int))
 | []=>some []
 |d::r=>(wx d).bind λk=>(jM r).map (k:: ·)
def wo(k:List Int):D:=.tup (k.map D.int)
def gc(ds:List D):Option (List D):=if ds.length<64 then match hJ ds with
 |some ns=>some ((eP tY ns).map D.int)
 |none=>(jM ds).map λks=>(eP dI ks).map wo else none
theorem n8(ns:List Int):hJ (ns.map D.int)=some ns:=by
 induction ns with
 |nil=>rfl
 |cons n ns ih=>show(hJ (ns.map D.int)).map (n:: ·)=_;rw[ih];rfl
theorem wz {d:D}{k:List Int}(h:wx d=some k):d=wo k/\k≠[]:=by
 unfold wx at h;split at h
 ·split at h
  ·rename_i e;cases h;rw[iI e];exact⟨rfl,by simp⟩
  ·cases h
 ·cases h
theorem km: ∀ {ds:List D} {ks:List (List Int)},jM ds=some ks->ds=ks.map wo/\ ∀k∈ks,k≠[]
 | [],_,h=>by cases h;exact⟨rfl,λ_ h=>nomatch h⟩
 |d::r,ks,h=>by
  unfold jM at h;cases e1:wx d with
  |none=>rw[e1] at h;cases h
  |some k=>
   rw[e1] at h;cases e2:jM r with
   |none=>rw[e2] at h;cases h
   |some l=>
    rw[e2] at h;cases h;obtain⟨h1,h2⟩:=wz e1
    obtain⟨h3,h4⟩:=km e2
    refine⟨by rw[h1,h3];rfl,λz hz=>?_⟩
    rcases List.mem_cons.mp hz with rfl|hz
    ·exact h2
    ·exact h4 z hz
theorem iK {α:Type}{lt:α->α->Bool}{l:List α}(h:l.length<2):eP lt l=l:=by
 match l,h with
 | [],_=>rfl
 | [_],_=>rfl
theorem lI {xs:List V}{us:List Value}(r:Vals xs us)(i:Nat):RelV (xs.getD i .non) (us.getD i Value.none):=by
 cases e:xs[i]? with
 |none=>
  have hl:=r.length
  have:us[i]? =none:=by simp at e⊢;omega
  simp[List.getD,e,this];rfl
 |some x=>
  obtain⟨u,h1,h2⟩:=r.get e
  simp[List.getD,e,h1];exact h2
theorem lA {xs:List V}{us:List Value}(r:Vals xs us): ∀ix:List Nat,Vals (ix.map λi=>xs.getD i .non) (ix.map λi=>us.getD i Value.none)
 | []=>.nil
 |i::l=>.cons (lI r i) (lA r l)
theorem lD {K:W.Frag}{F:Hp}{xs:List V}{ds:List D}(r:Reps K F xs ds)(i:Nat):Rep K F (xs.getD i .non) (ds.getD i .non):=by
 cases e:ds[i]? with
 |none=>
  have hl:=r.length
  have:xs[i]? =none:=by simp at e⊢;omega
  simp[List.getD,e,this];exact .non
 |some x=>
  obtain⟨u,h1,h2⟩:=r.get e
  simp[List.getD,e,h1];exact h2
theorem i8 {K:W.Frag}{F:Hp}{xs:List V}{ds:List D}(r:Reps K F xs ds): ∀ix:List Nat,Reps K F (ix.map λi=>xs.getD i .non) (ix.map λi=>ds.getD i .non)
 | []=>.nil
 |i::l=>.cons (lD r i) (i8 r l)
def rM:List Value->List Int->Prop:=Paired λu i=> ∃t,u=Value.int i t
theorem me {K:W.Frag}{F:Hp}: ∀ {xs:List V} {us:List Value} {ns:List Int},Vals xs us->Reps K F xs (ns.map D.int)->rM us ns
 |_,_,[],r,p=>by cases p;cases r;exact .nil
 |_,_,n::ns,r,p=>by
  cases p with
  |cons p1 p2=>cases r with
   |cons r1 r2=>cases p1;exact .cons r1 (me r2 p2)
theorem oj: ∀ {us:List Value} {ns:List Int} {i:Nat} {u:Value},rM us ns->us[i]? =some u-> ∃n,ns[i]? =some n/\ ∃t,u=Value.int n t
 |_,_,_,_,.nil,e=>by simp at e
 |_,_,0,_,.cons h _,e=>by simp at e;subst e;exact⟨_,rfl,h⟩
 |_,_,i+1,u,.cons _ r,e=>by
  obtain⟨n,h1,h2⟩:=oj (i:=i) (u:=u) r (by simpa using e)
  exact⟨n,by simpa using h1,h2⟩
section
variable {prog:Program}{w:World}{A:Around}{s:Shared}{b fin:Bool}{Q:Bool->Shared->Prop}
theorem qS: ∀ {us ws:List Value} {ns ms:List Int} (i:Nat),rM us ns->rM ws ms->fin=decide (ns.length<ms.length)->Q (dI ns ms) s->KatLex prog w A b fin Q (us.zip ws) i s
 |_,_,[],[],i,.nil,.nil,e,q=>by subst e;exact kat_nil q
 |_,_,[],m::ms,i,.nil,.cons _ _,e,q=>by subst e;simp only[List.zip_nil_left];refine kat_nil ?_;simpa [dI] using q
 |_,_,n::ns,[],i,.cons _ _,.nil,e,q=>by subst e;simp only[List.zip_nil_right];refine kat_nil ?_;simpa [dI] using q
 |_,_,n::ns,m::ms,i,.cons h1 r1,.cons h2 r2,e,q=>by
  obtain⟨t,rfl⟩:=h1
  obtain⟨t',rfl⟩:=h2
  rw[List.zip_cons_cons];refine kat_cons (wpAny_eqBool_int (kat_go (λhe=>?_) λhe=>?_))
  ·have:n=m:=by simpa using he
   subst this;refine kat_yes (qS (i+1) r1 r2 (by rw[e];simp) ?_)
   simpa [dI] using q
  ·have:n≠m:=by simpa using he
   have q':Q (decide (n<m)) s:=by simpa [dI,this] using q
   refine kat_no ?_
   cases (b&&i==0) with
   |true=>exact oneLt_int q'
   |false=>exact kat_one _ _ (lt_int q')
end
theorem om {X:Cx}:er X (.builtin "sorted") (λxs H Q=> ∃a ys ds es,xs=[.ref a]/\(SqL X.K H a ys\/SqT X.K H a ys)/\Reps X.K H ys ds/\gc ds=some es/\
 ∀(l:Addr) (ix:List Nat),H l=none->ix.length=ds.length->ix.map (λi=>ds.getD i .non)=es->Q (.ref l) (bf H l (.lst (ix.map λi=>ys.getD i .non)))):=by
 intro ae s σ H xs us Q I r h;obtain⟨a,ys,ds,es,rfl,hsq,rp,hs,q⟩:=h
 obtain⟨u,rfl,rx⟩:=iL r
 cases rx
 obtain⟨its,T,o,n,rv,hT,ho,hc,hd⟩: ∃(its:List Value) (T:String) (o:Obj) (n:Nat),Vals ys its/\(T="list"\/T="tuple")/\s.heap.get? a=some o/\o.cls=.type T/\o.data=.seq its.toArray n:=by
  rcases hsq with hq|hq
  ·obtain⟨its,r',pl,hz⟩:=I.list hq
   obtain⟨o,ho,hc,n,hd⟩:=pl.isList
   exact⟨its,"list",o,n,r',.inl rfl,ho,hc,hd⟩
  ·obtain⟨its,r',pl,hz⟩:=I.tuple hq
   obtain⟨o,ho,hc,n,hd⟩:=pl
   exact⟨its,"tuple",o,n,r',.inr rfl,ho,hc,hd⟩
 have l1:=rv.length
 have l2:=rp.length
 have h64:ds.length<64:=by
  unfold gc at hs;split at hs
  ·assumption
  ·cases hs
 unfold gc at hs;rw[if_pos h64] at hs;refine lR (G:=λix=>ix.length=ds.length/\ix.map (λi=>ds.getD i .non)=es) hT ho hc hd (by omega) (λfew=>⟨by simp;omega,?_⟩) (λh2 g kg=>?_) (λg p e ix kg hp hG hg=>?_)
 ·rw[show its.length=ds.length by omega,j9]
  cases e1:hJ ds with
  |some ns=>
   rw[e1] at hs;cases hs;have:=iI e1
   subst this;rw[iK (by simp at l2;omega)]
  |none=>
   rw[e1] at hs;cases e2:jM ds with
   |none=>rw[e2] at hs;cases hs
   |some ks=>
    rw[e2] at hs;cases hs;obtain⟨h3,_⟩:=km e2
    subst h3;dsimp only;rw[iK (by simp at l2;omega)]
 ·cases e1:hJ ds with
  |some ns=>
   rw[e1] at hs;cases hs;have e0:=iI e1
   subst e0;have hv:=me rv rp
   have hl:its.length=ns.length:=by simp at l2;omega
   have gi: ∀i,i<ns.length-> ∃t,its.getD i Value.none=Value.int (ns.getD i 0) t:=λi hi=>by
    have e2:its[i]? =some its[i]:=List.getElem?_eq_getElem (by omega)
    obtain⟨m,e3,t,e4⟩:=oj hv e2
    refine⟨t,?_⟩
    simp[List.getD,e2,e3,e4]
   refine kas_kind (T:=.type "int") h2 (λv hv'=>?_) (by rfl) (by rfl) ⟨rfl,?_⟩
   ·obtain⟨i,hi,rfl⟩:=List.getElem_of_mem hv'
    obtain⟨t,e⟩:=gi i (by omega)
    have:its[i]=its.getD i Value.none:=by simp[List.getD,List.getElem?_eq_getElem hi]
    rw[this,e];exact Looks.now
   ·rw[hl]
    refine qo (b:=λi j=>tY (ns.getD i 0) (ns.getD j 0)) (xC ze _) (by omega) (λi j C hi hj hC=>?_) λp P S=>⟨rfl,?_,?_⟩
    ·obtain⟨t,e⟩:=gi i hi
     obtain⟨t',e'⟩:=gi j hj
     unfold kas_ask;rw[e,e'];exact kat_lt_int hC
    ·rw[Array.length_toList,P.size];simp
    ·have:=congrArg (List.map D.int) (jn ze P S)
     rw[<-this,List.map_map];refine List.map_congr_left λi hi=>?_
     have:i<ns.length:=by
      have:=P.perm.mem_iff.mp (Array.mem_toList_iff.mp hi)
      simpa using this
     simp[List.getD,List.getElem?_eq_getElem this]
  |none=>
   rw[e1] at hs;cases e2:jM ds with
   |none=>rw[e2] at hs;cases hs
   |some ks=>
    rw[e2] at hs;cases hs;obtain⟨h3,h4⟩:=km e2
    subst h3;have hl:its.length=ks.length:=by simp at l2;omega
    have gi: ∀i,i<ks.length-> ∃(b:Addr) (o:Obj) (ts:List Value) (n:Nat),its.getD i Value.none=.ref b/\s.heap.get? b=some o/\o.cls=.type "tuple"/\o.data=.seq ts.toArray n/\rM ts (ks.getD i []):=λi hi=>by
     have r1:=lI rv i
     have r2:=lD rp i
     have e3:(ks.map wo).getD i .non=.tup ((ks.getD i []).map D.int):=by simp[List.getD,List.getElem?_eq_getElem hi,wo]
     rw[e3] at r2
     generalize hx:ys.getD i .non=x at r1 r2
     cases r2 with
     |tup q1 q2=>
      obtain⟨ts,r',⟨o,ho,hc,n,hd⟩,_⟩:=I.tuple q1
      exact⟨_,o,ts,n,r1,ho,hc,hd,me r' q2⟩
    have kt: ∀(l:List Value) (ms:List (List Int)),l.length=ms.length->(∀i,i<ms.length-> ∃(b:Addr) (o:Obj) (ts:List Value) (n:Nat),l.getD i Value.none=.ref b/\s.heap.get? b=some o/\o.cls=.type "tuple"/\o.data=.seq ts.toArray n/\rM ts (ms.getD i []))->(∀k∈ms,k≠[])->
     ∃fs,KatTups g l fs/\fs.length=l.length/\ ∀v∈fs,∃i t,v=Value.int i t:=by
     intro l
     induction l with
     |nil=>intro ms _ _ _;exact⟨[],.nil,rfl,λ_ h=>nomatch h⟩
     |cons v l ih=>
      intro ms hl hg hk;cases ms with
      |nil=>cases hl
      |cons m ms=>
       obtain⟨fs,f1,f2,f3⟩:=ih ms (by simpa using hl) (λi hi=>by simpa using hg (i+1) (by simpa using hi)) λk hk'=>hk k (by simp[hk'])
       obtain⟨b,o,ts,n,g1,g2,g3,g4,g5⟩:=hg 0 (by simp)
       simp[List.getD] at g1 g5;subst g1;cases m with
       |nil=>exact absurd rfl (hk [] (by simp))
       |cons x xs=>
        cases g5 with
        |cons y1 y2=>
         obtain⟨t,rfl⟩:=y1
         refine⟨_,KatTups.cons (kg _ _ g2) g3 g4 (by simp;rfl) f1,by simp[f2],λv hv=>?_⟩
         rcases List.mem_cons.mp hv with rfl|hv
         ·exact⟨_,_,rfl⟩
         ·exact f3 v hv
    obtain⟨fs,f1,f2,f3⟩:=kt its ks hl gi h4
    refine kat_kind (T:=.type "int") f1 (by omega) (λv hv=>?_) (by rfl) ⟨rfl,?_⟩
    ·obtain⟨i,t,rfl⟩:=f3 v hv;exact Looks.now
    ·rw[hl]
     refine qo (b:=λi j=>dI (ks.getD i []) (ks.getD j [])) (xC Ar _) (by omega) (λi j C hi hj hC=>?_) λp P S=>⟨rfl,?_,?_⟩
     ·obtain⟨b1,o1,ts1,n1,x1,x2,x3,x4,x5⟩:=gi i hi
      obtain⟨b2,o2,ts2,n2,y1,y2,y3,y4,y5⟩:=gi j hj
      unfold kas_ask;rw[x1,y1];refine kat_lt (kg _ _ x2) x4 (kg _ _ y2) y4 ?_
      refine qS 0 x5 y5 ?_ hC
      have z1:=Paired.length x5
      have z2:=Paired.length y5
      simp[z1,z2]
     ·rw[Array.length_toList,P.size];simp
     ·have:=congrArg (List.map wo) (jn Ar P S)
      dsimp only;rw[<-this,List.map_map];refine List.map_congr_left λi hi=>?_
      have:i<ks.length:=by
       have:=P.perm.mem_iff.mp (Array.mem_toList_iff.mp hi)
       simpa using this
      simp[List.getD,List.getElem?_eq_getElem this]
 ·refine⟨.ref p,_,I.laid (t':=s.toks) kg hp (show ObjOk X.prog X.w _ g _ (.lst (ix.map λi=>ys.getD i .non)) from⟨?_,_,e,lA rv ix,hg⟩),rfl,q _ ix (I.hok.fresh hp) hG.1 hG.2⟩
  rw[List.length_map,hG.1,sizeLine_eq];omega
def ck:List D->Option D
 | [.lst ds]=>(gc ds).map D.lst
 | [.tup ds]=>(gc ds).map D.lst
 |_=>none
theorem rj {K:W.Frag}:gB K .n (λxs H Q=> ∃a ys ds es,xs=[.ref a]/\(SqL K H a ys\/SqT K H a ys)/\Reps K H ys ds/\gc ds=some es/\
 ∀(l:Addr) (ix:List Nat),H l=none->ix.length=ds.length->ix.map (λi=>ds.getD i .non)=es->Q (.ref l) (bf H l (.lst (ix.map λi=>ys.getD i .non)))) ck:=by
 intro H hid vs ds d Q hf h r q;unfold ck at h;split at h
 ·rename_i zs
  cases e:gc zs with
  |none=>rw[e] at h;cases h
  |some es=>
   rw[e] at h;cases h;obtain⟨x,rfl,r1⟩:=Reps1.one r
   obtain⟨a,xs,rfl,h1,h2⟩:=r1.lst
   refine⟨a,xs,zs,es,rfl,.inl h1,h2.mono (dz _ _),e,λl ix hl _ he=>q _ _ (aU hl _) (ia hl (Same.refl _) ?_)⟩
   rw[<-he];exact i8 h2 ix
 ·rename_i zs
  cases e:gc zs with
  |none=>rw[e] at h;cases h
  |some es=>
   rw[e] at h;cases h;obtain⟨x,rfl,r1⟩:=Reps1.one r
   obtain⟨a,xs,rfl,_,h1,h2⟩:=r1.tup
   refine⟨a,xs,zs,es,rfl,.inr h1,h2.mono (dz _ _),e,λl ix hl _ he=>q _ _ (aU hl _) (ia hl (Same.refl _) ?_)⟩
   rw[<-he];exact i8 h2 ix
 ·cases h
section
variable {X:Cx}{c:Ct}{e a b:Expr}{es rest:List Expr}{f g:GE}{fs:GA}{k:Kd}{pos p:Pos}{x:Str}{id T:String}{r:List V->Hp->VK->Prop}{F:List D->Option D}{ps:List Str}{j n:Nat}
def pZ(fs:GA):GE:=λρ=>(fs ρ).bind λq=>if q.1.length<=sizeLine then some (.lst q.1,q.2) else none
theorem rO {ρ ρ':aB}{d:D}(h:pZ fs ρ=some (d,ρ')): ∃ds,fs ρ=some (ds,ρ')/\ds.length<=sizeLine/\d=.lst ds:=by
 unfold pZ at h;cases e:fs ρ with
 |none=>rw[e] at h;cases h
 |some q=>
  rw[e] at h;dsimp only[Option.bind] at h;split at h
  ·cases h;exact⟨q.1,rfl, ‹_›,rfl⟩
  ·cases h
theorem yw(h:DG X c es fs):DE X c .n (.List es pos) (pZ fs):=λhid ρ=>PE.imp (mL (h hid ρ)) λσ H Q hq_=>by
 obtain⟨sr,d,ρ',hd,q⟩:=hq_
 obtain⟨ds,e1,hz,rfl⟩:=rO hd
 exact⟨sr,ds,ρ',e1,λvs H1 k1 s1 r1=>⟨by rw[r1.length];exact hz,λp hp=>q _ _ (PostE.left k1 (s1.post (k:=.n) (aU hp _) (ia hp (Same.refl _) r1) (by decide)))⟩⟩
def jL(F:List D->Option D)(fs:GA):GE:=λρ=>(fs ρ).bind λq=>(F q.1).map λd=>(d,q.2)
theorem pg {F:List D->Option D}{ρ ρ':aB}{d:D}(h:jL F fs ρ=some (d,ρ')): ∃ds,fs ρ=some (ds,ρ')/\F ds=some d:=by
 unfold jL at h;cases e:fs ρ with
 |none=>rw[e] at h;cases h
 |some q=>
  rw[e] at h;dsimp only[Option.bind] at h;cases e2:F q.1 with
  |none=>rw[e2] at h;cases h
  |some z=>rw[e2] at h;cases h;exact⟨q.1,rfl,e2⟩
theorem zt {P:List D->Option D}(C:Cl X.prog X.w X.K X.mg X.base j x ps (gV X.K k n P))(hr:Room j X.A)
 (ha:DG X c (e::es) fs) (hkb:k≠ .b:=by decide) (hg:Gl X x:=by rfl) (hdb:(x==("__debug__":Str))=false:=by decide) (he:starEach (e::es) X.env=(false,eval e X.env)::starEach es X.env:=by rfl) (hpl:(backTo pos (starEach es X.env)).any (·.1)=false:=by rfl):
 DE X c k (.Call (.Name x p) (e::es) [] pos) (jL (nF n P) fs):=by
 obtain⟨f,fd,F,hm,hk,hb⟩:=C.ex
 exact λhid ρ=>PE.imp (mI F hr hg hm hk hb .nil (sT (X:=X)) (ha hid ρ) hdb he hpl) λσ H Q hq_=>by
  obtain⟨sr,d,ρ',hd,q⟩:=hq_
  obtain⟨ds,e1,e2⟩:=pg hd
  unfold nF at e2;split at e2
  ·refine⟨sr,ds,ρ',e1,λvs H1 k1 s1 r1=>?_⟩
   show gV X.K k n P (vs++[]) H1 Q E0;rw[List.append_nil];exact⟨hid,ds,s1.trk,r1, ‹_›,d,e2,λv H' s2 r2=>q v H' (PostE.left k1 (s1.post s2 r2 hkb))⟩
  ·cases e2
end
end L2
namespace PySem
open Sem (wp)
open AutoSeq1 (wpAny_loadPart')
section
variable {prog:Program}{w:World}{A:Around}{E:Value->Shared->Prop}{s:Shared}
theorem j4 {it t:Addr}{i:Nat}{us}{x:Value}{Q:Value->Shared->Prop}(hit:s.heap.IsTupleIter it t i)(ht:s.heap.IsTuple t us)(hx:us[i]? =some x)
 (hQ: ∀g,g.IsTupleIter it t (i+1)->Heap.SameBut it s.heap g->Q x {s with heap:=g}):wpAny (model prog w) A (Builtin.SmallTypes.nextOf (.ref it)) Q E s:=by
 obtain⟨o,ho,hc,hd⟩:=id hit
 obtain⟨ot,hot,_,nt,hdt⟩:=ht
 unfold Builtin.SmallTypes.nextOf;refine wpAny_bind (wpAny_callSpecial?_slot (name:=Str.ofString "__next__") hit.typeIs F.slot_tuple_iterator_next (wpAny_call_entry F.slot_tuple_iterator_next hit.typeIs F.entry_tuple_iterator_next (show wpAny _ _ (field (.ref it) 0>>=_) _ _ s from wpAny_bind (wpAny_field ho hd (x:=.ref t) rfl ?_)) (F.args_tuple_iterator_next_1 _)))
 show wpAny _ _ (if(Value.ref t==Value.none)=true then _ else _) _ _ s
 rw[if_neg (show¬((Value.ref t==Value.none)=true) from Bool.false_ne_true)];refine(show wpAny _ _ (field (.ref it) 1>>=_) _ _ s from wpAny_bind (wpAny_field ho hd (x:=.int i 0) rfl (show wpAny _ _ (seqItems? (.ref t)>>=_) _ _ s from wpAny_bind (wpAny_seqItems hot hdt ?_))))
 simp only[Int.toNat_natCast,hx];exact wpAny_bind (wpAny_setField ho hd (by simp) (wpAny_pure ⟨x,rfl,wpAny_pure (hQ _ ⟨_,Heap.get?_update_self _ ho (Obj.isFreed_of_fields (Obj.data_mapFields hd _)),(Obj.cls_mapFields ..).trans hc,by rw[Obj.data_mapFields hd];simp[rawInt]⟩ (Heap.SameBut.update ..))⟩))
theorem kM {it t:Addr}{i:Nat}{us}{Q:Value->Shared->Prop}(hh:A.handled=none)(hit:s.heap.IsTupleIter it t i)(ht:s.heap.IsTuple t us)(hx:us[i]? =none)
 (hE: ∀g e,Heap.ExtBut it s.heap g->(∃o,g.get? e=some o/\o.cls=.type "StopIteration")->E (.ref e) {s with heap:=g}):wpAny (model prog w) A (Builtin.SmallTypes.nextOf (.ref it)) Q E s:=by
 obtain⟨o,ho,hc,hd⟩:=id hit
 obtain⟨ot,hot,_,nt,hdt⟩:=ht
 unfold Builtin.SmallTypes.nextOf;refine wpAny_bind (wpAny_callSpecial?_slot (name:=Str.ofString "__next__") hit.typeIs F.slot_tuple_iterator_next (wpAny_call_entry F.slot_tuple_iterator_next hit.typeIs F.entry_tuple_iterator_next (show wpAny _ _ (field (.ref it) 0>>=_) _ _ s from wpAny_bind (wpAny_field ho hd (x:=.ref t) rfl ?_)) (F.args_tuple_iterator_next_1 _)))
 show wpAny _ _ (if(Value.ref t==Value.none)=true then _ else _) _ _ s
 rw[if_neg (show¬((Value.ref t==Value.none)=true) from Bool.false_ne_true)];refine(show wpAny _ _ (field (.ref it) 1>>=_) _ _ s from wpAny_bind (wpAny_field ho hd (x:=.int i 0) rfl (show wpAny _ _ (seqItems? (.ref t)>>=_) _ _ s from wpAny_bind (wpAny_seqItems hot hdt ?_))))
 simp only[Int.toNat_natCast,hx];refine wpAny_bind (wpAny_rule (wpAny_bind (wpAny_setField ho hd (by simp) (show wpAny _ _ (newExc (.type "StopIteration") []>>=_) _ _ _ from wpAny_bind ?_))))
 simp only[newExc,newTuple];refine wpAny_bind (wpAny_newObj_type ?_ (by size_fits))
 refine wpAny_bind (m:=firstArgMember _ _) (wpAny_of_eq (a:=Value.none) (by first|rfl|(simp only[firstArgMember];rfl)) (wpAny_newObj_type ?_ (by size_fits)))
 simp only[raiseNew];refine wpAny_bind (wpAny_handled ?_)
 first|rw[show A.in1.handled=none from hh]|rw[hh]
 exact wpAny_bind (wpAny_pure (wpAny_throw (hE _ _ (((Heap.SameBut.update ..).extBut.push _).push _) ⟨_,Heap.get?_push_size _ rfl,rfl⟩)))
theorem mE {e it:Addr}{i:Nat}{x old:Value}{N:Heap->Prop}{Q:Option Value->Shared->Prop}(he:IsEnum s.heap e it i old)(hne:e≠it)(hNk: ∀g g',N g->(∀o,g.get? it=some o->g'.get? it=some o)->N g')
 (nx: ∀(A':Around) (Q':Value->Shared->Prop) (E':Value->Shared->Prop),(∀g,N g->Heap.SameBut it s.heap g->Q' x {s with heap:=g})->wpAny (model prog w) A' (Builtin.SmallTypes.nextOf (.ref it)) Q' E' s)
 (hQ: ∀g,IsEnumOut g e it ((i:Int)+1) x s.heap.objs.size->N g->g.get? s.heap.objs.size=some {cls:=.type "tuple",data:=.seq #[.int i s.toks,x]}->g.objs.size=s.heap.objs.size+1->
   (∀b o,b≠e->b≠it->s.heap.get? b=some o->g.get? b=some o)->Q (some (.ref s.heap.objs.size)) {s with heap:=g,toks:=s.toks+1}):wpAny (model prog w) A (pyNext (.ref e)) Q E s:=by
 have hT:s.TypeIs (.ref e) "enumerate":=⟨_,he,rfl⟩
 unfold pyNext;refine wpAny_bind (wpAny_attempt (wpAny_callSpecial?_slot (name:=Str.ofString "__next__") hT F.slot_enumerate_next (wpAny_call_entry F.slot_enumerate_next hT F.entry_enumerate_next ?_ (F.args_enumerate_next_1 _))))
 obtain⟨hp,gn,dr,tk,os⟩:=s
 refine(show wpAny _ _ (field (.ref e) 2>>=_) _ _ _ from wpAny_bind (wpAny_field he rfl (x:=.ref it) rfl (wpAny_bind (nx _ _ _ λg₁ n₁ b₁=>?_))))
 replace b₁:Heap.SameBut it hp g₁:=b₁
 have e₁:IsEnum g₁ e it i old:=(b₁.2 e hne).trans he
 refine(show wpAny _ _ (field (.ref e) 3>>=_) _ _ ⟨g₁,gn,dr,tk,os⟩ from wpAny_bind (wpAny_field e₁ rfl (x:=rawInt i) rfl ?_))
 refine(show wpAny _ _ (field (.ref e) 4>>=_) _ _ ⟨g₁,gn,dr,tk,os⟩ from wpAny_bind (wpAny_field e₁ rfl (x:=.none) rfl ?_))
 refine(show wpAny _ _ (mkInt i>>=_) _ _ ⟨g₁,gn,dr,tk,os⟩ from wpAny_bind (wpAny_mkInt ?_))
 refine(show wpAny _ _ (setField (.ref e) 3 (rawInt ((i:Int)+1))>>=_) _ _ ⟨g₁,gn,dr,tk+1,os⟩ from wpAny_bind (wpAny_setField_rec e₁ (by simp) λg₂ e₂ b₂=>?_))
 replace b₂:Heap.SameBut e g₁ g₂:=b₂
 replace e₂:IsEnum g₂ e it ((i:Int)+1) old:=e₂
 refine(show wpAny _ _ (setField (.ref e) 4 .none>>=_) _ _ ⟨g₂,gn,dr,tk+1,os⟩ from wpAny_bind (wpAny_setField_rec e₂ (by simp) λg₃ e₃ b₃=>?_))
 replace b₃:Heap.SameBut e g₂ g₃:=b₃
 replace e₃:IsEnum g₃ e it ((i:Int)+1) old:=e₃
 refine(show wpAny _ _ (newTuple [.int i tk,x]>>=_) _ _ ⟨g₃,gn,dr,tk+1,os⟩ from wpAny_bind (wpAny_newTuple ?_))
 have z₃:g₃.objs.size=hp.objs.size:=by rw[b₃.1,b₂.1,b₁.1]
 have le:e<hp.objs.size:=Heap.lt_size he
 have e₄:IsEnum (g₃.push {cls:=.type "tuple",data:=.seq #[.int i tk,x]}) e it ((i:Int)+1) old:=Heap.get?_push_of_some _ e₃
 have n₄:N (g₃.push {cls:=.type "tuple",data:=.seq #[.int i tk,x]}):=hNk _ _ n₁ λo ho=>Heap.get?_push_of_some _ (b₃.extBut _ _ (Ne.symm hne) (b₂.extBut _ _ (Ne.symm hne) ho))
 have t₄:(g₃.push {cls:=.type "tuple",data:=.seq #[.int i tk,x]}).get? hp.objs.size=some {cls:=.type "tuple",data:=.seq #[.int i tk,x]}:=by rw[<-z₃];exact Heap.get?_push_size _ rfl
 have s₄:(g₃.push {cls:=.type "tuple",data:=.seq #[.int i tk,x]}).objs.size=hp.objs.size+1:=by rw[Heap.size_push,z₃]
 have k₄: ∀b o,b≠e->b≠it->hp.get? b=some o->(g₃.push {cls:=.type "tuple",data:=.seq #[.int i tk,x]}).get? b=some o:=λb o h1 h2 h3=>Heap.get?_push_of_some _ (b₃.extBut b o h1 (b₂.extBut b o h1 (b₁.extBut b o h2 h3)))
 generalize g₃.push {cls:=.type "tuple",data:=.seq #[.int i tk,x]}=g₄ at e₄ n₄ t₄ s₄ k₄
 rw[z₃];refine(show wpAny _ _ (Builtin.SmallTypes.ownedTupleIsFree (.ref e)>>=_) _ _ ⟨g₄,gn,dr,tk+1,os⟩ from wpAny_bind ?_)
 unfold Builtin.SmallTypes.ownedTupleIsFree;refine wpAny_bind (wpAny_field e₄ rfl (x:=.none) rfl (wpAny_pure ?_))
 simp only[if_true];refine wpAny_bind (wpAny_rule (wpAny_bind (wpAny_field e₄ rfl (x:=old) rfl (wpAny_bind (wpAny_setField_rec e₄ (by simp) λg₅ e₅ b₅=>?_)))))
 replace b₅:Heap.SameBut e g₄ g₅:=b₅
 replace e₅:IsEnum g₅ e it ((i:Int)+1) x:=e₅
 refine(show wpAny _ _ (Builtin.SmallTypes.ownedTupleHandOut (.ref e) (.ref hp.objs.size)>>=_) _ _ ⟨g₅,gn,dr,tk+1,os⟩ from wpAny_bind ?_)
 unfold Builtin.SmallTypes.ownedTupleHandOut;refine wpAny_bind (wpAny_setField_rec e₅ (by simp) λg₆ e₆ b₆=>?_)
 replace b₆:Heap.SameBut e g₅ g₆:=b₆
 replace e₆:IsEnumOut g₆ e it ((i:Int)+1) x hp.objs.size:=e₆
 refine wpAny_setField_rec e₆ (by simp) λg₇ e₇ b₇=>?_
 replace b₇:Heap.SameBut e g₆ g₇:=b₇
 replace e₇:IsEnumOut g₇ e it ((i:Int)+1) x hp.objs.size:=e₇
 refine wpAny_bind (wpAny_letGo (wpAny_pure ⟨_,rfl,wpAny_pure (hQ g₇ e₇ (hNk _ _ n₄ λo ho=>?_) ?_ ?_ λb o h1 h2 h3=>?_)⟩))
 ·exact b₇.extBut _ _ (Ne.symm hne) (b₆.extBut _ _ (Ne.symm hne) (b₅.extBut _ _ (Ne.symm hne) ho))
 ·exact b₇.extBut _ _ (Nat.ne_of_gt le) (b₆.extBut _ _ (Nat.ne_of_gt le) (b₅.extBut _ _ (Nat.ne_of_gt le) t₄))
 ·rw[b₇.1,b₆.1,b₅.1,s₄]
 ·exact b₇.extBut b o h1 (b₆.extBut b o h1 (b₅.extBut b o h1 (k₄ b o h1 h2 h3)))
theorem nn {e it:Addr}{i:Nat}{old:Value}{Q:Option Value->Shared->Prop}(he:IsEnum s.heap e it i old)
 (nx: ∀(A':Around),A'.handled=A.handled-> ∀(Q':Value->Shared->Prop) (E':Value->Shared->Prop),(∀g x,Heap.ExtBut it s.heap g->(∃o,g.get? x=some o/\o.cls=.type "StopIteration")->E' (.ref x) {s with heap:=g})->wpAny (model prog w) A' (Builtin.SmallTypes.nextOf (.ref it)) Q' E' s)
 (hQ: ∀g,Heap.ExtBut it s.heap g->Q none {s with heap:=g}):wpAny (model prog w) A (pyNext (.ref e)) Q E s:=by
 have hT:s.TypeIs (.ref e) "enumerate":=⟨_,he,rfl⟩
 unfold pyNext;refine wpAny_bind (wpAny_attempt (wpAny_callSpecial?_slot (name:=Str.ofString "__next__") hT F.slot_enumerate_next (wpAny_call_entry F.slot_enumerate_next hT F.entry_enumerate_next (show wpAny _ _ (field (.ref e) 2>>=_) _ _ _ from wpAny_bind (wpAny_field he rfl (x:=.ref it) rfl (wpAny_bind (nx A.in1 rfl _ _ λg x k hx=>?_)))) (F.args_enumerate_next_1 _))))
 obtain⟨o,ho,hc⟩:=hx
 exact wpAny_bind (wpAny_isInstance (T:="StopIteration") (b:=true) ⟨o,ho,hc⟩ isSubtype_stop (wpAny_pure (hQ _ k)))
end
set_option maxHeartbeats 1000000 in
theorem mG(l:Addr)(us:Array Value)(n:Nat)(dct:Option Addr)(sl:Array (Option Value)):
 Meets (Builtin.«enumerate.__new__» ⟨[.type "enumerate",.ref l],[]⟩) (λ_ R s=>s.heap.get? l=some {cls:=.type "tuple",dict:=dct,data:=.seq us n,slots:=sl}/\
  R (.ok (.ret (.ref (s.heap.push {cls:=.type "tuple_iterator",data:=.fields #[.ref l,.int 0 0]}).objs.size)))
   {s with heap:=(s.heap.push {cls:=.type "tuple_iterator",data:=.fields #[.ref l,.int 0 0]}).push {cls:=.type "enumerate",data:=.fields #[.none,.bool false,.ref s.heap.objs.size,rawInt 0,.none,.none]}}):=
 .of_wp λprog w A R s h=>by
  obtain⟨hp,g,d,tk,os⟩:=s;obtain⟨hl,h⟩:=h
  have hsub:=sub_enumerate
  have hL:Heap.IsTuple (Shared.heap ⟨hp,g,d,tk,os⟩) l us:=⟨_,hl,rfl,n,rfl⟩
  wp_walk using wpAny_loadPart' hl
  refine wpAny_stack_any λst=>wpAny_pure ?_
  split
  ·rename_i c _ _ _ _ _
   cases (c==Value.type "enumerate")
   ·wp_walk using wpAny_loadPart' hl,wpAny_pyIter_tuple hL
    exact⟨_,rfl,h⟩
   ·wp_walk using wpAny_loadPart' hl,wpAny_pyIter_tuple hL
    exact⟨_,rfl,h⟩
  ·wp_walk using wpAny_loadPart' hl,wpAny_pyIter_tuple hL
   exact⟨_,rfl,h⟩
section
variable {prog:Program}{w:World}{A:Around}{E:Value->Shared->Prop}{s:Shared}
theorem kN {l:Addr}{us:Array Value}{Q:Value->Shared->Prop}(hL:s.heap.IsTuple l us)
 (h: ∀g,IsEnum g (s.heap.objs.size+1) s.heap.objs.size 0 .none->g.IsTupleIter s.heap.objs.size l 0->g.objs.size=s.heap.objs.size+2->(∀b o,s.heap.get? b=some o->g.get? b=some o)->Q (.ref (s.heap.objs.size+1)) {s with heap:=g}):
 wpAny (model prog w) A (call (.type "enumerate") [.ref l]) Q E s:=by
 obtain⟨⟨cls,dct,dat,sl⟩,ho,hc,n,hd⟩:=hL
 have hc:cls=.type "tuple":=hc
 have hd:dat=.seq us n:=hd
 subst hc hd;refine callType_new F.called_enumerate (by decide) (F.typeCall_enumerate_1 _) (F.newCall_enumerate_1 _) (λobj=>F.args_object_init_2 obj _) F.entry_enumerate_new (mG l us n dct sl) ⟨ho,?_⟩
 have hz:(s.heap.push {cls:=.type "tuple_iterator",data:=.fields #[.ref l,.int 0 0]}).objs.size=s.heap.objs.size+1:=Heap.size_push ..
 show _/\_;rw[hz];have he:IsEnum ((s.heap.push {cls:=.type "tuple_iterator",data:=.fields #[.ref l,.int 0 0]}).push {cls:=.type "enumerate",data:=.fields #[.none,.bool false,.ref s.heap.objs.size,rawInt 0,.none,.none]}) (s.heap.objs.size+1) s.heap.objs.size 0 .none:=by
  have:=Heap.get?_push_size (s.heap.push {cls:=.type "tuple_iterator",data:=.fields #[.ref l,.int 0 0]}) (o:={cls:=.type "enumerate",data:=.fields #[.none,.bool false,.ref s.heap.objs.size,rawInt 0,.none,.none]}) rfl
  rw[hz] at this;exact this
 exact⟨⟨_,he,rfl⟩,h _ he ⟨_,Heap.get?_push_of_some _ (Heap.get?_push_size _ rfl),rfl,rfl⟩ (by rw[Heap.size_push,hz]) λb o x=>Heap.get?_push_of_some _ (Heap.get?_push_of_some _ x)⟩
end
end PySem
namespace L2
open PySem PySem.Spec PyProof.Rows
def B8(K:W.Frag)(a:Addr):It:=
 ⟨λi H=> ∃xs x,SqT K H a xs/\xs[i]? =some x,λi H x H'=> ∃T,x=.ref T/\H T=none/\ ∀xs,SqT K H a xs-> ∃y,xs[i]? =some y/\H'=bf H T (.tup [.int i,y]),λi H=> ∃xs,SqT K H a xs/\xs.length<=i⟩
theorem pT {P:Program}{w:World}{K:W.Frag}{es:List Expr}{x1}{pos:Pos}(a it e:Addr)(hei:e≠it):Turn P w K (.Tuple es x1 pos) (B8 K a) [e,it] e (λi h=>(∃old,IsEnum h e it i old)/\h.IsTupleIter it a i) where
 mem:=by simp
 obj:=λi h st b hb=>by
  obtain⟨⟨old,he⟩,o,ho,hc,hd⟩:=st
  rcases List.mem_cons.mp hb with rfl|hb
  ·exact⟨_,he,λv z=>by cases z⟩
  ·have:b=it:=by simpa using hb
   subst this;exact⟨o,ho,λv z=>by rw[hd] at z;cases z⟩
 keep:=λi h h' st k=>by
  obtain⟨⟨old,he⟩,hit⟩:=st
  exact⟨⟨old,k e (by simp) _ he⟩,hit.at λo x=>k it (by simp) o x⟩
 item:=by
  intro X hP hw hK hc i ae s σ H E I hf st hg;subst hP hw hK;obtain⟨xs,x,hq,hx⟩:=hg
  obtain⟨its,rv,p,hz⟩:=I.tuple hq
  obtain⟨u,hu,ru⟩:=rv.get hx
  obtain⟨⟨old,he⟩,hit⟩:=st
  obtain⟨e0,e1,e2,e3,e4,e5⟩:=hf e (by simp)
  obtain⟨f0,f1,f2,f3,f4,f5⟩:=hf it (by simp)
  have ht:s.heap.IsTuple a its.toArray:=p
  refine mE (x:=u) (N:=λg=>g.IsTupleIter it a (i+1)) he hei (λg g' n k=>n.at k) (λA' Q' E' hq'=>j4 hit ht (by simpa using hu) λg n b=>hq' g n b) λg hout hit' hT hsz hk=>⟨_,rfl,?_⟩
  refine wpAny_letOwnedTupleGo_enum hout λg' he' hs'=>?_
  have elt:e<s.heap.objs.size:=Heap.lt_size he
  have k2: ∀b o,b≠e->b≠it->s.heap.get? b=some o->g'.get? b=some o:=λb o h1 h2 h3=>(hs'.2 b h1).trans (hk b o h1 h2 h3)
  have hT':g'.get? s.heap.objs.size=some {cls:=.type "tuple",data:=.seq #[.int i s.toks,u]}:=(hs'.2 _ (Nat.ne_of_gt elt)).trans hT
  have hn:H s.heap.objs.size=none:=I.hok.fresh (Nat.le_refl _)
  have I1:Inv X ae σ (bf H s.heap.objs.size (.tup [.int i,x])) {s with heap:=g',toks:=s.toks+1}:=by
   obtain⟨oi,hoi,hci,hdi⟩:=id (show g'.IsTupleIter it a (i+1) from hit'.at λo y=>(hs'.2 it (Ne.symm hei)).trans y)
   obtain⟨os0,hos0,_⟩:=id hit
   have ilt:it<s.heap.objs.size:=Heap.lt_size hos0
   have I0:Inv X ae σ (bf H s.heap.objs.size (.tup [.int i,x])) {s with heap:=s.heap.push {cls:=.type "tuple",data:=.seq #[.int i s.toks,u]},toks:=s.toks+1}:=
    I.laid (t':=s.toks+1) (λb o q=>Heap.get?_push_of_some _ q) (Nat.le_refl _) (show ObjOk X.prog X.w _ _ _ (.tup [.int i,x]) from
     ⟨Nat.le_of_lt (gK (by simp)),[.int i s.toks,u],.cons ⟨_,rfl⟩ (.cons ru .nil),⟨_,Heap.get?_push_size _ rfl,rfl,_,rfl⟩,_,Heap.get?_push_size _ rfl,rfl⟩)
   have u1:((s.heap.push {cls:=.type "tuple",data:=.seq #[.int i s.toks,u]}).update it λ_=>oi).get? it=some oi:=Heap.get?_update_self (λ_=>oi) (Heap.get?_push_of_some _ hos0) (Obj.isFreed_of_fields hdi)
   have I1:Inv X ae σ (bf H s.heap.objs.size (.tup [.int i,x])) {s with heap:=(s.heap.push {cls:=.type "tuple",data:=.seq #[.int i s.toks,u]}).update it λ_=>oi,toks:=s.toks+1}:=
    I0.turned (t':=s.toks+1) (λb o hb q=>(Heap.get?_update_other _ _ (Ne.symm hb)).trans q) (by rw[ar (Nat.ne_of_lt ilt)];exact f0) f1 f3 f4 f5
   refine I1.turned (t':=s.toks+1) (λb o hb q=>?_) (by rw[ar (Nat.ne_of_lt elt)];exact e0) e1 e3 e4 e5
   by_cases hbi:b=it
   ·subst hbi
    have q':((s.heap.push {cls:=.type "tuple",data:=.seq #[.int i s.toks,u]}).update b λ_=>oi).get? b=some o:=q
    rw[u1] at q';cases q';exact hoi
   ·have q':((s.heap.push {cls:=.type "tuple",data:=.seq #[.int i s.toks,u]}).update it λ_=>oi).get? b=some o:=q
    rw[Heap.get?_update_other _ _ (Ne.symm hbi)] at q'
    by_cases hbT:b=s.heap.objs.size
    ·subst hbT
     rw[Heap.get?_push_size _ rfl] at q';cases q'
     exact hT'
    ·rw[Heap.get?_push_ne _ _ _ hbT] at q'
     exact k2 b o hb hbi q'
  refine⟨.ref s.heap.objs.size,bf H s.heap.objs.size (.tup [.int i,x]),I1,rfl,⟨_,rfl,hn,λys hy=>⟨x,by rw[I.tuple_inj hy hq];exact hx,rfl⟩⟩,⟨⟨u,by simpa using he'⟩,hit'.at λo y=>(hs'.2 it (Ne.symm hei)).trans y⟩,λb hb=>?_⟩
  rcases List.mem_cons.mp hb with rfl|hb
  ·rw[ar (Nat.ne_of_lt elt)];exact e0
  ·have:b=it:=by simpa using hb
   subst this;obtain⟨o,ho,_⟩:=hit
   rw[ar (Nat.ne_of_lt (Heap.lt_size ho))];exact f0
 done:=by
  intro X hP hw hK hc i ae s σ H E I hf st hg;subst hP hw hK;obtain⟨xs,hq,hx⟩:=hg
  obtain⟨its,rv,p,hz⟩:=I.tuple hq
  obtain⟨⟨old,he⟩,hit⟩:=st
  obtain⟨f0,f1,f2,f3,f4,f5⟩:=hf it (by simp)
  have hl:=rv.length
  have hh:=I.ok.hd hc
  refine nn he (λA' hA' Q' E' hq'=>kM (hA'.trans hh) hit (show s.heap.IsTuple a its.toArray from p) (by simp;omega) hq') λg k=>⟨rfl,I.turned (t':=s.toks) (λb o hb z=>k b o hb z) f0 f1 f3 f4 f5⟩
 self:=λ_ _ _ _ _ st h=>let⟨⟨_,he⟩,_⟩:=st;wpAny_pyIter_enum he h
section
variable {X:Cx}{c:Ct}{k:Kd}{es:List Expr}{x1:Nat}{tp pos p:Pos}
def pP(ds:List D):List D:=(List.range ds.length).map λ(i:Nat)=>D.tup [.int i,ds.getD i .non]
def vy(f:FE):FA:=λρ=>(f ρ).bind λd=>match d with
 | .tup ds=>some (pP ds)
 |_=>none
theorem qZ {K:W.Frag}{W:Hp}{a:Addr}{xs:List V}{ds:List D}(h1:SqT K W a xs)(h2:Reps K W xs ds):ItOk K W (B8 K a) (pP ds):=by
 have l:=h2.length
 have el:(pP ds).length=ds.length:=by simp[pP]
 refine⟨λi d H e s=>?_,λH s=>⟨_,Same.seqT s h1,by rw[el,<-l];exact Nat.le_refl _⟩⟩
 have hi:i<ds.length:=by rw[<-el];exact(List.getElem?_eq_some_iff.mp e).1
 have ex:xs[i]? =some xs[i]:=List.getElem?_eq_getElem (by omega)
 refine⟨⟨_,xs[i],Same.seqT s h1,ex⟩,λy H' ⟨T,e2,hT,e3⟩=>?_⟩
 subst e2;obtain⟨z,e4,e5⟩:=e3 _ (Same.seqT s h1)
 subst e5;refine⟨aU hT _,λhid tr sw=>?_⟩
 have hf:hid T=false:=by
  cases eh:hid T with
  |false=>rfl
  |true=>obtain⟨o,ho⟩:=tr T eh;rw[hT] at ho;cases ho
 obtain⟨d',e6,r6⟩:=h2.get' e4
 have ed:d=.tup [.int i,d']:=by
  unfold pP at e;rw[List.getElem?_map,List.getElem?_range hi] at e;have:ds.getD i .non=d':=by simp[List.getD,e6]
  rw[Option.map_some,this] at e;exact(Option.some.inj e).symm
 rw[ed];exact ku hT hf (.cons .int (.cons (r6.mono sw) .nil))
theorem uM {iter:Expr}{f:FE}(h:DP X c .s iter f)(hm:X.mg "enumerate"=none)(hg:Gl X "enumerate":=by rfl)(hs:starEach [iter] X.env=[(false,eval iter X.env)]:=by rfl):DIp X c (.Tuple es x1 tp) (.Call (.Name "enumerate" p) [iter] [] pos) (vy f):=by
 intro hid ρ ae s σ H R I hq;obtain⟨sr,ds,hd,q⟩:=hq
 unfold vy at hd;cases e1:f ρ with
 |none=>rw[e1] at hd;cases hd
 |some z=>
  rw[e1] at hd;cases z with
  |tup us=>
   cases hd
   refine Call_ (ke (u:=.type "enumerate") I hg hm (by kernel_rfl) (PyProof.Rows.callWith_type1 (cv (bp (h hid ρ) cO hs pos ae s σ H (λvs H'=> ∃v,vs=[v]/\Same H H'/\Rep X.K (vw H' hid) v (.tup us)) I ⟨sr,_,e1,λv H' s' r=>⟨v,rfl,s',r⟩⟩) λvs s1 ⟨ws,H1,I1,r1,w,e,s',r⟩=>?_) hs rfl))
   subst e;cases r1 with
   |cons ra rb=>
    cases rb
    cases r with
    |tup t1 t2=>
     cases ra
     obtain⟨its,rv,pt,hz⟩:=I1.tuple (Same.seqT (dz _ _) t1)
     refine kN (show s1.heap.IsTuple _ its.toArray from pt) λg he hit hsz hk=>?_
     refine wpAny_pyIter_enum he ⟨_,[s1.heap.objs.size+1,s1.heap.objs.size],_,_,H1,rfl,I1.kept (t':=s1.toks) λb o e=>hk b o e,pT _ _ _ (Nat.ne_of_gt (Nat.lt_succ_self _)),⟨⟨_,he⟩,hit⟩,λb hb=>?_,q _ H1 s' (qZ t1 t2)⟩
     rcases List.mem_cons.mp hb with rfl|hb
     ·exact I1.fpOk (Nat.le_succ _) (I1.hok.fresh (Nat.le_succ _))
     ·have:b=s1.heap.objs.size:=by simpa using hb
      subst this;exact I1.fpOk (Nat.le_refl _) (I1.hok.fresh (Nat.le_refl _))
  |_=>cases hd
end
open PySem PySem.W PySem.Calls PyProof.Rows
def xH {α:Type}(d:α)(n:Nat):Option α:=if n<=sizeLine then some d else none
def BX {α:Type}(d:α)(n:Nat):Option α:=if n<sizeLine then some d else none
theorem cL {α:Type}{d:α}{n:Nat}(h:n<=1000):xH d n=some d:=if_pos (Nat.le_of_lt (gK h))
theorem rD {α:Type}{d:α}{n:Nat}(h:n<=1000):BX d n=some d:=if_pos (gK h)
theorem wV(fs:FA)(ρ:aB):di fs ρ=(fs ρ).bind λds=>xH (.tup ds) ds.length:=rfl
theorem iM(fs:FA)(ρ:aB):fh fs ρ=(fs ρ).bind λds=>xH (.lst ds) ds.length:=rfl
theorem wk(fs:GA)(ρ:aB):pZ fs ρ=(fs ρ).bind λq=>xH (.lst q.1,q.2) q.1.length:=rfl
theorem tj(m:Nat)(gi:FA)(g:FG)(p:FT)(f:FE)(ρ:aB):aV m gi g p f ρ=(gi ρ).bind λds=>(xH () ds.length).bind λ_=>(bF g p f (ρ++List.replicate m .no) ds).map D.lst:=by
 unfold aV xH;congr 1;funext ds
 split<;>rfl
theorem wQ(bs:List D)(d:D):nS bs [d]=BX (.non,bs++[d]) bs.length:=rfl
theorem wc(bs:List D)(i:Int):kQ bs [.int i]=(xH () bs.length).bind λ_=>(kP bs.length i).bind λj=>(bs[j]?).map λd=>(d,bs.eraseIdx j):=by
 unfold kQ xH;dsimp only;split
 ·rename_i j e
  split at e
  ·rw[if_pos ‹_›,e];rfl
  ·cases e
 ·rename_i e
  split at e
  ·rw[if_pos ‹_›,e];rfl
  ·rw[if_neg ‹_›];rfl
def Au(ds:List D):Option (List D):=match ds with
 | [.int j]=>if j.natAbs<4000000000 then some (oJ 0 j.toNat) else none
 |_=>none
theorem ny(f:FA)(ρ:aB):aW f ρ=(f ρ).bind Au:=rfl
theorem nE {j:Int}(h:j.natAbs<=1000):Au [.int j]=some (oJ 0 j.toNat):=by
 show(if j.natAbs<4000000000 then some (oJ 0 j.toNat) else none)=_
 rw[if_pos (by omega)]
theorem bD(i j:Int):aL (.int i) (.int j)=some (.int (i+j)):=rfl
theorem dq(i j:Int):bS (.int i) (.int j)=some (.int (i-j)):=rfl
theorem qF(i j:Int):zF (.int i) (.int j)=some (.bl (decide (i<j))):=rfl
theorem jH(i j:Int):kG (.int i) (.int j)=some (.bl (decide (j<i))):=rfl
theorem qv(i j:Int):A4 (.int i) (.int j)=some (.bl (decide (j<=i))):=rfl
theorem cq {i j:Int}(h:0<j):ba (.int i) (.int j)=some (.int (i % j)):=by
 unfold ba i2;dsimp only;rw[if_pos (by simpa using h)]
theorem pz {n:Nat}(h:n<10^200):n<2^1000:=Nat.lt_of_lt_of_le h (by decide)
theorem eX {i j:Int}(h1:i.natAbs<10^200)(h2:j.natAbs<10^200):cA (.int i) (.int j)=some (.int (i*j)):=by
 unfold cA i2;dsimp only;rw[if_pos (by rw[decide_eq_true (pz h1),decide_eq_true (pz h2)];rfl)]
theorem jc {i j:Int}(h1:0<j)(h2:j.natAbs<10^200):da (.int i) (.int j)=some (.int (i / j)):=by
 unfold da i2;dsimp only;rw[if_pos (by rw[decide_eq_true h1,decide_eq_true (pz h2)];rfl)]
theorem fG {i j:Int}(h0:0<=j)(h1:j<=1000000)(h2:i.natAbs<2^64):cE (.int i) (.int j)=some (.int (i^j.toNat)):=by
 unfold cE i2;dsimp only;rw[if_pos (by rw[decide_eq_true h0,decide_eq_true h1,decide_eq_true h2];rfl)]
theorem gF {x y:D}(h:dw x<=32):fF x y=some (.bl (dg x y)):=if_pos h
theorem h9 {x y:D}(h:dw x<=32):ge x y=some (.bl (!dg x y)):=if_pos h
theorem iB(i j:Int):dg (.int i) (.int j)=decide (i=j):=by
 unfold dg;rw[Bool.eq_iff_iff];simp
theorem dX(i:Int):dw (.int i)=0:=by unfold dw;rfl
structure Bag(N:Nat)(a b:Int):Prop where
 a0:0<=a
 a1:a.natAbs<10^180
 b0:0<=b
 b1:b<=N
 lo:b≠0->a.natAbs<2147483647
abbrev aH(a b:Int):List D:=[.int a,.int b]
def mP:FS:=
 ay (dQ (be (ai zF (af 1) (aj cb (aa (af 0) (ah))))) (aX (ai aK (af 0) (af 1))) (skip))
 (aX (ao (.int 0)))
def fy:List D->Option D:=iw .s 2 mP
def uc:FS:=
 ay (aT 2 (ai ba (aj nU (aa (aj (nF 2 fy) (aa (af 0) (aa (af 1) (ah)))) (ah))) (ai cA (ai cA (ai cE (ao (.int 10)) (ao (.int 60))) (ai cE (ao (.int 10)) (ao (.int 60)))) (ai cE (ao (.int 10)) (ao (.int 60))))))
 (ay (dQ (be (ai A4 (af 2) (ai cE (ao (.int 10)) (ao (.int 18))))) (aX (fh (aa (af 2) (aa (ao (.int 0)) (ah))))) (skip))
 (ay (aT 3 (ai ba (ai aL (ai aL (af 2) (ai cA (ao (.int 7919)) (af 1))) (ao (.int 17))) (ao (.int 2147483647))))
 (ay (cY (bZ (aW (aa (aj eW (aa (aj cb (aa (af 0) (ah))) (aa (ao (.int 9)) (ah)))) (ah)))) (gN 4) (aT 3 (ai ba (ai aL (ai aL (ai cE (af 3) (ao (.int 5))) (ai ba (ai aK (af 0) (af 4)) (ao (.int 2147483629)))) (ai cA (ao (.int 31)) (af 4))) (ao (.int 2147483647)))))
 (aX (fh (aa (af 3) (aa (ao (.int 1)) (ah))))))))
def ua:List D->Option D:=iw .n 5 uc
def lX:FS:=
 ay (dQ (be (ai fF (ai aK (eD 0) (ao (.int 1))) (ao (.int 0)))) (ay (aT 2 (ai ba (ai aK (eD 0) (ao (.int 0))) (af 1)))
 (ay (dv (cN 0 (ao (.int 0))) (pu (ai da (ai aK (eD 0) (ao (.int 0))) (af 1))))
 (aX (af 2)))) (skip))
 (ay (dv (cN 0 (ao (.int 0))) (pu (ai ba (ai aL (ai aL (ai cE (ai aK (eD 0) (ao (.int 0))) (ao (.int 5))) (ai cA (ao (.int 48271)) (ai aK (eD 0) (ao (.int 1))))) (ao (.int 11))) (ao (.int 2147483647)))))
 (ay (dv (cN 0 (ao (.int 1))) (pu (ai aL (ai aK (eD 0) (ao (.int 1))) (ao (.int 1)))))
 (aX (ai ba (ai da (ai ba (ai cA (ai aK (eD 0) (ao (.int 0))) (ao (.int 69621))) (ao (.int 2147483629))) (ao (.int 8))) (af 1)))))
def cS:List D->List D->Option (D×List D):=oK .s 3 lX
def nL:FS:=
 ay (fj 2 (kH (af 1)))
 (ay (fj 3 (fh (ah)))
 (ay (sI (be (ai ge (eD 2) (fh (ah)))) (kY (aN 3 1 nS (cB (aN 2 1 kQ (cB (aN 0 1 cS (bZ (aa (aj cb (aa (eD 2) (ah))) (ah)))) (bZ (ah)))) (bZ (ah))))) 16)
 (va 3)))
def fM:List D->List D->Option (D×List D):=oK .n 4 nL
theorem cn {i m:Int}(h:0<m):0<=i % m/\i % m<m:=⟨Int.emod_nonneg _ (by omega),Int.emod_lt_of_pos _ h⟩
theorem dS {N:Nat}{a b m:Int}(B:Bag N a b)(hN:N<=1000000000)(hm:0<m)(hm2:m.natAbs<10^20): ∃d a' b',cS (aH a b) [.int m]=some (.int d,aH a' b')/\Bag (N+1) a' b'/\0<=d/\d<m:=by
 have hm3:m.natAbs<10^200:=Nat.lt_of_lt_of_le hm2 (by decide)
 by_cases hb:b=0
 ·subst hb
  refine⟨a % m,a / m,0,?_,⟨Int.ediv_nonneg B.a0 (by omega),?_,by omega,by omega,λz=>absurd rfl z⟩,cn hm⟩
  ·simp[cS,oK,lX,jY,aH,ay,dQ,be,ai,aK,eD,af,ao,gF,iB,dX,n4,kL,kP,aT,cq hm,dv,pu,jc hm hm3,cN,gp,fN,zp,aX,j5]
  ·have h1:=B.a1
   have:a / m<=a:=Int.ediv_le_self _ B.a0
   have:0<=a / m:=Int.ediv_nonneg B.a0 (by omega)
   omega
 ·have lo:=B.lo hb
  have p1:a.natAbs<2^64:=Nat.lt_trans lo (by decide)
  have p2:b.natAbs<10^200:=Nat.lt_of_lt_of_le (show b.natAbs<10^10 by have:=B.b1;have:=B.b0;omega) (by decide)
  generalize hA:(a^5+48271*b+11) % 2147483647=A
  have hA':0<=A/\A<2147483647:=by rw[<-hA];exact cn (by decide)
  have p3:A.natAbs<10^200:=Nat.lt_of_lt_of_le (show A.natAbs<10^10 by omega) (by decide)
  refine⟨A*69621 % 2147483629 / 8 % m,A,b+1,?_,⟨hA'.1,?_,by have:=B.b0;omega,by have:=B.b1;omega,λ_=>by omega⟩,cn hm⟩
  ·have c1:(48271:Int).natAbs<10^200:=Nat.lt_of_lt_of_le (show(48271:Int).natAbs<10^10 by decide) (by decide)
   have c2:(69621:Int).natAbs<10^200:=Nat.lt_of_lt_of_le (show(69621:Int).natAbs<10^10 by decide) (by decide)
   have c3:(8:Int).natAbs<10^200:=Nat.lt_of_lt_of_le (show(8:Int).natAbs<10^10 by decide) (by decide)
   have e1:cE (.int a) (.int 5)=some (.int (a^5)):=fG (by decide) (by decide) p1
   have e2:cA (.int 48271) (.int b)=some (.int (48271*b)):=eX c1 p2
   have e3: ∀i:Int,ba (.int i) (.int 2147483647)=some (.int (i % 2147483647)):=λi=>cq (by decide)
   have e4: ∀i:Int,ba (.int i) (.int 2147483629)=some (.int (i % 2147483629)):=λi=>cq (by decide)
   have e5:cA (.int A) (.int 69621)=some (.int (A*69621)):=eX p3 c2
   have e6: ∀i:Int,da (.int i) (.int 8)=some (.int (i / 8)):=λi=>jc (by decide) c3
   simp[cS,oK,lX,jY,aH,ay,dQ,be,ai,aK,eD,af,ao,gF,iB,dX,n4,kL,kP,hb,skip,e1,e2,e3,e4,bD,dv,pu,cN,gp,fN,zp,aX,j5,hA,e5,e6,cq hm]
  ·exact Nat.lt_of_lt_of_le (show A.natAbs<10^10 by omega) (by decide)
theorem av {t u:FS}{ρ ρ':aB}(h:t ρ=.nx ρ'):ay t u ρ=u ρ':=by unfold ay;rw[h]
theorem ic {t u:FS}{ρ ρ':aB}{d:D}(h:t ρ=.rt d ρ'):ay t u ρ=.rt d ρ':=by unfold ay;rw[h]
abbrev nI(i:Nat):D:=.int (i:Int)
abbrev gb(ns:List Int):D:=.scr (ns.map D.int)
theorem qW(n:Nat):oJ 0 n=(List.range n).map nI:=by
 unfold oJ;simp
theorem fR {n j:Nat}(h:j<n):kP n (j:Int)=some j:=by
 unfold kP;rw[if_pos (by omega),if_pos (by omega)];simp
theorem vA(ns:List Int)(k:Nat): ∃c,fy [gb ns,nI k]=some (.int c):=by
 by_cases h:k<ns.length
 ·refine⟨ns[k],?_⟩
  simp[fy,iw,mP,eG,ay,dQ,be,ai,af,aj,aa,ah,cb,qF,n4,h,aX,aK,kL,fR (show k<(ns.map D.int).length by simpa using h)]
  simp[fR h,h]
 ·refine⟨0,?_⟩
  simp[fy,iw,mP,eG,ay,dQ,be,ai,af,aj,aa,ah,cb,qF,n4,h,aX,skip,ao]
theorem nu(ns:List Int)(k:D)(c:D): ∀(l:List Nat),(∀i∈l,i<ns.length/\i<1000)-> ∀(x:Int) (s4:Sl),0<=x->x<2147483647-> ∃(x':Int) (s4':Sl),0<=x'/\x'<2147483647/\
 dE (gN 4) (aT 3 (ai ba (ai aL (ai aL (ai cE (af 3) (ao (.int 5))) (ai ba (ai aK (af 0) (af 4)) (ao (.int 2147483629)))) (ai cA (ao (.int 31)) (af 4))) (ao (.int 2147483647)))) (l.map nI) [.v (gb ns),.v k,.v c,.v (.int x),s4]=.nx [.v (gb ns),.v k,.v c,.v (.int x'),s4']
 | [],_,x,s4,h1,h2=>⟨x,s4,h1,h2,rfl⟩
 |i::l,hl,x,s4,h1,h2=>by
  obtain⟨hi,hi2⟩:=hl i (by simp)
  have e1:cE (.int x) (.int 5)=some (.int (x^5)):=fG (by decide) (by decide) (Nat.lt_of_lt_of_le (show x.natAbs<10^10 by omega) (by decide))
  have e2:cA (.int 31) (nI i)=some (.int (31*i)):=eX (Nat.lt_of_lt_of_le (show(31:Int).natAbs<10^10 by decide) (by decide)) (Nat.lt_of_lt_of_le (show(i:Int).natAbs<10^10 by omega) (by decide))
  have e3: ∀i:Int,ba (.int i) (.int 2147483647)=some (.int (i % 2147483647)):=λi=>cq (by decide)
  have e4: ∀i:Int,ba (.int i) (.int 2147483629)=some (.int (i % 2147483629)):=λi=>cq (by decide)
  obtain⟨y1,y2⟩:=cn (i:=x^5+ns[i] % 2147483629+31*i) (m:=2147483647) (by decide)
  obtain⟨x',s4',g1,g2,g3⟩:=nu ns k c l (λj hj=>hl j (by simp[hj])) _ (.v (nI i)) y1 y2
  refine⟨x',s4',g1,g2,?_⟩
  rw[<-g3];simp[dE,gN,aT,ai,af,ao,e1,e2,e3,e4,aK,kL,fR (show i<(ns.map D.int).length by simpa using hi),fR hi,hi,bD]
theorem zi(ns:List Int)(k:Nat)(hk:k<=1000)(hn:ns.length<=63): ∃a b,ua [gb ns,nI k]=some (.lst (aH a b))/\Bag 1 a b:=by
 obtain⟨c,hc⟩:=vA ns k
 have p1:cE (.int 10) (.int 60)=some (.int (10^60)):=fG (by decide) (by decide) (by decide)
 have p2:cE (.int 10) (.int 18)=some (.int (10^18)):=fG (by decide) (by decide) (by decide)
 have q60:((10:Int)^60).natAbs<10^200:=by decide
 have q120:((10:Int)^60*10^60).natAbs<10^200:=by decide
 have m1:cA (.int (10^60)) (.int (10^60))=some (.int (10^60*10^60)):=eX q60 q60
 have m2:cA (.int (10^60*10^60)) (.int (10^60))=some (.int (10^60*10^60*10^60)):=eX q120 q60
 have m3:cA (.int 7919) (nI k)=some (.int (7919*k)):=eX (Nat.lt_of_lt_of_le (show(7919:Int).natAbs<10^10 by decide) (by decide)) (Nat.lt_of_lt_of_le (show(k:Int).natAbs<10^10 by omega) (by decide))
 generalize hA:(if c<0 then -c else c) % (10^60*10^60*10^60)=A
 have hA':0<=A/\A<10^60*10^60*10^60:=by rw[<-hA];exact cn (by decide)
 have s1:aT 2 (ai ba (aj nU (aa (aj (nF 2 fy) (aa (af 0) (aa (af 1) (ah)))) (ah))) (ai cA (ai cA (ai cE (ao (.int 10)) (ao (.int 60))) (ai cE (ao (.int 10)) (ao (.int 60)))) (ai cE (ao (.int 10)) (ao (.int 60))))) [.v (gb ns),.v (nI k),.no,.no,.no]=.nx [.v (gb ns),.v (nI k),.v (.int A),.no,.no]:=by
  have m4: ∀i:Int,ba (.int i) (.int (10^60*10^60*10^60))=some (.int (i % (10^60*10^60*10^60))):=λi=>cq (by decide)
  unfold aT;have:ai ba (aj nU (aa (aj (nF 2 fy) (aa (af 0) (aa (af 1) (ah)))) (ah))) (ai cA (ai cA (ai cE (ao (.int 10)) (ao (.int 60))) (ai cE (ao (.int 10)) (ao (.int 60)))) (ai cE (ao (.int 10)) (ao (.int 60)))) [.v (gb ns),.v (nI k),.no,.no,.no]=some (.int A):=by
   have ec:aj (nF 2 fy) (aa (af 0) (aa (af 1) ah)) [.v (gb ns),.v (nI k),.no,.no,.no]=some (.int c):=hc
   simp only[ai,aj,aa,ah,ao,Option.bind_some,p1,m1,m2,nU];have ec':((af 0 [.v (gb ns),.v (nI k),.no,.no,.no]).bind λd=>((af 1 [.v (gb ns),.v (nI k),.no,.no,.no]).bind λd=>(some []).map λr=>d::r).map λr=>d::r).bind (nF 2 fy)=some (.int c):=hc
   rw[ec'];simp only[Option.bind_some,Option.map_some,m4,nU,hA]
  rw[this];rfl
 have r0:eG 5 [gb ns,nI k]=[.v (gb ns),.v (nI k),.no,.no,.no]:=rfl
 unfold ua iw uc;rw[r0,av s1];have hA180:A.natAbs<10^180:=by
  have:(10:Int)^60*10^60*10^60=((10^180:Nat):Int):=by decide
  rw[this] at hA';omega
 by_cases hb:(10:Int)^18<=A
 ·refine⟨A,0,?_,⟨hA'.1,hA180,by decide,by decide,λz=>absurd rfl z⟩⟩
  simp only[ay,dQ,be,ai,af,List.getElem?_cons_succ,List.getElem?_cons_zero,Option.bind_some,ao,p2,qv,n4,decide_eq_true hb,aX,iM,aa,ah,Option.map_some];rw[cL (by simp)]
 ·generalize hx:(A+7919*(k:Int)+17) % 2147483647=x
  have hx':0<=x/\x<2147483647:=by rw[<-hx];exact cn (by decide)
  have m4:ba (.int (A+7919*(k:Int)+17)) (.int 2147483647)=some (.int x):=by rw[cq (by decide),hx]
  have hr:aW (aa (aj eW (aa (aj cb (aa (af 0) (ah))) (aa (ao (.int 9)) (ah)))) (ah)) [.v (gb ns),.v (nI k),.v (.int A),.v (.int x),.no]=some ((List.range (min ns.length 9)).map nI):=by
   rw[ny];simp only[aj,aa,ah,af,ao,List.getElem?_cons_zero,Option.bind_some,Option.map_some,cb,eW,List.length_map];have:(if(9:Int)<(ns.length:Int) then(9:Int) else(ns.length:Int))=((min ns.length 9:Nat):Int):=by split<;>omega
   rw[this,nE (by omega),qW,Int.toNat_natCast]
  obtain⟨x',s4',g1,g2,g3⟩:=nu ns (nI k) (.int A) (List.range (min ns.length 9)) (λi hi=>by have:=List.mem_range.mp hi;omega) x .no hx'.1 hx'.2
  refine⟨x',1,?_,⟨g1,Nat.lt_of_lt_of_le (show x'.natAbs<10^10 by omega) (by decide),by decide,by decide,λ_=>by omega⟩⟩
  have f1:cY (bZ (aW (aa (aj eW (aa (aj cb (aa (af 0) (ah))) (aa (ao (.int 9)) (ah)))) (ah)))) (gN 4) (aT 3 (ai ba (ai aL (ai aL (ai cE (af 3) (ao (.int 5))) (ai ba (ai aK (af 0) (af 4)) (ao (.int 2147483629)))) (ai cA (ao (.int 31)) (af 4))) (ao (.int 2147483647)))) [.v (gb ns),.v (nI k),.v (.int A),.v (.int x),.no]=.nx [.v (gb ns),.v (nI k),.v (.int A),.v (.int x'),s4']:=by
   unfold cY bZ;rw[hr];exact g3
  have i1:dQ (be (ai A4 (af 2) (ai cE (ao (.int 10)) (ao (.int 18))))) (aX (fh (aa (af 2) (aa (ao (.int 0)) (ah))))) (skip) [.v (gb ns),.v (nI k),.v (.int A),.no,.no]=.nx [.v (gb ns),.v (nI k),.v (.int A),.no,.no]:=by
   simp only[dQ,be,ai,af,List.getElem?_cons_succ,List.getElem?_cons_zero,Option.bind_some,ao,p2,qv,n4,decide_eq_false hb,skip]
  have i2:aT 3 (ai ba (ai aL (ai aL (af 2) (ai cA (ao (.int 7919)) (af 1))) (ao (.int 17))) (ao (.int 2147483647))) [.v (gb ns),.v (nI k),.v (.int A),.no,.no]=.nx [.v (gb ns),.v (nI k),.v (.int A),.v (.int x),.no]:=by
   simp only[aT,ai,af,List.getElem?_cons_succ,List.getElem?_cons_zero,Option.bind_some,ao,m3,bD,m4,List.set_cons_succ,List.set_cons_zero]
  rw[av i1,av i2,av f1];simp only[aX,iM,aa,ah,af,ao,List.getElem?_cons_succ,List.getElem?_cons_zero,Option.bind_some,Option.map_some];rw[cL (by simp)]
theorem bG {i n:Nat}{M:List D->List D->Option (D×List D)}{fs:GA}{ρ ρ1:aB}{b0 bs ds bs':List D}{d:D}(h0:gp i ρ=some b0)(h1:fs ρ=some (ds,ρ1))(h2:gp i ρ1=some bs)(h3:ds.length=n)(h4:M bs ds=some (d,bs')):aN i n M fs ρ=some (d,fN i bs' ρ1):=by
 unfold aN;rw[h0];dsimp only;rw[h1];dsimp only;rw[h2];dsimp only;rw[if_pos h3,h4]
theorem dZ {f:GE}{fs:GA}{ρ ρ1 ρ2:aB}{d:D}{ds:List D}(h1:f ρ=some (d,ρ1))(h2:fs ρ1=some (ds,ρ2)):cB f fs ρ=some (d::ds,ρ2):=by
 unfold cB bE;rw[h1];dsimp only[Option.bind];rw[h2];rfl
theorem bR {f:FA}{ρ:aB}{ds:List D}(h:f ρ=some ds):bZ f ρ=some (ds,ρ):=by unfold bZ;rw[h];rfl
theorem hX {f:FE}{ρ:aB}{d:D}(h:f ρ=some d):pu f ρ=some (d,ρ):=by unfold pu;rw[h];rfl
theorem lh {α β:Type}(f:α->β): ∀(l:List α) (j:Nat),(l.map f).eraseIdx j=(l.eraseIdx j).map f
 | [],_=>rfl
 |_::_,0=>rfl
 |x::l,j+1=>by simp[lh f l j]
theorem j8 {α:Type}: ∀(l:List α) (j:Nat) (h:j<l.length),(l[j]::l.eraseIdx j).Perm l
 |_::_,0,_=>.refl _
 |x::l,j+1,h=>by
  have ih:=j8 l j (by simpa using h)
  exact(List.Perm.swap _ _ _).trans (ih.cons x)
theorem lV: ∀r:List Nat,gh (r.map nI)=0
 | []=>by simp[gh]
 |a::r=>by
  rw[List.map_cons];unfold gh;rw[lV r];simp[dw]
theorem nP(r:List Nat):dw (.lst (r.map nI))<=32:=by unfold dw;rw[lV];omega
theorem ui(r:List Nat):dw (.tup (r.map nI))<=32:=by unfold dw;rw[lV];omega
abbrev BU:FS->Nat->FS:=λb n=>sI (be (ai ge (eD 2) (fh (ah)))) b n
abbrev lB:FS:=kY (aN 3 1 nS (cB (aN 2 1 kQ (cB (aN 0 1 cS (bZ (aa (aj cb (aa (eD 2) (ah))) (ah)))) (bZ (ah)))) (bZ (ah))))
theorem zT(n:D)(bg:List D)(left found:List Nat):be (ai ge (eD 2) (fh (ah))) [.arg bg,.v n,.own (left.map nI),.own (found.map nI)]=some (!left.isEmpty):=by
 have h0:fh ah [.arg bg,.v n,.own (left.map nI),.own (found.map nI)]=some (.lst []):=by
  rw[iM];simp only[ah,Option.bind_some];exact cL (by simp)
 unfold be ai;rw[h0];simp only[eD,List.getElem?_cons_succ,List.getElem?_cons_zero,Option.bind_some];rw[h9 (nP left)];cases left with
 |nil=>simp[n4,dg,bY]
 |cons x r=>simp[n4,dg,bY]
theorem sV(n:D){N:Nat}{a b:Int}(B:Bag N a b)(hN:N<=1000000000)(left found:List Nat)(h0:0<left.length)(h1:left.length<=100)(h2:found.length<=100):
 ∃(j:Nat) (hj:j<left.length) (a' b':Int),lB [.arg (aH a b),.v n,.own (left.map nI),.own (found.map nI)]=.nx [.arg (aH a' b'),.v n,.own ((left.eraseIdx j).map nI),.own ((found++[left[j]]).map nI)]/\Bag (N+1) a' b':=by
 obtain⟨d,a',b',e,B',d0,d1⟩:=dS (m:=left.length) B hN (by omega) (Nat.lt_of_lt_of_le (show(left.length:Int).natAbs<10^10 by omega) (by decide))
 obtain⟨j,rfl⟩: ∃j:Nat,d=(j:Int):=⟨d.toNat,by omega⟩
 have hj:j<left.length:=by omega
 refine⟨j,hj,a',b',?_,B'⟩
 have e2:kQ (left.map nI) [.int (j:Int)]=some (nI left[j],(left.eraseIdx j).map nI):=by
  rw[wc,cL (by simp;omega)]
  simp only[Option.bind_some];rw[fR (by simpa using hj)]
  simp[hj,lh]
 have e3:nS (found.map nI) [nI left[j]]=some (.non,(found++[left[j]]).map nI):=by
  rw[wQ,rD (by simp;omega)];simp
 have g:aN 0 1 cS (bZ (aa (aj cb (aa (eD 2) (ah))) (ah))) [.arg (aH a b),.v n,.own (left.map nI),.own (found.map nI)]=some (nI j,[.arg (aH a' b'),.v n,.own (left.map nI),.own (found.map nI)]):=by
  simp[aN,gp,bZ,aa,aj,eD,ah,cb,e,fN]
 have g2:aN 2 1 kQ (cB (aN 0 1 cS (bZ (aa (aj cb (aa (eD 2) (ah))) (ah)))) (bZ (ah))) [.arg (aH a b),.v n,.own (left.map nI),.own (found.map nI)]=some (nI left[j],[.arg (aH a' b'),.v n,.own ((left.eraseIdx j).map nI),.own (found.map nI)]):=by
  refine(bG (i:=2) (n:=1) (b0:=left.map nI) (ds:=[nI j]) (ρ1:=[.arg (aH a' b'),.v n,.own (left.map nI),.own (found.map nI)]) rfl (dZ g rfl) rfl rfl e2).trans rfl
 have g3:aN 3 1 nS (cB (aN 2 1 kQ (cB (aN 0 1 cS (bZ (aa (aj cb (aa (eD 2) (ah))) (ah)))) (bZ (ah)))) (bZ (ah))) [.arg (aH a b),.v n,.own (left.map nI),.own (found.map nI)]=some (.non,[.arg (aH a' b'),.v n,.own ((left.eraseIdx j).map nI),.own ((found++[left[j]]).map nI)]):=by
  refine(bG (i:=3) (n:=1) (b0:=found.map nI) (ds:=[nI left[j]]) (ρ1:=[.arg (aH a' b'),.v n,.own ((left.eraseIdx j).map nI),.own (found.map nI)]) rfl (dZ g2 rfl) rfl rfl e3).trans rfl
 unfold lB kY;rw[g3]
theorem xr(n:D): ∀(f:Nat) (left found:List Nat) (N:Nat) (a b:Int),left.length<f->left.length<=50->found.length+left.length<=100->Bag N a b->N+left.length<=1000000000->
 ∃(o:List Nat) (a' b':Int),BU lB f [.arg (aH a b),.v n,.own (left.map nI),.own (found.map nI)]=.nx [.arg (aH a' b'),.v n,.own [],.own ((found++o).map nI)]/\o.Perm left/\Bag (N+left.length) a' b'
 |0,left,found,N,a,b,h,_,_,_,_=>absurd h (Nat.not_lt_zero _)
 |f+1,left,found,N,a,b,h,h1,h2,B,hN=>by
  unfold BU sI;rw[zT];cases e:left.isEmpty with
  |true=>
   have:left=[]:=by simpa using e
   subst this;exact⟨[],a,b,by simp,.refl _,by simpa using B⟩
  |false=>
   have h0:0<left.length:=by cases left with
    |nil=>cases e
    |cons x r=>simp
   obtain⟨j,hj,a1,b1,e1,B1⟩:=sV n B (by omega) left found h0 (by omega) (by omega)
   have hl:(left.eraseIdx j).length=left.length-1:=by rw[List.length_eraseIdx];simp[hj]
   obtain⟨o,a2,b2,e2,p,B2⟩:=xr n f (left.eraseIdx j) (found++[left[j]]) (N+1) a1 b1 (by omega) (by omega) (by simp;omega) B1 (by omega)
   refine⟨left[j]::o,a2,b2,?_,?_,?_⟩
   ·simp only[Bool.not_false]
    rw[e1];dsimp only;have:sI (be (ai ge (eD 2) (fh ah))) lB f=BU lB f:=rfl
    rw[this,e2];simp
   ·exact(p.cons _).trans (j8 left j hj)
   ·rw[show N+left.length=N+1+(left.eraseIdx j).length by omega];exact B2
structure Ord(n:Nat)(r:List Nat):Prop where
 perm:r.Perm (List.range n)
theorem Ord.len {n:Nat}{r:List Nat}(o:Ord n r):r.length=n:=by rw[o.perm.length_eq];simp
theorem Ord.lt {n:Nat}{r:List Nat}(o:Ord n r){v:Nat}(h:v∈r):v<n:=by simpa using o.perm.mem_iff.mp h
theorem Ord.has {n:Nat}{r:List Nat}(o:Ord n r){v:Nat}(h:v<n):v∈r:=o.perm.mem_iff.mpr (by simpa using h)
theorem Ord.nd {n:Nat}{r:List Nat}(o:Ord n r):r.Nodup:=o.perm.nodup_iff.mpr List.nodup_range
theorem xn {n:Nat}(h:n<=1000)(f:FE)(ρ:aB)(e:f ρ=some (nI n)):kH f ρ=some (.lst ((List.range n).map nI)):=by
 unfold kH wT;rw[e];simp only[Option.bind_some];rw[if_pos (by omega),qW];rfl
theorem nK {N:Nat}{a b:Int}(B:Bag N a b){n:Nat}(hn:n<=12)(hN:N<=900000000): ∃(o:List Nat) (a' b':Int),fM (aH a b) [nI n]=some (.lst (o.map nI),aH a' b')/\Ord n o/\Bag (N+n) a' b':=by
 obtain⟨o,a',b',e,p,B'⟩:=xr (nI n) 16 (List.range n) [] N a b (by simp;omega) (by simp;omega) (by simp;omega) B (by simp;omega)
 refine⟨o,a',b',?_,⟨p⟩,by simpa using B'⟩
 have r0:jY 4 (aH a b) [nI n]=[.arg (aH a b),.v (nI n),.no,.no]:=rfl
 have s1:fj 2 (kH (af 1)) [.arg (aH a b),.v (nI n),.no,.no]=.nx [.arg (aH a b),.v (nI n),.own ((List.range n).map nI),.no]:=by
  unfold fj;rw[xn (n:=n) (by omega) (af 1) _ rfl]
  rfl
 have s2:fj 3 (fh (ah)) [.arg (aH a b),.v (nI n),.own ((List.range n).map nI),.no]=.nx [.arg (aH a b),.v (nI n),.own ((List.range n).map nI),.own []]:=by
  unfold fj;rw[iM];simp only[ah,Option.bind_some];rw[cL (by simp)]
  rfl
 unfold fM oK nL;rw[r0,av s1,av s2];have e':sI (be (ai ge (eD 2) (fh (ah)))) lB 16 [.arg (aH a b),.v (nI n),.own ((List.range n).map nI),.own []]=.nx [.arg (aH a' b'),.v (nI n),.own [],.own (o.map nI)]:=e
 rw[av e'];simp[va,sP,j5]
theorem au {F:D->D->Option D}{f g:FE}{ρ:aB}{x y:D}(h1:f ρ=some x)(h2:g ρ=some y):ai F f g ρ=F x y:=by unfold ai;rw[h1,Option.bind_some,h2,Option.bind_some]
theorem jC {F:D->D->Option D}{f g:GE}{ρ ρ1 ρ2:aB}{x y d:D}(h1:f ρ=some (x,ρ1))(h2:g ρ1=some (y,ρ2))(h3:F x y=some d):hZ F f g ρ=some (d,ρ2):=by
 unfold hZ bE;rw[h1];dsimp only[Option.bind];rw[h2];dsimp only[Option.bind];rw[h3];rfl
theorem bI {i:Nat}{f:FE}{ρ:aB}{d:D}(h:f ρ=some d):aT i f ρ=.nx (ρ.set i (.v d)):=by unfold aT;rw[h]
theorem eF {i:Nat}{f:GE}{ρ ρ1:aB}{d:D}(h:f ρ=some (d,ρ1)):eo i f ρ=.nx (ρ1.set i (.v d)):=by unfold eo;rw[h]
theorem vq {i:Nat}{f:GE}{ρ ρ1:aB}{ds:List D}(h:f ρ=some (.lst ds,ρ1)):pA i f ρ=.nx (ρ1.set i (.own ds)):=by unfold pA;rw[h];rfl
theorem lZ {i:Nat}{f:FE}{ρ:aB}{ds:List D}(h:f ρ=some (.lst ds)):fj i f ρ=.nx (ρ.set i (.own ds)):=by unfold fj;rw[h];rfl
theorem eI {f:FA}{ρ:aB}{ds:List D}(h:f ρ=some ds)(h2:ds.length<=1000):di f ρ=some (.tup ds):=by
 rw[wV,h,Option.bind_some,cL h2]
theorem wO {f:FA}{ρ:aB}{ds:List D}(h:f ρ=some ds)(h2:ds.length<=1000):fh f ρ=some (.lst ds):=by
 rw[iM,h,Option.bind_some,cL h2]
theorem az {f:FE}{fs:FA}{ρ:aB}{d:D}{ds:List D}(h1:f ρ=some d)(h2:fs ρ=some ds):aa f fs ρ=some (d::ds):=by unfold aa;rw[h1,h2];rfl
theorem br {F:List D->Option D}{f:FA}{ρ:aB}{ds:List D}(h:f ρ=some ds):aj F f ρ=F ds:=by unfold aj;rw[h];rfl
theorem u9 {r:List Nat}{c:Nat}(h:c<r.length):kL (r.map nI) (c:Int)=some (nI (r.getD c 0)):=v7 (by rw[List.getElem?_map,List.getElem?_eq_getElem h];simp[List.getD,h])
theorem uR {r:List Nat}{c:Nat}(h:c<r.length):aK (.lst (r.map nI)) (nI c)=some (nI (r.getD c 0)):=u9 h
theorem lz {r:List Nat}{c:Nat}(h:c<r.length):aK (.tup (r.map nI)) (nI c)=some (nI (r.getD c 0)):=u9 h
theorem gl(a b:Nat):dg (nI a) (nI b)=decide (a=b):=by
 rw[iB];rw[Bool.eq_iff_iff];simp;omega
theorem y6(a b:Nat):aL (nI a) (nI b)=some (nI (a+b)):=by rw[bD];simp
theorem vk(a:Nat):aL (nI a) (.int 1)=some (nI (a+1)):=by rw[bD];simp
theorem zu {a n:Nat}(h:0<n):ba (nI a) (nI n)=some (nI (a % n)):=by rw[cq (by omega)];rfl
theorem ki {i:Nat}{fi:FE}{d:D}{ρ:aB}{bs:List D}{j:Nat}(h1:gp i ρ=some bs)(h2:fi ρ=some (nI j))(h3:j<bs.length):cN i fi d ρ=some (fN i (bs.set j d) ρ):=by
 unfold cN;rw[h1];dsimp only;rw[h2];dsimp only;rw[fR h3]
theorem tw(x:List Nat)(j v:Nat):(x.map nI).set j (nI v)=(x.set j v).map nI:=by rw[List.map_set]
def oU(n:Nat)(r x:List Nat)(c:Nat):List Nat:=if x.getD c 0=r.getD c 0 then(x.set c (x.getD ((c+1) % n) 0)).set ((c+1) % n) (x.getD c 0) else x
abbrev qR:FS:=ay (aT 7 (ai ba (ai aL (af 6) (ao (.int 1))) (af 1)))
 (dQ (be (ai fF (ai aK (eD 5) (af 6)) (ai aK (af 4) (af 6)))) (dv (gT 2 (gO (cN 5 (af 6)) (gO (cN 5 (af 7)) (lU)))) (pu (di (aa (ai aK (eD 5) (af 7)) (aa (ai aK (eD 5) (af 6)) (ah)))))) (skip))
theorem tB(bg:List D)(p q:D)(n:Nat)(r x:List Nat)(c:Nat)(s7:Sl)(hr:r.length=n)(hx:x.length=n)(hc:c<n):
 qR [.arg bg,.v (nI n),.v p,.v q,.v (.lst (r.map nI)),.own (x.map nI),.v (nI c),s7]=.nx [.arg bg,.v (nI n),.v p,.v q,.v (.lst (r.map nI)),.own ((oU n r x c).map nI),.v (nI c),.v (nI ((c+1) % n))]:=by
 have hd:(c+1) % n<n:=Nat.mod_lt _ (by omega)
 have e1:aT 7 (ai ba (ai aL (af 6) (ao (.int 1))) (af 1)) [.arg bg,.v (nI n),.v p,.v q,.v (.lst (r.map nI)),.own (x.map nI),.v (nI c),s7]=.nx [.arg bg,.v (nI n),.v p,.v q,.v (.lst (r.map nI)),.own (x.map nI),.v (nI c),.v (nI ((c+1) % n))]:=
  (bI ((au (au (x:=nI c) (y:=.int 1) rfl rfl |>.trans (vk c)) (y:=nI n) rfl).trans (zu (by omega)))).trans rfl
 unfold qR;rw[av e1];have i1:ai aK (eD 5) (af 6) [.arg bg,.v (nI n),.v p,.v q,.v (.lst (r.map nI)),.own (x.map nI),.v (nI c),.v (nI ((c+1) % n))]=some (nI (x.getD c 0)):=(au (x:=.lst (x.map nI)) (y:=nI c) rfl rfl).trans (uR (by omega))
 have i2:ai aK (af 4) (af 6) [.arg bg,.v (nI n),.v p,.v q,.v (.lst (r.map nI)),.own (x.map nI),.v (nI c),.v (nI ((c+1) % n))]=some (nI (r.getD c 0)):=(au (x:=.lst (r.map nI)) (y:=nI c) rfl rfl).trans (uR (by omega))
 have i3:ai aK (eD 5) (af 7) [.arg bg,.v (nI n),.v p,.v q,.v (.lst (r.map nI)),.own (x.map nI),.v (nI c),.v (nI ((c+1) % n))]=some (nI (x.getD ((c+1) % n) 0)):=(au (x:=.lst (x.map nI)) (y:=nI ((c+1) % n)) rfl rfl).trans (uR (by omega))
 unfold dQ be;rw[au i1 i2,gF (by rw[dX];omega),gl]
 by_cases e:x.getD c 0=r.getD c 0
 ·rw[decide_eq_true e]
  simp only[n4];unfold dv;rw[hX (eI (az i3 (az i1 rfl)) (by simp))]
  simp only[gT,List.length_cons,List.length_nil,gO];unfold oU;rw[if_pos e];rw[ki (bs:=x.map nI) (j:=c) rfl rfl (by simp;omega)]
  simp only[Option.bind_some];rw[ki (bs:=(x.map nI).set c (nI (x.getD ((c+1) % n) 0))) (j:=(c+1) % n) rfl rfl (by simp;omega)]
  simp only[Option.bind_some,lU,tw];rfl
 ·rw[decide_eq_false e]
  simp only[n4,skip];unfold oU;rw[if_neg e]
theorem swap_perm(x:List Nat)(c d:Nat)(hc:c<x.length)(hd:d<x.length):((x.set c (x.getD d 0)).set d (x.getD c 0)).Perm x:=by
 have e:(x.toArray.swap c d (by simpa using hc) (by simpa using hd)).toList=(x.set c (x.getD d 0)).set d (x.getD c 0):=by
  simp[Array.toList_swap,List.getD,hc,hd]
 rw[<-e];have:=Array.swap_perm (xs:=x.toArray) (i:=c) (j:=d) (by simpa using hc) (by simpa using hd)
 simpa using (Array.perm_iff_toList_perm.mp this)
theorem ph {x:List Nat}(h:x.Nodup){i j:Nat}(hi:i<x.length)(hj:j<x.length)(e:x.getD i 0=x.getD j 0):i=j:=by
 have:x[i]=x[j]:=by simpa [List.getD,hi,hj] using e
 exact(List.getElem_inj h).mp this
theorem Ord.fix {n:Nat}{r x:List Nat}(or:Ord n r)(ox:Ord n x){c:Nat}(hc:c<n)(hn:2<=n):Ord n (oU n r x c)/\((∀i,i<c->x.getD i 0≠r.getD i 0)-> ∀i,i<c+1->(oU n r x c).getD i 0≠r.getD i 0):=by
 have lx:=ox.len
 have lr:=or.len
 have hd:(c+1) % n<n:=Nat.mod_lt _ (by omega)
 have gx: ∀i,i<n->x.getD i 0=x[i]! :=λi hi=>by simp[List.getD,lx,hi]
 unfold oU
 by_cases e:x.getD c 0=r.getD c 0
 ·rw[if_pos e]
  have ne:(c+1) % n≠c:=by
   by_cases h:c+1<n
   ·rw[Nat.mod_eq_of_lt h];omega
   ·rw[show c+1=n by omega,Nat.mod_self];omega
  refine⟨⟨(swap_perm x c _ (by omega) (by omega)).trans ox.perm⟩,λh i hi=>?_⟩
  have g:((x.set c (x.getD ((c+1) % n) 0)).set ((c+1) % n) (x.getD c 0)).getD i 0=if i=(c+1) % n then x.getD c 0 else if i=c then x.getD ((c+1) % n) 0 else x.getD i 0:=by
   simp only[List.getD,List.getElem?_set,List.length_set]
   by_cases h1:(c+1) % n=i
   ·subst h1;simp[lx,hd]
   ·rw[if_neg h1,if_neg (Ne.symm h1)]
    by_cases h2:c=i
    ·subst h2;simp[lx,hc]
    ·rw[if_neg h2,if_neg (Ne.symm h2)]
  rw[g]
  by_cases h1:i=(c+1) % n
  ·rw[if_pos h1,e]
   intro z;have:=ph or.nd (by omega) (by omega) z
   omega
  ·rw[if_neg h1]
   by_cases h2:i=c
   ·rw[if_pos h2,h2,<-e]
    intro z;have:=ph ox.nd (by omega) (by omega) z
    omega
   ·rw[if_neg h2];exact h i (by omega)
 ·rw[if_neg e]
  refine⟨ox,λh i hi=>?_⟩
  by_cases hic:i=c
  ·subst hic;exact e
  ·exact h i (by omega)
theorem xq(bg:List D)(p q:D){n:Nat}{r:List Nat}(or:Ord n r)(hn:2<=n): ∀(k c:Nat) (x:List Nat) (s6 s7:Sl),c+k=n->Ord n x->(∀i,i<c->x.getD i 0≠r.getD i 0)->
 ∃(x':List Nat) (s6' s7':Sl),dE (gN 6) qR ((List.range' c k).map nI) [.arg bg,.v (nI n),.v p,.v q,.v (.lst (r.map nI)),.own (x.map nI),s6,s7]=.nx [.arg bg,.v (nI n),.v p,.v q,.v (.lst (r.map nI)),.own (x'.map nI),s6',s7']/\Ord n x'/\ ∀i,i<n->x'.getD i 0≠r.getD i 0
 |0,c,x,s6,s7,h,ox,hi=>⟨x,s6,s7,rfl,ox,λi h'=>hi i (by omega)⟩
 |k+1,c,x,s6,s7,h,ox,hi=>by
  obtain⟨o1,o2⟩:=or.fix ox (c:=c) (by omega) hn
  obtain⟨x',a,b,e,o3,o4⟩:=xq bg p q or hn k (c+1) (oU n r x c) (.v (nI c)) (.v (nI ((c+1) % n))) (by omega) o1 (o2 hi)
  refine⟨x',a,b,?_,o3,o4⟩
  rw[List.range'_succ,List.map_cons];unfold dE;have:gN 6 (nI c) [.arg bg,.v (nI n),.v p,.v q,.v (.lst (r.map nI)),.own (x.map nI),s6,s7]=some [.arg bg,.v (nI n),.v p,.v q,.v (.lst (r.map nI)),.own (x.map nI),.v (nI c),s7]:=rfl
  rw[this];dsimp only;rw[tB bg p q n r x c s7 or.len ox.len (by omega)]
  exact e
theorem dL {α:Type}{g:FG}{f:FE}{ρ0:aB}{h o:α->D}: ∀(l:List α),(∀i∈l,∃ρ1,g (h i) ρ0=some ρ1/\f ρ1=some (o i))->bF g cx f ρ0 (l.map h)=some (l.map o)
 | [],_=>rfl
 |a::l,H=>by
  obtain⟨ρ1,h1,h2⟩:=H a (by simp)
  have ih:=dL l λi hi=>H i (by simp[hi])
  rw[List.map_cons];unfold bF;rw[h1,Option.bind_some];simp only[cx,Option.bind_some,if_true,h2,ih];rfl
theorem dc {m:Nat}{gi:FA}{g:FG}{p:FT}{f:FE}{ρ:aB}{ds ys:List D}(h1:gi ρ=some ds)(h2:ds.length<=1000)(h3:bF g p f (ρ++List.replicate m .no) ds=some ys):aV m gi g p f ρ=some (.lst ys):=by
 rw[tj,h1,Option.bind_some,cL h2,Option.bind_some,h3];rfl
theorem vP: ∀n,2<=n->n<=6-> ∀b,1<=b->b<n->Ord n ((List.range n).map λi=>(i+b) % n):=by
 intro n h1 h2 b h3 h4;refine⟨?_⟩
 have: ∀n:_root_.Fin 7,∀b:_root_.Fin 7,((List.range n.val).map λi=>(i+b.val) % n.val).isPerm (List.range n.val)=true\/ ¬(b.val<n.val):=by decide
 rcases this ⟨n,by omega⟩ ⟨b,by omega⟩ with h|h
 ·exact List.isPerm_iff.mp h
 ·exact absurd h4 h
abbrev bi(r:List Nat):D:=.tup (r.map nI)
abbrev aZ(r x:List Nat):D:=.tup [bi r,bi x]
structure Sq(n:Nat)(r x:List Nat):Prop where
 hr:Ord n r
 hx:Ord n x
 ne: ∀i,i<n->x.getD i 0≠r.getD i 0
theorem cI {f:FA}{ρ:aB}{n:Nat}(h:f ρ=some [nI n])(hn:n<=1000):aW f ρ=some ((List.range n).map nI):=by
 rw[ny,h,Option.bind_some,nE (by omega),qW];rfl
theorem A3 {j:Int}(h:0<=j):D.int j=nI j.toNat:=by show D.int j=D.int (j.toNat:Int);rw[Int.toNat_of_nonneg h]
theorem xL {n:Nat}{P:List D->Option D}{ds:List D}(h:ds.length=n):nF n P ds=P ds:=if_pos h
theorem mw {g:FG}{f:GE}{ρ ρ1 ρ2:aB}{d:D}(h1:f ρ=some (d,ρ1))(h2:g d ρ1=some ρ2):dv g f ρ=.nx ρ2:=by unfold dv;rw[h1];dsimp only;rw[h2];rfl
theorem fZ {n:Nat}{P:List D->Option D}{fs:FA}{ρ:aB}{ds:List D}(h:fs ρ=some ds)(hl:ds.length=n):aj (nF n P) fs ρ=P ds:=(br h).trans (xL hl)
theorem sN {F:List D->Option D}{fs:GA}{ρ ρ1:aB}{ds:List D}{d:D}(h:fs ρ=some (ds,ρ1))(h2:F ds=some d):jL F fs ρ=some (d,ρ1):=by unfold jL;rw[h];dsimp only[Option.bind];rw[h2];rfl
theorem mS {kd:Kd}{n:Nat}{t:FS}{ds:List D}{ρ:aB}{d:D}(h:t (eG n ds)=.rt d ρ):iw kd n t ds=some d:=by unfold iw;rw[h]
theorem bP {f:FE}{ρ:aB}{d:D}(h:f ρ=some d):aX f ρ=.rt d ρ:=by unfold aX;rw[h]
theorem qu: ∀bs:List Bool,ik (bs.map D.bl)=some bs
 | []=>rfl
 |b::r=>by show(ik (r.map D.bl)).map (b:: ·)=_;rw[qu r];rfl
theorem qg(bs:List Bool):mq [.lst (bs.map D.bl)]=some (.bl (bs.any id)):=by
 show(ik (bs.map D.bl)).map (λbs=>D.bl (bs.any id))=_
 rw[qu];rfl
theorem zV {p:FT}{t u:FS}{ρ:aB}(h:p ρ=some false):dQ p t u ρ=u ρ:=by unfold dQ;rw[h]
theorem hV {p:FT}{t u:FS}{ρ:aB}(h:p ρ=some true):dQ p t u ρ=t ρ:=by unfold dQ;rw[h]
theorem yB {p q:FT}{ρ:aB}{b:Bool}(h1:p ρ=some false)(h2:q ρ=some b):ky p q ρ=some b:=by unfold ky;rw[h1];exact h2
theorem AJ {p q:FT}{ρ:aB}(h1:p ρ=some true):ky p q ρ=some true:=by unfold ky;rw[h1];rfl
theorem vg {p q:FT}{ρ:aB}{b:Bool}(h1:p ρ=some true)(h2:q ρ=some b):eE p q ρ=some b:=by unfold eE;rw[h1];exact h2
theorem zx {p q:FT}{ρ:aB}(h1:p ρ=some false):eE p q ρ=some false:=by unfold eE;rw[h1];rfl
theorem vh {p q:FT}{ρ:aB}{a b:Bool}(h1:p ρ=some a)(h2:a=true->q ρ=some b)(h3:a=false->b=false):eE p q ρ=some b:=by
 cases a with
 |true=>exact vg h1 (h2 rfl)
 |false=>rw[h3 rfl];exact zx h1
theorem yo {p:FT}{ρ:aB}{b:Bool}(h:p ρ=some b):oM p ρ=some (.bl b):=by unfold oM;rw[h];rfl
theorem cz {f:FE}{ρ:aB}{b:Bool}(h:f ρ=some (.bl b)):be f ρ=some b:=by unfold be;rw[h];rfl
theorem ml {f:FE}{ρ:aB}{b:Bool}(h:f ρ=some (.bl b)):fI f ρ=some b:=by unfold fI;rw[h];rfl
theorem uP {p:FT}{ρ:aB}{b:Bool}(h:p ρ=some b):gz p ρ=some (!b):=by unfold gz;rw[h];rfl
theorem db {g:FG}{b:FS}{d:D}{r:List D}{ρ ρ1 ρ2:aB}(h1:g d ρ=some ρ1)(h2:b ρ1=.nx ρ2):dE g b (d::r) ρ=dE g b r ρ2:=by
 show(match g d ρ with
  |none=>Out.no
  |some ρ1=>match b ρ1 with
   | .nx ρ2=>dE g b r ρ2
   | .ct ρ2=>dE g b r ρ2
   | .bk ρ2=>.nx ρ2
   | .rt d ρ2=>.rt d ρ2
   | .no=>.no)=_
 rw[h1];dsimp only;rw[h2]
theorem gP {f:GA}{g:FG}{b:FS}{ρ ρ1:aB}{ds:List D}(h:f ρ=some (ds,ρ1)):cY f g b ρ=dE g b ds ρ1:=by unfold cY;rw[h]
theorem fC {kd:Kd}{n:Nat}{t:FS}{ds:List D}{d:D}(h: ∃ρ,t (eG n ds)=.rt d ρ):iw kd n t ds=some d:=let⟨_,h⟩:=h;mS h
theorem x8 {t u:FS}{ρ:aB}{d:D}(P:aB->Prop)(h: ∃ρ',t ρ=.nx ρ'/\P ρ')(hu: ∀ρ',P ρ'-> ∃ρ'',u ρ'=.rt d ρ''): ∃ρ'',ay t u ρ=.rt d ρ'':=by
 obtain⟨ρ',h1,h2⟩:=h
 obtain⟨ρ'',h3⟩:=hu ρ' h2
 exact⟨ρ'',(av h1).trans h3⟩
theorem jA {f:GA}{g:FG}{b:FS}{ρ ρ1:aB}{ds:List D}{P:aB->Prop}(h:f ρ=some (ds,ρ1))(hl: ∃ρ',dE g b ds ρ1=.nx ρ'/\P ρ'): ∃ρ',cY f g b ρ=.nx ρ'/\P ρ':=by
 obtain⟨ρ',h1,h2⟩:=hl
 exact⟨ρ',(gP h).trans h1,h2⟩
theorem jE {g:FG}{b:FS}{P:aB->Prop}: ∀(l:List D),(∀d∈l,∀ρ,P ρ-> ∃ρ1 ρ2,g d ρ=some ρ1/\b ρ1=.nx ρ2/\P ρ2)-> ∀ρ,P ρ-> ∃ρ',dE g b l ρ=.nx ρ'/\P ρ'
 | [],_,ρ,p=>⟨ρ,rfl,p⟩
 |d::l,h,ρ,p=>by
  obtain⟨ρ1,ρ2,h1,h2,p2⟩:=h d (by simp) ρ p
  obtain⟨ρ',e,p'⟩:=jE l (λd' hd=>h d' (by simp[hd])) ρ2 p2
  exact⟨ρ',(db h1 h2).trans e,p'⟩
theorem wF(i:Int){n:Nat}(h:0<n):(i % (n:Int)).toNat<n/\(((i % (n:Int)).toNat:Nat):Int)=i % n:=by
 have:=cn (i:=i) (m:=n) (by omega)
 omega
theorem iX {α:Type}{g:FG}{p:FT}{f:FE}{ρ0:aB}{h o:α->D}{q:α->Bool}: ∀(l:List α),(∀i∈l,∃ρ1,g (h i) ρ0=some ρ1/\p ρ1=some (q i)/\(q i=true->f ρ1=some (o i)))->bF g p f ρ0 (l.map h)=some ((l.filter q).map o)
 | [],_=>rfl
 |a::l,H=>by
  obtain⟨ρ1,h1,h2,h3⟩:=H a (by simp)
  have ih:=iX l λi hi=>H i (by simp[hi])
  rw[List.map_cons];unfold bF;rw[h1,Option.bind_some,h2,Option.bind_some];cases e:q a with
  |true=>rw[if_pos rfl,h3 e,Option.bind_some,ih];simp[e]
  |false=>rw[if_neg (by simp),ih];simp[e]
theorem dY(r:List Nat)(ρ:aB)(f:FE)(h:f ρ=some (bi r)):aj cb (aa f ah) ρ=some (nI r.length):=by
 rw[br (az h rfl)];show some (D.int ((r.map nI).length:Int))=_;rw[List.length_map]
theorem BL(a b:Nat):bS (nI a) (nI b)=some (.int ((a:Int) -b)):=dq _ _
def Bl(n s e x:Nat):Bool:=decide (((x:Int) -s) % n<((e:Int) -s) % n)
theorem uE: ∀k l:List Int,bY (k.map D.int) (l.map D.int)=decide (k=l)
 | [],[]=>by simp[bY]
 | [],_::_=>by simp[bY]
 |_::_,[]=>by simp[bY]
 |a::k,b::l=>by
  rw[List.map_cons,List.map_cons];unfold bY;rw[uE k l,iB,Bool.eq_iff_iff];simp
theorem xf(k l:List Int):dg (wo k) (wo l)=decide (k=l):=by
 unfold wo dg;exact uE k l
theorem Ord.get {n:Nat}{o:List Nat}(O:Ord n o){i:Nat}(h:i<n):o.getD i 0<n:=by
 have ho:=O.len
 have:o.getD i 0=o[i]'(by omega):=by simp[List.getD,ho,h]
 rw[this];exact O.lt (List.getElem_mem _)
theorem Ord.inj {n:Nat}{o:List Nat}(O:Ord n o){i j:Nat}(hi:i<n)(hj:j<n)(e:o.getD i 0=o.getD j 0):i=j:=ph O.nd (by rw[O.len];exact hi) (by rw[O.len];exact hj) e
section
variable {X:Cx}{c:Ct}{k:Kd}{pos:Pos}
def uW(i j:Nat)(fs:FA):FS:=λρ=>match fs ρ with
 |some [d1,d2]=>.nx ((ρ.set i (.v d1)).set j (.v d2))
 |_=>.no
theorem yc(i j:Nat){x y:Str}{a b:Expr}{fs:FA}{px py pt:Pos}{kt k2 pt2}(hc:X.calm=true)(hN:X.N.Nodup)(ha:DA X c [a,b] fs)(hi:X.N[i]? =some x:=by rfl)(hj:X.N[j]? =some y:=by rfl)(hij:i≠j:=by decide)
 (hx:X.env.scope.names.lookup x=some .local:=by rfl) (hy:X.env.scope.names.lookup y=some .local:=by rfl)
 (hw:swappedStores [.Tuple [.Name x px,.Name y py] kt pt] (.Tuple [a,b] k2 pt2) X.env=pure (some [x,y]):=by rfl)
 (hs:swapsWithSole [.Tuple [.Name x px,.Name y py] kt pt] (.Tuple [a,b] k2 pt2) pos.line X.env=pure false:=by rfl):
 DS X c k (.Assign [.Tuple [.Name x px,.Name y py] kt pt] (.Tuple [a,b] k2 pt2) pos) (uW i j fs):=λρ=>
 PS.imp (zA hc hN hi hj hij hx hy (Aj λhid=>ha hid ρ) hw hs) λD σ H hq_=>by
  obtain⟨hid,sr,q⟩:=hq_
  unfold uW at q;cases e1:fs ρ with
  |none=>rw[e1] at q;exact q.elim
  |some ds=>
   rw[e1] at q
   match ds,e1,q with
   | [],_,q=>exact q.elim
   | [_],_,q=>exact q.elim
   |_::_::_::_,_,q=>exact q.elim
   | [d1,d2],e1,q=>
     refine⟨hid,sr,[d1,d2],e1,λvs H1 s1 r1=>?_⟩
     cases r1 with
     |cons r1 t=>
      cases t with
      |cons r2 t=>
       cases t
       exact⟨_,_,rfl,q _ H1 hid (((sr.ext s1).setV r1 i).setV r2 j) (aS s1)⟩
end
open PySem PySem.W PySem.Spec PyProof.Rows
section
variable {X:Cx}{c:Ct}{a b e:Expr}{f g:FE}{pos p p2 p3:Pos}{k:Kd}
def xM(K:W.Frag):R2:=λx y H Q=> ∃l b xs zs,x=.ref l/\y=.ref b/\SqL K H l xs/\SqL K H b zs/\xs.length+zs.length<=sizeLine/\ ∀p,H p=none->Q (.ref p) (bf H p (.lst (xs++zs)))
theorem vo:iu X (binaryOp .Add) (xM X.K):=by
 intro ae s σ H x y v u Q I rx ry h;obtain⟨l,b,xs,zs,rfl,rfl,hL,hB,hz,q⟩:=h
 cases rx
 cases ry
 obtain⟨its,r,⟨o,n,e,c1,d1,t1⟩,z1⟩:=I.list hL
 obtain⟨its2,r2,⟨o2,n2,e2,c2,d2,t2⟩,z2⟩:=I.list hB
 obtain⟨oc,od,ot,sl⟩:=o
 obtain⟨oc2,od2,ot2,sl2⟩:=o2
 dsimp only at c1 d1 t1 c2 d2 t2;subst c1 d1 t1 c2 d2 t2;have hl:=r.length
 have hl2:=r2.length
 refine concat_meets ⟨_,e,rfl⟩ ⟨_,e2,rfl⟩ noFill_list_add seq_list_add PySem.F.slot_list_add PySem.F.entry_list_add (PySem.F.args_list_add_2 _ _) (list_addW l b its.toArray its2.toArray n n2 none none sl sl2 (by rw[List.size_toArray,List.size_toArray];omega)) ⟨e,e2,?_⟩
 have ea:its.toArray++its2.toArray=(its++its2).toArray:=by simp
 rw[ea];exact⟨.ref _,_,I.lnew (t':=s.toks) (r.append r2) (by rw[List.length_append];omega),rfl,q _ I.fresh⟩
def nZ:D->D->Option D
 | .lst xs,.lst ys=>if xs.length+ys.length<=sizeLine then some (.lst (xs++ys)) else none
 |_,_=>none
theorem xa {K:W.Frag}:jU K .n (xM K) nZ:=by
 intro H hid v u x y d Q hf h r1 r2 q;unfold nZ at h;split at h
 ·split at h
  ·rename_i hz
   cases h
   obtain⟨a,xs,rfl,h1,h2⟩:=r1.lst
   obtain⟨b,ys,rfl,h3,h4⟩:=r2.lst
   exact⟨a,b,xs,ys,rfl,rfl,h1,h3,by rw[h2.length,h4.length];exact hz,λp hp=>q _ _ (aU hp _) (ia hp (Same.refl _) (h2.append h4))⟩
  ·cases h
 ·cases h
theorem vG {k1 k2:Kd}(ha:DP X c k1 a f)(hb:DP X c k2 b g):DP X c .n (.BinOp a .Add b pos) (ai nZ f g):=j7 vo xa ha hb
def zO:D->D->Option D
 | .int i,.int j=>if i.natAbs<=1000000/\j.natAbs<=1000000/\(j-i).natAbs<=1000000 then some (.lst (oJ i (j-i).toNat)) else none
 |_,_=>none
def AW(f g:FE):FE:=ai zO f g
theorem kK {k2:Kd}(hc:X.calm=true)(hml:X.mg "list"=none)(hmr:X.mg "range"=none)(he:DP X c k a f)(hf:DP X c k2 b g)(hgl:Gl X "list":=by rfl)(hgr:Gl X "range":=by rfl)(hvl:bootBuiltins "list"=some (.type "list"):=by kernel_rfl)(hvr:bootBuiltins "range"=some (.type "range"):=by kernel_rfl)
 (hs1:starEach [a,b] X.env=(false,eval a X.env)::starEach [b] X.env:=by rfl) (hs3:starEach [b] X.env=(false,eval b X.env)::starEach [] X.env:=by rfl) (hpl1:(backTo pos (starEach [] X.env)).any (·.1)=false:=by rfl) (hpl2:(backTo p2 (starEach [b] X.env)).any (·.1)=false:=by rfl)
 (hs2:starEach [.Call (.Name "range" p3) [a,b] [] p2] X.env=(false,eval (.Call (.Name "range" p3) [a,b] [] p2) X.env)::starEach [] X.env:=by rfl):
 DP X c .n (.Call (.Name "list" p) [.Call (.Name "range" p3) [a,b] [] p2] [] pos) (AW f g):=λhid ρ=>
 PE.imp (eN (gY hc) hgl hml hvl (bp (eN rX hgr hmr hvr (bp (he hid ρ) (bp (hf hid ρ) cO hs3) hs1) (by decide) (by decide) hs1 hpl2) cO hs2) (by decide) (by decide) hs2 hpl1) λσ H Q hq_=>by
  obtain⟨sr,d,hd,q⟩:=hq_
  obtain⟨x,y,e1,e2,e3⟩:=ka hd
  unfold zO at e3;split at e3
  ·split at e3
   ·rename_i i j hb
    cases e3
    refine⟨sr,_,e1,λv H1 s1 r1=>⟨sr.ext s1,_,e2,λu H2 s2 r2=>?_⟩⟩
    have b1:=(RK.b k r1 λa n=>sr.fresh n).int
    have b2:=(RK.b k2 r2 λa n=>(sr.ext s1).fresh n).int
    cases b1
    cases b2
    refine⟨i,j,rfl,λr hr=>?_⟩
    refine⟨r,i,j,rfl,ax,by omega,by omega,by omega,by omega,by omega,λl hl=>?_⟩
    have s3:Same H (bf H2 r (.rng i j)):=(s1.trans s2).trans (aU hr _)
    exact q _ _ (s3.trans (aU hl _)) (ia (hid:=hid) (K:=X.K) hl s3 (xo i (j-i).toNat))
   ·cases e3
  ·cases e3
end
abbrev nh:List Value:=[.type "ValueError",.type "Exception",.type "BaseException",.type "object"]
structure ExcC(K:W.Frag)(C:Addr):Prop where
 ga:W.findIn K (.ref C) "__getattribute__"=some (some (.builtin "BaseException.__getattribute__"))
 gt:W.findIn K (.ref C) "__getattr__"=some none
 cl:W.findIn K (.ref C) "__class__"=some (some (.builtin "object.__class__"))
 sp:W.specialIn K (.builtin "object.__class__") "__get__"=some (some (.builtin "getset_descriptor.__get__"))
 tk:W.takesIn K (.builtin "object.__class__")=some true
 mo:W.mroIn K C (.type "object")=some true
 mb:W.mroIn K C (.type "BaseException")=some true
section
variable {K:W.Frag}{C:Addr}{prog:Program}{w:World}{A:Around}{E:Value->Shared->Prop}{s:Shared}{a:Addr}{o:Obj}
theorem ExcC.cls(X:ExcC K C): ∃cd,W.clsIn K C=some cd:=by
 obtain⟨cd,h,_⟩:=Option.bind_eq_some_iff.mp X.mo
 exact⟨cd,h⟩
theorem s0(X:ExcC K C):W.findObj K C none "__class__"=some (.bind (.builtin "getset_descriptor.__get__") (.builtin "object.__class__")):=by
 obtain⟨cd,hc⟩:=X.cls
 unfold W.findObj;rw[hc,Option.bind_some,X.cl,Option.bind_some];dsimp only;rw[X.sp,Option.bind_some];dsimp only;rw[X.tk,Option.bind_some]
theorem sf(X:ExcC K C)(KI:K.In s.heap)(I:W.InstAt s.heap a o C none){Q:Option Value->Shared->Prop}(h:Q (some (.ref C)) {s with toks:=s.toks+1}):
 wpAny (model prog w) A (getAttr? (.ref a) "__class__") Q E s:=by
 obtain⟨hh,g,d,t,os⟩:=s
 have L0:=I.type (M:=model prog w)
 have L1:=W.looks_findIn (M:=model prog w) KI X.ga
 have L2:=W.looks_findIn (M:=model prog w) KI X.gt
 have L3:=W.looks_find (M:=model prog w) KI I (s0 X)
 have L4:=W.looks_mroIn (M:=model prog w) KI X.mb
 have f3:=F.attrBase_ValueError.ga.bind (.ref a)
 unfold getAttr? getAttrBy? getAttrBy;refine wpAny_bind (wpAny_mkText (wpAny_bind (wpAny_attempt (wpAny_holding (wpAny_bind (L0.at (wpAny_bind (L1.at ?_))))))))
 dsimp only;have hx2:(Value.builtin "BaseException.__getattribute__"==Value.builtin "object.__getattribute__")=false:=by decide+kernel
 rw[if_neg (by rw[hx2];simp)]
 unfold getAttrByItsOwn hookBefore callGetattribute boundAndCalled;refine wpAny_bind ?_
 show wpAny _ _ (typeLookup (.ref C) "__getattr__") _ _ _;refine L2.at ?_
 refine wpAny_bind (wpAny_attempt (wpAny_holding ?_))
 simp only[Bool.false_and,Bool.false_eq_true,if_false];rw[f3];refine wpAny_bind (wpAny_pure ?_)
 dsimp only;refine wpAny_call (codeAny_call_builtin F.attrBase_ValueError.ga.plain F.entry_bexc_ga ?_)
 have hk:builtinKind "BaseException.__getattribute__"=some .slot:=by decide+kernel
 have hsplit:splitId "BaseException.__getattribute__"=some ("BaseException","__getattribute__"):=by decide+kernel
 have ha:=F.args_bexc_ga (.ref a) (.str "__class__" t)
 show wpAny _ _ (checkBuiltinCall "BaseException.__getattribute__" ⟨[.ref a,.str "__class__" t],[]⟩) _ _ _;simp only[checkBuiltinCall,hk,hsplit];have LI:W.Looks (model prog w) hh (isInstance (.ref a) (.type "BaseException")) true:=L0.andThen L4
 refine wpAny_bind (LI.at ?_)
 rw[if_neg (by simp)]
 refine wpAny_of_eq (a:=()) ha ?_
 unfold Builtin.«object.__getattribute__»;refine wpAny_bind (wpAny_pure (a:=(Value.ref a,[Value.str "__class__" t])) ?_)
 dsimp only;refine wpAny_bind (wpAny_pure (a:=("__class__":Str)) ?_)
 refine wpAny_bind (L0.at (wpAny_bind (L3.at ?_)))
 dsimp only;show wpAny _ _ (do let v <-holding [Value.builtin "object.__class__"] (call (.builtin "getset_descriptor.__get__") [.builtin "object.__class__",.ref a,.ref C]);ret v) _ _ _
 refine wpAny_bind (wpAny_holding (wpAny_call (W.class_get (K:=K) (ox:=o) (od:=none) KI I X.mo ?_)))
 refine wpAny_pure ?_
 dsimp only;exact wpAny_of_eq (a:=Value.ref C) rfl (wpAny_pure h)
theorem mx(X:ExcC K C):W.KitX K (.ref a) (.ref C) (λh=> ∃o,W.InstAt h a o C none) where
 ty:=λ_ _ _ I=>let⟨_,I⟩:=I;I.type
 it:=λ_ _ KI _=>by
  obtain⟨cd,hc⟩:=X.cls
  unfold W.clsIn at hc;split at hc
  ·rename_i c' d' cd' sl' ho
   intro A' Q' E' s' k q;unfold isType loadHead;exact wpAny_bind (wpAny_loadPart (k _ _ (KI _ _ ho)) (wpAny_pure q))
  ·cases hc
 ne:=λh tp dd its n sl KI htp=>by
  obtain⟨cd,hc⟩:=X.cls
  refine Bool.eq_false_iff.mpr λq=>?_
  have e:C=tp:=Value.ref.inj (beq_iff_eq.mp q)
  subst e;unfold W.clsIn at hc;split at hc
  ·rename_i c' d' cd' sl' ho
   have z:=(KI _ _ ho).symm.trans htp
   cases z
  ·cases hc
 ca:=λKI I k=>let⟨_,I⟩:=I;sf X KI I k
end
def Trc(h B:Heap)(e:Addr)(o0:Obj):Prop:=
 ∃vs T oT ts,h.get? e=some {o0 with data:=.fields vs}/\vs[1]? =some (.ref T)/\B.get? T=none/\T≠e/\h.get? T=some oT/\oT.data=.fields ts/\ts[3]? =some .none
def Cu(h:Heap)(e:Addr)(o0:Obj):Prop:= ∃vs,h.get? e=some {o0 with data:=.fields vs}/\vs[1]? =some .none
structure InFl(B:Heap)(l:List Env)(e:Addr)(o0:Obj)(h:Heap):Prop where
 st:B.StaysIn h
 ne:B.get? e=none
 ff:h.FunFrames B l
 tr:Trc h B e o0\/Cu h e o0
section
variable {M:Model}{A:Around}{E:Value->Shared->Prop}{s:Shared}{B:Heap}{env:Env}{outer:List Env}{L e:Addr}{o0:Obj}
theorem nG {vs:Array Value}{head:Value}{hn:Bool}{Q:Unit->Shared->Prop}(hfr:A.frames=some (env::outer))(hl:s.heap.FunFrames B (env::outer))(hf:env.frame=some L)
 (he:s.heap.get? e=some {o0 with data:=.fields vs}) (hsz:1<vs.size) (hB:B.StaysIn s.heap) (ne:B.get? e=none)
 (h: ∀h',InFl B (env::outer) e o0 h'->Trc h' B e o0->s.heap.UpToSlots h'->Q () {s with heap:=h'}):
 wpAny M A (do let a <-frameOf env;let pl <-entryPlaceOf L hn;let b <-EntryCells.newEntry head a .none (rawInt L) .none pl;setField (.ref e) 1 b) (λ_ s'=>wpAny M A (setFlight (.ref e) none) Q E s') E s:=by
 have hne:e∉gj (env::outer):=λhm=>by
  obtain⟨_,o,ho,nf⟩:=hl.mem hm
  rw[he] at ho;cases ho;exact nf vs rfl
 refine wpAny_bind (wpAny_frameOf_fun hfr hl hf λh1 k1=>wpAny_bind (wpAny_entryPlaceOf λpl hp=>?_))
 unfold EntryCells.newEntry newFields;refine wpAny_bind (wpAny_newObj_type ?_ (hp.sizeOk5 _ _ _ _ _))
 have e1:h1.get? e=some {o0 with data:=.fields vs}:=(k1.2.1 e hne).trans he
 generalize hten:([head,.ref L,.none,rawInt L,.none]++(if pl.isEmpty then List.replicate 6 Value.none else pl)).toArray=ten
 have tsz:3<ten.size:=by rw[<-hten];simp only[List.size_toArray,List.length_append,List.length_cons,List.length_nil];omega
 generalize hT:h1.objs.size=T
 have Tn:h1.get? T=none:=by rw[<-hT];exact Heap.get?_none_of_le (Nat.le_refl _)
 have Te:T≠e:=λq=>by rw[q,e1] at Tn;cases Tn
 have e2:(h1.push {cls:=.type "traceback",dict:=none,data:=.fields ten}).get? e=some {o0 with data:=.fields vs}:=Heap.get?_push_of_some _ e1
 have t2:(h1.push {cls:=.type "traceback",dict:=none,data:=.fields ten}).get? T=some {cls:=.type "traceback",dict:=none,data:=.fields ten}:=by rw[<-hT];exact Heap.get?_push_size h1 rfl
 refine wpAny_setField e2 rfl hsz ?_
 have e3:=Heap.get?_update_self (Obj.mapFields (·.setIfInBounds 1 (Value.ref T))) e2 (Obj.isFreed_of_fields rfl)
 have t3:=(Heap.get?_update_other (h1.push {cls:=.type "traceback",dict:=none,data:=.fields ten}) (Obj.mapFields (·.setIfInBounds 1 (Value.ref T))) (Ne.symm Te)).trans t2
 unfold setFlight;refine wpAny_bind (wpAny_field e3 rfl (x:=.ref T) (by simp[hsz]) ?_)
 rw[if_pos (by simp:(Value.ref T !=Value.none)=true)]
 refine wpAny_setField t3 rfl tsz ?_
 have kp: ∀b o,b≠e->h1.get? b=some o->(((h1.push {cls:=.type "traceback",dict:=none,data:=.fields ten}).update e (Obj.mapFields (·.setIfInBounds 1 (Value.ref T)))).update T
  (Obj.mapFields (·.setIfInBounds 3 ((none:Option Addr).elim Value.none λf=>rawInt f)))).get? b=some o:=λb o nb hb=>by
  rw[Heap.get?_update_other _ _ (λq=>by rw[<-q,Tn] at hb;cases hb),Heap.get?_update_other _ _ (Ne.symm nb)]
  exact Heap.get?_push_of_some _ hb
 have nr: ∀b o,s.heap.get? b=some o->(∀vs,o.data≠ .fields vs)->b≠e:=λb o hb nf q=>by
  rw[q,he] at hb;cases hb;exact nf vs rfl
 have B1:B.StaysIn h1:=λb o hb=>(k1.2.1 b λhm=>by rw[(hl.mem hm).1] at hb;cases hb).trans (hB b o hb)
 have TB:B.get? T=none:=by
  cases q:B.get? T with
  |none=>rfl
  |some o=>rw[B1 T o q] at Tn;cases Tn
 have tr:Trc (((h1.push {cls:=.type "traceback",dict:=none,data:=.fields ten}).update e (Obj.mapFields (·.setIfInBounds 1 (Value.ref T)))).update T
  (Obj.mapFields (·.setIfInBounds 3 ((none:Option Addr).elim Value.none λf=>rawInt f)))) B e o0:=
  ⟨_,T,_,_,(Heap.get?_update_other _ _ Te).trans e3,by simp[hsz],TB,Te,Heap.get?_update_self _ t3 (Obj.isFreed_of_fields rfl),rfl,by simp[tsz]⟩
 refine h _ ⟨λb o hb=>kp b o (λq=>by rw[q,ne] at hb;cases hb) (B1 b o hb),ne,hl.of_keeps λb o hb nf=>?_,.inl tr⟩ tr λb o hb nf=>?_
 ·obtain⟨sl,q⟩:=k1.2.2 b o hb
  exact⟨_,kp b _ (nr b o hb nf) q,rfl⟩
 ·obtain⟨sl,q⟩:=k1.2.2 b o hb
  exact⟨sl,kp b _ (nr b o hb nf) q⟩
theorem qj {Q:Unit->Shared->Prop}(hfr:A.frames=some (env::outer))(hf:env.frame=some L)(x:InFl B (env::outer) e o0 s.heap)
 (h: ∀h',InFl B (env::outer) e o0 h'->Trc h' B e o0->s.heap.UpToSlots h'->Q () {s with heap:=h'}):
 wpAny M A (noteFrame (.ref e) env) (λ_ s'=>wpAny M A (setFlight (.ref e) none) Q E s') E s:=by
 obtain⟨st,ne,ff,tr⟩:=x
 unfold noteFrame;simp only[hf];rcases tr with⟨vs,T,oT,ts,he,h1,TB,Te,hT,hd,h3⟩|⟨vs,he,h1⟩
 ·refine wpAny_bind (wpAny_field he rfl h1 ?_)
  rw[if_pos (by simp:(Value.ref T !=Value.none)=true)]
  refine wpAny_bind (wpAny_field hT hd h3 ?_)
  rw[if_neg (by simp[rawInt]: ¬((Value.none==rawInt L)=true))]
  refine wpAny_bind (wpAny_setField hT hd (Array.getElem?_eq_some_iff.mp h3).1 ?_)
  have ot: ∀b,b≠T->(s.heap.update T (Obj.mapFields (·.setIfInBounds 3 Value.none))).get? b=s.heap.get? b:=λb nb=>Heap.get?_update_other _ _ (Ne.symm nb)
  have nr: ∀b o,s.heap.get? b=some o->(∀vs,o.data≠ .fields vs)->b≠T:=λb o hb nf q=>by
   rw[q,hT] at hb;cases hb;exact nf ts hd
  exact nG hfr (ff.of_keeps λb o hb nf=>⟨o,(ot b (nr b o hb nf)).trans hb,rfl⟩) hf ((ot e (Ne.symm Te)).trans he) (Array.getElem?_eq_some_iff.mp h1).1
   (λb o hb=>(ot b λq=>by rw[q,TB] at hb;cases hb).trans (st b o hb)) ne λh' x1 x2 x3=>h h' x1 x2 λb o hb nf=>x3 b o ((ot b (nr b o hb nf)).trans hb) nf
 ·refine wpAny_bind (wpAny_field he rfl h1 ?_)
  rw[if_neg (by decide)]
  exact nG hfr ff hf he (Array.getElem?_eq_some_iff.mp h1).1 st ne h
theorem t4 {Q:Unit->Shared->Prop}(hfr:A.frames=some (env::outer))(hf:env.frame=some L)(x:InFl B (env::outer) e o0 s.heap)
 (h: ∀h',InFl B outer e o0 h'->s.heap.UpToSlots h'->Q () {s with heap:=h'}):wpAny M A (leaving env (.ref e)) Q E s:=by
 unfold leaving;exact wpAny_bind (qj hfr hf x λh' x1 _ x3=>h h' ⟨x1.st,x1.ne,x1.ff.2.2,x1.tr⟩ x3)
theorem wX {Q:Unit->Shared->Prop}{l:List Env}(x:InFl B l e o0 s.heap)(t:Trc s.heap B e o0)
 (h: ∀h',InFl B l e o0 h'->Trc h' B e o0->s.heap.UpToSlots h'->Q () {s with heap:=h'}):wpAny M A (setFlight (.ref e) none) Q E s:=by
 obtain⟨vs,T,oT,ts,he,h1,TB,Te,hT,hd,h3⟩:=t
 have sz:=(Array.getElem?_eq_some_iff.mp h3).1
 unfold setFlight;refine wpAny_bind (wpAny_field he rfl h1 ?_)
 rw[if_pos (by simp:(Value.ref T !=Value.none)=true)]
 refine wpAny_setField hT hd sz ?_
 have ot: ∀b,b≠T->(s.heap.update T (Obj.mapFields (·.setIfInBounds 3 ((none:Option Addr).elim Value.none λf=>rawInt f)))).get? b=s.heap.get? b:=λb nb=>Heap.get?_update_other _ _ (Ne.symm nb)
 have nr: ∀b o,s.heap.get? b=some o->(∀vs,o.data≠ .fields vs)->b≠T:=λb o hb nf q=>by
  rw[q,hT] at hb;cases hb;exact nf ts hd
 have tr:Trc (s.heap.update T (Obj.mapFields (·.setIfInBounds 3 ((none:Option Addr).elim Value.none λf=>rawInt f)))) B e o0:=
  ⟨vs,T,_,_,(ot e (Ne.symm Te)).trans he,h1,TB,Te,Heap.get?_update_self _ hT (Obj.isFreed_of_fields (Obj.data_mapFields hd _)),Obj.data_mapFields hd _,by simp[sz]⟩
 exact h _ ⟨λb o hb=>(ot b λq=>by rw[q,TB] at hb;cases hb).trans (x.st b o hb),x.ne,x.ff.of_keeps λb o hb nf=>⟨o,(ot b (nr b o hb nf)).trans hb,rfl⟩,.inl tr⟩ tr λb o hb nf=>⟨o.slots,(ot b (nr b o hb nf)).trans hb⟩
end
theorem qL {h base g:Heap}{F:List Addr}: ∀ {l:List Env},h.FunFrames base l->(∀b∈gj l,b∈F)->h.FunFrames (W.hideAll g F) l
 | [],_,_=>trivial
 |env::r,⟨hk,⟨L,o,hf,hn,ho,hd⟩,hr⟩,hF=>by
  refine⟨hk,⟨L,o,hf,W.hideAll_none F (hF L ?_),ho,hd⟩,qL hr λb hb=>hF b ?_⟩
  ·unfold gj;rw[List.filterMap_cons,hf];exact List.mem_cons_self
  ·unfold gj;rw[List.filterMap_cons,hf];exact List.mem_cons_of_mem _ hb
def Away(X:Cx)(ae:List (Addr×Obj))(H:Hp)(F:List Addr):Prop:=(∀b∈gj X.stack,b∈F)/\
 ∀b∈F,b∉gj X.stack->X.s₀.heap.objs.size<=b/\H b=none/\b≠X.env.locals/\(∀x c,X.env.cells.lookup x=some c->c≠b)/\ ∀p∈X.pn++ae,p.1≠b
section
variable {X:Cx}{ae:List (Addr×Obj)}{σ:St}{H:Hp}{s:Shared}{F:List Addr}{h':Heap}
theorem Away.free(w:Away X ae H F)(I:Inv X ae σ H s){b:Addr}(hb:b∈F):H b=none:=by
 by_cases q:b∈gj X.stack
 ·exact I.stkFree b q
 ·exact(w.2 b hb q).2.1
theorem Inv.flown(I:Inv X ae σ H s)(w:Away X ae H F)(st:(W.hideAll s.heap F).StaysIn h')(up:s.heap.UpToSlots h'):Inv X ae σ H {s with heap:=h'}:=by
 have kp: ∀b o,s.heap.get? b=some o->b∉F->h'.get? b=some o:=λb o e n=>st b o (W.hideAll_get _ e n)
 have fr: ∀b∈gj X.stack,∃o,s.heap.get? b=some o/\ ∀vs,o.data≠ .fields vs:=λb hb=>(I.stack.mem hb).2
 refine I.call' (s':={s with heap:=h'}) (ch:=F.filter λb=>decide (b∉gj X.stack)) rfl ⟨?_,?_,λ_ _ _ n _=>n,?_,λ_ _ q=>q,λ_ _ _ q=>q,λ_ ps q=>⟨#[],by rw[q];simp⟩⟩ ?_ I.bare ?_
 ·intro b o e n hb hc
  refine kp b o e λhF=>hc ?_
  rw[List.mem_filter,decide_eq_true_eq];exact⟨hF,hb⟩
 ·intro b o e n hb hc
  obtain⟨o',e',nf⟩:=fr b hb
  rw[e] at e';cases e';exact up b o e nf
 ·intro b o e hc
  by_cases hF:b∈F
  ·by_cases hs:b∈gj X.stack
   ·obtain⟨o',e',nf⟩:=fr b hs
    obtain⟨sl,q⟩:=up b o' e' nf
    exact⟨_,q⟩
   ·exact absurd (by rw[List.mem_filter,decide_eq_true_eq];exact⟨hF,hs⟩) hc
  ·exact⟨o,kp b o e hF⟩
 ·intro a o e
  refine(I.hok a o e).stay (λb u hb q=>kp b u q λhF=>?_) (λ_ q=>q) λ_ _ q=>q
  have:=w.free I hF
  rcases hb with rfl|hb
  ·rw[e] at this;cases this
  ·rw[hb] at this;cases this
 ·intro b hb
  rw[List.mem_filter,decide_eq_true_eq] at hb;obtain⟨q1,q2,q3,q4,q5⟩:=w.2 b hb.1 hb.2
  exact⟨.inr q1,q3,q4,q5⟩
end
def XS(X:Cx)(ae:List (Addr×Obj))(σ:St)(H:Hp)(o0:Obj)(ea:Addr)(s':Shared):Prop:=
 ∃(g:Heap) (F:List Addr),Inv X ae σ H {s' with heap:=g}/\Away X ae H F/\InFl (W.hideAll g F) X.stack ea o0 s'.heap/\g.UpToSlots s'.heap/\g.get? ea=none
theorem XS.inv {X:Cx}{ae:List (Addr×Obj)}{σ:St}{H:Hp}{o0:Obj}{ea:Addr}{s':Shared}(x:XS X ae σ H o0 ea s'):Inv X ae σ H s':=by
 obtain⟨g,F,I,w,fl,up,_⟩:=x
 exact I.flown (s:={s' with heap:=g}) w fl.st up
def Bn(P:Program)(w:World)(G:Addr->Obj->Prop):mZ:=λouter H s E e s'=>
 ∃(ea:Addr) (o0:Obj) (C:Addr) (g:Heap) (F:List Addr) (H':Hp),e=.ref ea/\o0.cls=.ref C/\G C o0/\s'.os=s.os/\AllBare s'.gens/\Un (gj outer) [] H H' s.heap g/\HOk P w H' g/\
  InFl (W.hideAll g F) outer ea o0 s'.heap/\g.UpToSlots s'.heap/\(∀b∈gj outer,b∈F)/\(∀b∈F,H' b=none/\(b∉gj outer->s.heap.objs.size<=b))/\g.get? ea=none/\E (.ref C) none H'
theorem wU {X:Cx}{ae:List (Addr×Obj)}{σ:St}{H:Hp}{s s':Shared}{G:Addr->Obj->Prop}{E:XK}{e:Value}(I:Inv X ae σ H s)(h:Bn X.prog X.w G X.stack H s E e s'):
 ∃ea o0 C H',e=.ref ea/\o0.cls=.ref C/\G C o0/\XS X ae σ H' o0 ea s'/\E (.ref C) none H':=by
 obtain⟨ea,o0,C,g,F,H',rfl,hc,hG,os,bare,un,hok,fl,up,hF,aw,gn,hE⟩:=h
 have J:Inv X ae σ H' {s' with heap:=g}:=I.call' (s':={s' with heap:=g}) (ch:=[]) os un hok bare λb z=>absurd z (by simp)
 refine⟨ea,o0,C,H',rfl,hc,hG,⟨g,F,J,⟨hF,λb hb nb=>?_⟩,fl,up,gn⟩,hE⟩
 have sz:=(aw b hb).2 nb
 have lt: ∀ {c o},s.heap.get? c=some o->c≠b:=λ{c o} q z=>by subst z;exact absurd (Heap.lt_size q) (Nat.not_lt.mpr sz)
 refine⟨Nat.le_trans I.sz sz,(aw b hb).1,λz=>?_,λx c q=>?_,λp hp=>?_⟩
 ·have:=I.lt
  rw[<-z] at this;exact absurd this (Nat.not_lt.mpr sz)
 ·obtain⟨v,o,ho,_⟩:=I.cell x c q
  exact lt ho
 ·exact lt (I.pin p hp).1
theorem tm {CX:mZ}{P:Program}{w:World}{K:W.Frag}{mg:Str->Option Value}{base:Heap}{N:List Str}{qual:Str}{scope:Scope}{f:Addr}{cd:Value}{A:Around}{outer:List Env}{s:Shared}{H:Hp}{E:XK}{G:Addr->Obj->Prop}
 {ae:List (Addr×Obj)} {σ:St} {H':Hp} {o0:Obj} {ea C:Addr} {s':Shared} (x:XS (ji CX P w K mg base N qual scope f cd A outer s H E) ae σ H' o0 ea s') (hc:o0.cls=.ref C) (hG:G C o0) (hE:E (.ref C) none H') {Q:Unit->Shared->Prop} {E':Value->Shared->Prop}
 (q: ∀s'',Bn P w G outer H s E (.ref ea) s''->Q () s''):wpAny (model P w) (A.deeper (envOfC qual scope s.heap.objs.size f cd)) (leaving (envOfC qual scope s.heap.objs.size f cd) (.ref ea)) Q E' s':=by
 obtain⟨g,F,I,aw,fl,up,gn⟩:=x
 refine t4 (L:=s.heap.objs.size) I.ok.frames rfl fl λh' fl' up'=>q _ ?_
 have L:(ji CX P w K mg base N qual scope f cd A outer s H E).stack=envOfC qual scope s.heap.objs.size f cd::outer:=rfl
 have sub: ∀b∈gj outer,b∈gj (envOfC qual scope s.heap.objs.size f cd::outer):=λb hb=>by
  unfold gj;rw[List.filterMap_cons];exact List.mem_cons_of_mem _ hb
 refine⟨ea,o0,C,g,F,H',rfl,hc,hG,I.os,I.bare,I.base,I.hok,fl',up.trans up',λb hb=>aw.1 b (sub b hb),λb hb=>⟨aw.free I hb,λnb=>?_⟩,gn,hE⟩
 by_cases z:b∈gj (envOfC qual scope s.heap.objs.size f cd::outer)
 ·have:b=s.heap.objs.size\/b∈gj outer:=by
   unfold gj at z;rw[List.filterMap_cons] at z;exact List.mem_cons.mp z
  rcases this with rfl|q
  ·exact Nat.le_refl _
  ·exact absurd q nb
 ·exact(aw.2 b hb z).1
structure Ex where
 x:Str
 n:Int
abbrev qy(K:W.Frag)(z:Ex)(C:Addr):Prop:=W.nsIn K mainGlobals z.x=some (some (.ref C))
def G0:Addr->Obj->Prop:=λ_ o0=>o0.dict=none
abbrev AT(P:Program)(w:World):mZ:=Bn P w G0
def EX(X:Cx)(σ:St):XK:=λv _ H'=> ∀ae ea o0 s',o0.cls=v->o0.dict=none->XS X ae σ H' o0 ea s'->X.xe (.ref ea) s'
abbrev RE:=aB->Option (Except Ex D)
abbrev RA:=aB->Option (Except Ex (List D))
def Ck(X:Cx)(c:Ct)(hid:bL)(k:Kd)(f:RE)(ρ:aB):TE:=λσ H Q=>SR X.K c hid ρ σ H/\ ∃r,f ρ=some r/\match r with
 | .ok d=> ∀v H',Same H H'->RK X.K k H H' hid v d->Q v H'
 | .error z=> ∀C H',Same H H'->qy X.K z C->EX X σ (.ref C) none H'
def DR(X:Cx)(c:Ct)(k:Kd)(e:Expr)(f:RE):Prop:= ∀hid ρ,PE X e (Ck X c hid k f ρ)
def BO(X:Cx)(c:Ct)(hid:bL)(f:RA)(ρ:aB):TA:=λσ H Q=>SR X.K c hid ρ σ H/\ ∃r,f ρ=some r/\match r with
 | .ok ds=> ∀vs H',Same H H'->Reps X.K (vw H' hid) vs ds->Q vs H'
 | .error z=> ∀C H',Same H H'->qy X.K z C->EX X σ (.ref C) none H'
def Cj(X:Cx)(c:Ct)(es:List Expr)(f:RA):Prop:= ∀hid ρ,PA X es (BO X c hid f ρ)
section
variable {X:Cx}{c:Ct}{e a b:Expr}{es rest:List Expr}{k:Kd}{pos p:Pos}{x:Str}{f:Addr}{fd:FuncData}{ps:List Str}{j n:Nat}
def su(f:FA):RA:=λρ=>(f ρ).map .ok
theorem DA.rr {f:FA}(h:DA X c es f):Cj X c es (su f):=λhid ρ=>PA.imp (h hid ρ) λσ H Q hq_=>by
 obtain⟨sr,r,hr,q⟩:=hq_
 unfold su at hr;cases e1:f ρ with
 |none=>rw[e1] at hr;cases hr
 |some d=>rw[e1] at hr;cases hr;exact⟨sr,d,e1,q⟩
def AN(K:W.Frag)(k:Kd)(n:Nat)(P:List D->Option (Except Ex D)):Sp:=λvs H Q E=> ∃hid ds,zr hid H/\Reps K (vw H hid) vs ds/\ds.length=n/\ ∃r,P ds=some r/\match r with
 | .ok d=> ∀v H',Same H H'->RK K k H H' hid v d->Q v H'
 | .error z=> ∀C H',Same H H'->qy K z C->E (.ref C) none H'
structure ClX(P:Program)(w:World)(K:W.Frag)(mg:Str->Option Value)(base:Heap)(k:Nat)(x:Str)(ps:List Str)(sp:Sp):Prop where
 ex: ∃f fd,FnOk P w K mg base (AT P w) k f fd ps sp/\mg x=some (.ref f)/\W.keepIn K (.ref f)=true/\Binds K fd ps []
theorem xg {sp:Sp}{ae:List (Addr×Obj)}{σ:St}{H:Hp}{s:Shared}{Q:VK}{us:List Value}{vs:List V}(F:FnOk X.prog X.w X.K X.mg X.base (AT X.prog X.w) j f fd ps sp)(hr:Room j X.A)(hb:Binds X.K fd ps [])
 (I:Inv X ae σ H s) (r:Vals vs us) (h:sp vs H Q (EX X σ)):wpAny (model X.prog X.w) X.A (call (.ref f) us) (EP X ae σ Q) X.xe s:=by
 have hl:(us++[]).length=ps.length:=by rw[List.append_nil,<-r.length];exact F.len _ _ _ _ h
 have hb':=hb s us I.kIn hl
 rw[List.append_nil] at hb';refine wpAny_call (codeAny_mono (F.run X.A X.stack s H ⟨us,[]⟩ us vs Q (EX X σ) hr I.env0 hb' r h) λr s' hq=>?_)
 cases r with
 |error e=>
  obtain⟨ea,o0,C,H',rfl,hc,hG,xs,hE⟩:=wU I hq
  exact hE ae ea o0 s' hc hG xs
 |ok fl=>
  cases fl with
  |ret u=>exact I.after hq
  |next=>exact False.elim hq
  |brk=>exact False.elim hq
  |cont=>exact False.elim hq
theorem uu {sp:Sp}{t:TA}(F:FnOk X.prog X.w X.K X.mg X.base (AT X.prog X.w) j f fd ps sp)(hr:Room j X.A)(hg:Gl X x)(hm:X.mg x=some (.ref f))(hk:W.keepIn X.K (.ref f)=true)(hb:Binds X.K fd ps [])
 (ha:PA X (e::es) t) (hdb:(x==("__debug__":Str))=false:=by decide) (he:starEach (e::es) X.env=(false,eval e X.env)::starEach es X.env:=by rfl) (hpl:(backTo pos (starEach es X.env)).any (·.1)=false:=by rfl):
 PE X (.Call (.Name x p) (e::es) [] pos) (λσ H Q=>t σ H λvs H1=>sp vs H1 Q (EX X σ)):=by
 intro ae s σ H Q I h;refine wpAny_Call_Name_kw (gQ I hg hm ?_ hdb)
 refine W.callWith_K (h₀:=X.base) I.ok.mod.kin hk (cv (ha pos ae s σ H _ I h) λus s1 ⟨vs,H1,I1,r,q⟩=>⟨I1.kIn,?_⟩) he hpl
 exact xg F hr hb I1 r q
def lL(n:Nat)(P:List D->Option (Except Ex D))(fs:RA):RE:=λρ=>(fs ρ).bind λq=>match q with
 | .error z=>some (.error z)
 | .ok ds=>if ds.length=n then P ds else none
theorem AC {P:List D->Option (Except Ex D)}{fs:RA}(F:ClX X.prog X.w X.K X.mg X.base j x ps (AN X.K k n P))(hr:Room j X.A)(ha:Cj X c (e::es) fs)
 (hg:Gl X x:=by rfl) (hdb:(x==("__debug__":Str))=false:=by decide) (he:starEach (e::es) X.env=(false,eval e X.env)::starEach es X.env:=by rfl) (hpl:(backTo pos (starEach es X.env)).any (·.1)=false:=by rfl):
 DR X c k (.Call (.Name x p) (e::es) [] pos) (lL n P fs):=λhid ρ=>by
 obtain⟨f,fd,F,hm,hk,hb⟩:=F.ex
 refine PE.imp (uu F hr hg hm hk hb (ha hid ρ) hdb he hpl) λσ H Q hq_=>?_
 obtain⟨sr,r,h,q⟩:=hq_
 unfold lL at h;cases e1:fs ρ with
 |none=>rw[e1] at h;cases h
 |some r1=>
  rw[e1] at h;refine⟨sr,r1,e1,?_⟩
  cases r1 with
  |error z=>cases h;exact q
  |ok ds=>
   have h:(if ds.length=n then P ds else none)=some r:=h
   split at h
   ·intro vs H1 s1 r1
    refine⟨hid,ds,(sr.ext s1).trk,r1, ‹_›,r,h,?_⟩
    cases r with
    |ok d=>exact λv H' s2 r2=>q v H' (s1.trans s2) (RK.left s1 r2)
    |error z=>exact λC H' s2=>q C H' (s1.trans s2)
   ·cases h
end
abbrev OX:=Except (Ex×aB) Out
abbrev FX:=aB->OX
def EndX(X:Cx)(c:Ct)(k:Kd)(D:Ends)(W:Hp):OX->Prop
 | .ok o=>EndOk X.K c k D W o
 | .error z=> ∀σ' H' hid' C,SR X.K c hid' z.2 σ' H'->Same W (vw H' hid')->qy X.K z.1 C->EX X σ' (.ref C) none H'
theorem EndX.mono {X:Cx}{c:Ct}{k:Kd}{D:Ends}{W W':Hp}{o:OX}(h:EndX X c k D W o)(s:Same W W'):EndX X c k D W' o:=by
 cases o with
 |ok o=>exact EndOk.mono h s
 |error z=>exact λσ' H' hid' C a b=>h σ' H' hid' C a (s.trans b)
def zI(X:Cx)(c:Ct)(k:Kd)(t:FX)(ρ:aB):TS:=λD σ H=> ∃hid,SR X.K c hid ρ σ H/\EndX X c k D (vw H hid) (t ρ)
def zG(X:Cx)(c:Ct)(k:Kd)(st:Stmt)(t:FX):Prop:= ∀ρ,PS X st (zI X c k t ρ)
def mt(X:Cx)(c:Ct)(k:Kd)(st:List Stmt)(t:FX):Prop:= ∀ρ,PSs X st (zI X c k t ρ)
section
variable {X:Cx}{c:Ct}{k:Kd}{st:Stmt}{sts rest:List Stmt}{t u:FX}{e:Expr}{pos pos' p:Pos}{x:Str}{i:Nat}
theorem PS.nox {t:TS}(h:PS X.nox st t):PS X st t:=λae s σ H D I hw=>
 wpAny_mono (h ae s σ H D (I.wish _) hw) (λ_ _ q=>q.unwish) λ_ _ z=>False.elim z
def sj(t:FS):FX:=λρ=>.ok (t ρ)
theorem uJ {t:FS}(h:DS X.nox c k st t):zG X c k st (sj t):=λρ=>PS.nox (h ρ)
theorem rF {t:FS}(h:oP X.nox c k sts t):mt X c k sts (sj t):=λρ=>PSs.nox (h ρ)
def kI(t u:FX):FX:=λρ=>match t ρ with
 | .ok (.nx ρ')=>u ρ'
 | .ok o=>.ok o
 | .error z=>.error z
theorem oq(h:zG X c k st t):mt X c k [st] t:=λρ=>qx (h ρ)
theorem lv(h1:zG X c k st t)(h2:mt X c k rest u):mt X c k (st::rest) (kI t u):=λρ=>
 PSs.imp (nk (h1 ρ) (qk λρ1=>h2 ρ1)) λD σ H hq_=>by
  obtain⟨hid,sr,q⟩:=hq_
  refine⟨hid,sr,?_⟩
  unfold kI at q;cases e:t ρ with
  |error z=>rw[e] at q;exact q
  |ok o=>
   rw[e] at q;cases o with
   |nx ρ1=>exact λσ1 H1 hid1 sr1 v1=>⟨ρ1,hid1,sr1,EndX.mono q v1⟩
   |rt d ρ1=>exact q
   |bk ρ1=>exact q
   |ct ρ1=>exact q
   |no=>exact q
def vd(p:FT)(t u:FX):FX:=λρ=>match p ρ with
 |some true=>t ρ
 |some false=>u ρ
 |none=>.ok .no
theorem yd {p:FT}{a b:List Stmt}(hp:DT X c e p)(ha:mt X c k a t)(hb:mt X c k b u):zG X c k (.If e a b pos) (vd p t u):=λρ=>
 PS.imp (xE (zC λhid=>hp hid ρ) (ha ρ) (hb ρ)) λD σ H hq_=>by
  obtain⟨hid,sr,q⟩:=hq_
  cases e1:p ρ with
  |none=>unfold vd at q;rw[e1] at q;exact q.elim
  |some x=>
   refine⟨hid,sr,x,e1,λH1 s1=>?_⟩
   unfold vd at q;rw[e1] at q;cases x with
   |true=>exact ma ⟨hid,sr.ext s1,EndX.mono q (aS s1)⟩
   |false=>exact mF ⟨hid,sr.ext s1,EndX.mono q (aS s1)⟩
theorem tI:mt X c k [] (sj skip):=λρ=>PSs.imp qz λD σ H ⟨hid,sr,q⟩=>q σ H hid sr (Same.refl _)
theorem DT.nox {p:FT}(h:DT X.nox c e p):DT X c e p:=λhid ρ=>PT.nox (h hid ρ)
def pi(f:RE):FX:=λρ=>match f ρ with
 |some (.ok d)=>.ok (.rt d ρ)
 |some (.error z)=>.error (z,ρ)
 |none=>.ok .no
theorem v5 {f:RE}(he:DR X c k e f)(hk:k≠ .b:=by decide):zG X c k (.Return (some e) pos) (pi f):=λρ=>PS.imp (mD (im λhid=>he hid ρ)) λD σ H hq_=>by
 obtain⟨hid,sr,q⟩:=hq_
 unfold pi at q;cases e1:f ρ with
 |none=>rw[e1] at q;exact q.elim
 |some r=>
  rw[e1] at q;refine⟨hid,sr,r,e1,?_⟩
  cases r with
  |ok d=>exact λv H' s r=>q v H' (qC hk (sr.post s r hk) sr.h0)
  |error z=>exact λC H' s hn=>q σ H' hid C (sr.ext s) (aS s) hn
end
theorem wm {K:W.Frag}{h:Heap}{C:Addr}{bmB:List Value}{newId:String}(KI:K.In h)(q:W.excIn K C bmB newId=true): ∃bm N nm qn bs hdct sn sub ab col dd k0 k1 k2 k3 k5 mN,
 h.get? C=some (excClassObj nm qn C N bs bm hdct sn sub ab col dd k0 k1 k2 k3 k5 newId)/\h.Ns N mN/\mN "__init__"=none/\OwnTail h bmB bm:=by
 unfold W.excIn at q;split at q
 ·rename_i dd cd sl ho
  split at q
  ·rename_i C' bm k0 k1 k2 k3 n k5 hm hs
   simp only[Bool.and_eq_true,beq_iff_eq,Bool.not_eq_true'] at q;obtain⟨⟨⟨⟨⟨rfl,rfl⟩,gw⟩,ht⟩,hok⟩,hni⟩:=q
   obtain⟨nm,bs,mro,ns,qn,hd,sn,sub,ab,col,del⟩:=cd
   dsimp only at hm gw hok hni;subst hm gw;obtain⟨l⟩:=sl
   simp only at hs;subst hs;exact⟨bm,ns,nm,qn,bs,hd,sn,sub,ab,col,dd,k0,k1,k2,k3,k5,_,KI _ _ ho,.of_isNs (W.isNs_of_in KI hok),W.nsMap_none_of_in KI hok hni,W.tail_of_in KI ht⟩
  ·cases q
 ·cases q
section
variable {X:Cx}{c:Ct}{k:Kd}{e:Expr}{es:List Expr}{pos np cpos:Pos}{x:Str}{C:Addr}
theorem vV {ae:List (Addr×Obj)}{σ:St}{H:Hp}{s:Shared}{h':Heap}{ea:Addr}{vs:List Value}(I:Inv X ae σ H s)(m:Heap.MadeExcOf s.heap h' ea (.ref C) vs):
 XS X ae σ H {cls:=.ref C,data:=.plain} ea {s with heap:=h'}:=by
 obtain⟨t,he,htn,ht⟩:=m.there
 refine⟨s.heap,gj X.stack,I,⟨λ_ q=>q,λb hb nb=>absurd hb nb⟩,⟨λb o q=>m.keeps b o (W.of_hideAll _ q),?_,qL (I.stack.of_keeps λb o q _=>⟨o,m.keeps b o q,rfl⟩) λ_ q=>q,.inr ⟨_,he,rfl⟩⟩,.of_keeps m.keeps,m.new⟩
 cases q:(W.hideAll s.heap (gj X.stack)).get? ea with
 |none=>rfl
 |some o=>have:=W.of_hideAll _ q;rw[m.new] at this;cases this
def vS(z:Ex)(fs:FA):FX:=λρ=>match fs ρ with
 |some ds=>if ds.length<=20 then .error (z,ρ) else .ok .no
 |none=>.ok .no
theorem rR {n:Int}{fs:FA}(hm:X.mg x=some (.ref C))(hN:W.nsIn X.K mainGlobals x=some (some (.ref C)))(ho:W.excIn X.K C nh "ValueError.__new__"=true)(hd:X.A.handled=none)(ha:DA X c (e::es) fs)(hg:Gl X x:=by rfl)(hdb:(x==("__debug__":Str))=false:=by decide)
 (he:starEach (e::es) X.env=(false,eval e X.env)::starEach es X.env:=by rfl) (hpl:(backTo cpos (starEach es X.env)).any (·.1)=false:=by rfl):
 zG X c k (.Raise (some (.Call (.Name x np) (e::es) [] cpos)) none pos) (vS ⟨x,n⟩ fs):=λρ ae s σ H D I hq_=>by
 obtain⟨hid,sr,q⟩:=hq_
 unfold vS at q;cases e1:fs ρ with
 |none=>rw[e1] at q;exact q.elim
 |some ds=>
  rw[e1] at q;dsimp only at q
  by_cases hl:ds.length<=20
  ·rw[if_pos hl] at q
   obtain⟨bm,N,nm,qn,bs,hdct,sn,sub,ab,col,dd,k0,k1,k2,k3,k5,mN,hC,hNs,hni,T⟩:=wm I.mod.kin ho
   refine wpAny_Raise_call_subT (C:=C) (nm:=nm) (q:=qn) (N:=N) (bs:=bs) (bm:=bm) (hdct:=hdct) (sn:=sn) (sub:=sub) (ab:=ab) (col:=col) (dd:=dd) (k0:=k0) (k1:=k1) (k2:=k2) (k3:=k3) (k5:=k5)
    F.excBase_ValueError (mN:=mN) (T.hasType F.excBase_ValueError.hasBase) hd (by rw[he];show(false||(backTo cpos (starEach es X.env)).any (·.1))=false;rw[hpl];rfl) hni (gQ I hg hm ⟨rfl,?_⟩ hdb)
   have P:=ha hid ρ cpos ae s σ H (λvs H'=>Same H H'/\Reps X.K (vw H' hid) vs ds) I ⟨sr,ds,e1,λvs H' a b=>⟨a,b⟩⟩
   rw[he] at P⊢;refine Calls.evalArgs_plain (wpAny_mono P (λus s1 ⟨vs,H1,I1,r,sm,rp⟩=>⟨rfl,?_,I1.bk _ _ hC,hNs.keeps I1.bk,T.keeps I1.bk,λh' ea m=>?_⟩) λ_ _ y=>y)
   ·show us.length<=sizeLine
    rw[<-r.length,rp.length];exact Nat.le_trans hl (by decide)
   ·exact q σ H1 hid C (sr.ext sm) (aS sm) hN ae ea _ _ rfl rfl (vV I1 m)
  ·rw[if_neg hl] at q;exact q.elim
end
structure RoomU(k:Nat)(A:Around):Prop where
 dp:A.depth+3*k+5<recursionLimit
 un:A.units+16*k+200<cLine
theorem Room.u {k:Nat}{A:Around}(r:Room k A):RoomU k A:=⟨r.dp,r.un⟩
theorem RoomU.mono {j k:Nat}{A:Around}(r:RoomU k A)(h:j<=k):RoomU j A:=⟨by have:=r.dp;omega,by have:=r.un;omega⟩
theorem RoomU.mark {k:Nat}{A:Around}(r:RoomU k A)(v:Option Value):RoomU k (A.mark v):=⟨r.dp,r.un⟩
theorem RoomU.deeper {k:Nat}{A:Around}(r:RoomU (k+1) A)(env:Env):RoomU k (A.deeper env):=
 ⟨by have:=r.dp;show A.depth+1+3*k+5<_;omega,by have:=r.un;show A.units+3+16*k+200<_;omega⟩
theorem RoomU.depth {k:Nat}{A:Around}(r:RoomU k A):A.depth<recursionLimit:=by have:=r.dp;omega
structure FnOkU(P:Program)(w:World)(K:W.Frag)(mg:Str->Option Value)(base:Heap)(CX:mZ)(k:Nat)(f:Addr)(fd:FuncData)(ps:List Str)(sp:Sp):Prop where
 len: ∀vs H Q E,sp vs H Q E->vs.length=ps.length
 run: ∀(A:Around) (outer:List Env) (s:Shared) (H:Hp) (args:Args) (us:List Value) (vs:List V) (Q:VK) (E:XK),RoomU k A->Env0 P w K mg base A outer s H->BindsTo s fd args (ps.zip us)->Vals vs us->sp vs H Q E->
  codeAny (model P w) A (.call (.ref f) args) (CR CX outer P w H s Q E) s
def zH(CX:mZ)(P:Program)(w:World)(K:W.Frag)(mg:Str->Option Value)(base:Heap)(N:List Str)(qual:Str)(scope:Scope)(f:Addr)(cd:Value)(A:Around)(outer:List Env)(s:Shared)(H:Hp)(E:XK):Cx where
 prog:=P
 w:=w
 K:=K
 mg:=mg
 base:=base
 A:=A.deeper (envOfC qual scope s.heap.objs.size f cd)
 N:=N
 s₀:=s
 H₀:=H
 env:=envOfC qual scope s.heap.objs.size f cd
 outer:=outer
 stack:=envOfC qual scope s.heap.objs.size f cd::outer
 ex:=[]
 calm:=false
 fn:=λ_=>true
 pn:=[]
 xe:=λe s'=>wpAny (model P w) (A.deeper (envOfC qual scope s.heap.objs.size f cd)) (leaving (envOfC qual scope s.heap.objs.size f cd) e) (λ_ s''=>CX outer H s E e s'') (λe' s''=>CX outer H s E e' s'') s'
theorem p4 {CX:mZ}{P:Program}{w:World}{K:W.Frag}{mg:Str->Option Value}{base:Heap}{N ps:List Str}{qual:Str}{scope:Scope}{f:Addr}{cd:Value}{A:Around}{outer:List Env}{s s1:Shared}{H:Hp}{E:XK}{us:List Value}{vs:List V}
 (S:FnScope N ps scope) (e0:Env0 P w K mg base A outer s H) (hl:vs.length=ps.length) (r:Vals vs us)
 (x:InCallC s s.heap.objs.size (bindL (envOfC qual scope s.heap.objs.size f cd).kindOf (ps.zip us) λ_=>none) (cellsFrom (s.heap.objs.size+1) scope.names []) (bindC (envOfC qual scope s.heap.objs.size f cd).kindOf (ps.zip us) λ_=>none) s1):
 Inv (zH CX P w K mg base N qual scope f cd A outer s H E) [] (cR N vs) H s1:=by
 have hpl:ps.length<=N.length:=by have:=congrArg List.length S.pre;rw[List.length_take] at this;omega
 obtain⟨h1,tk,rfl,hk⟩:=x.done
 have noA: ∀b:Addr,b∉(zH CX P w K mg base N qual scope f cd A outer s H E).ex:=λb z=>absurd (show b∈([]:List Addr) from z) (by simp)
 refine⟨⟨e0.mod,S.kind,rfl,rfl,Nat.le_refl _,λy z c h1 h2=>?_,λy hy=>?_,λy c _ h=>?_,(λq=>nomatch q),Around.frames_deeper e0.frames,.inr ⟨rfl,rfl⟩,λb z=>absurd z (noA b),e0.bs,e0.bsz,λb _ _=>noA b,λb z=>absurd z (noA b),e0.funs,e0.frf⟩,
  rfl,e0.bare,Un.kept hk,⟨_,x.toInCall.ns,λi y v h1 h2 h3=>?_⟩,λy c h=>⟨_,x.cell y c h⟩,e0.hok.fresh (Nat.le_refl _),λy c h=>?_,λp hp=>absurd (show p∈([]:List (Addr×Obj)) from hp) (by simp),e0.hok.kept hk,?_⟩
 ·exact name_of_addr x.apart (PySem.mem_of_lookup h1) (PySem.mem_of_lookup h2)
 ·have hy:scope.names.lookup y=some .cell\/scope.names.lookup y=some .free:=hy
  rcases hy with hy|hy
  ·exact iD hy
  ·exact absurd rfl (S.nofree _ (PySem.mem_of_lookup hy))
 ·exact Nat.le_of_lt (x.above y c (PySem.mem_of_lookup h))
 ·have hi:i<vs.length:=by
   unfold cR at h2
   by_cases hi:i<vs.length
   ·exact hi
   ·rw[List.getElem?_append_right (by simpa using hi)] at h2
    rw[List.getElem?_replicate] at h2;split at h2<;>cases h2
  have ha:vs[i]? =some v:=by
   unfold cR at h2;rw[List.getElem?_append_left (by simpa using hi),List.getElem?_map] at h2
   cases e:vs[i]? with
   |none=>rw[e] at h2;cases h2
   |some a=>rw[e] at h2;cases h2;rfl
  obtain⟨u,hu,rv⟩:=r.get ha
  have hp:ps[i]? =some y:=by
   rw[<-S.pre,List.getElem?_take_of_lt (by omega)];exact h1
  have ndP:ps.Nodup:=by rw[<-S.pre];exact S.nd.sublist (List.take_sublist _ _)
  refine⟨u,rv,?_⟩
  rcases S.par y (List.mem_of_getElem? hp) with k|k
  ·exact .inl ⟨k,iW ndP hp hu k⟩
  ·obtain⟨c,e⟩:=iD (n:=s.heap.objs.size+1) k
   refine .inr ⟨.inl k,c,e,?_⟩
   have q:=x.cell y c e
   rw[jf ndP hp hu (by show scope.names.lookup y≠_;rw[k];decide)] at q
   exact q
 ·exact e0.hok.fresh (Nat.le_of_lt (x.above y c (PySem.mem_of_lookup h)))
 ·unfold cR
  show _=N.length;rw[List.length_append,List.length_map,List.length_replicate];omega
theorem yX {CX:mZ}{P:Program}{w:World}{K:W.Frag}{mg:Str->Option Value}{base:Heap}{k:Nat}{f:Addr}{name qual:Str}{params:Arguments}{body:List Stmt}{scope:Scope}{dV kV doc pm cdv ct oc:Value}{an od:Option Addr}
 {osl:Array (Option Value)} {N ps:List Str} {sp:Sp} (lk:K.lookup f=some ⟨oc,od,.func (W.fnOf name qual params body scope dV kV doc pm an cdv ct),osl⟩) (hcd:W.codeIn K cdv qual=true) (S:FnScope N ps scope)
 (len: ∀vs H Q E,sp vs H Q E->vs.length=ps.length)
 (hbody: ∀(A:Around) (outer:List Env) (s:Shared) (H:Hp) (vs:List V) (Q:VK) (E:XK),RoomU k (A.deeper (envOfC qual scope s.heap.objs.size f cdv))->sp vs H Q E->
   ∃t,PSs (zH CX P w K mg base N qual scope f cdv A outer s H E) body t/\t {nx:=λ_ H'=>Q .non H',rt:=Q} (cR N vs) H):
 FnOkU P w K mg base CX (k+1) f (W.fnOf name qual params body scope dV kV doc pm an cdv ct) ps sp:=by
 refine⟨len,λA outer s H args us vs Q E hr e0 hb r hsp=>?_⟩
 have hl:=len _ _ _ _ hsp
 have KX:K.In s.heap:=e0.mod.kin.keeps λb o e=>(e0.bs b o e).1
 have lim:s.heap.NoLimit:=e0.mod.nolimit.keeps λb o e=>(e0.bs b o e).1
 have hkind: ∀y∈ps.zip us,scope.names.lookup y.1=some .local\/(scope.names.lookup y.1=some .cell/\((cellsFrom (s.heap.objs.size+1) scope.names []).lookup y.1).isSome=true):=λ⟨n,v⟩ hy=>by
  rcases S.par n (List.of_mem_zip hy).1 with q|q
  ·exact .inl q
  ·exact .inr ⟨q,W.cellsFrom_some _ _ _ (.inl q)⟩
 refine codeAny_call_function hr.depth (KX _ _ lk) rfl S.co S.gen rfl (W.codeRec_of KX hcd) (hb _ _ _ _ ?_)
 refine wpAny_newFunctionEnv_cells S.kind hkind λenv he s1 x=>?_
 subst he;refine⟨lim.keeps x.toInCall.keep,codeAny_func ?_⟩
 obtain⟨t,ht,hq⟩:=hbody A outer s H vs Q E (hr.deeper _) hsp
 have I:Inv (zH CX P w K mg base N qual scope f cdv A outer s H E) [] (cR N vs) H s1:=p4 S e0 hl r x
 refine wpAny_mono (ht [] s1 (cR N vs) H _ I hq) (λfl s' hs=>?_) λe s' hs=>hs
 have fin: ∀ {σ':St} {H':Hp} {v:V} {u:Value},Inv (zH CX P w K mg base N qual scope f cdv A outer s H E) [] σ' H' s'->RelV v u->Q v H'->CE outer P w H s Q u s':=
  λ{σ' H' v u} J rv q=>⟨v,H',J.os,J.bare,J.base,J.hok,rv,q⟩
 cases fl with
 |ret u=>
  obtain⟨v,σ',H',J,rv,q⟩:=hs
  exact fin J rv q
 |next=>
  obtain⟨σ',H',J,q⟩:=hs
  exact fin (v:=V.non) (u:=Value.none) J rfl q
 |brk=>
  obtain⟨_,_,_,q⟩:=hs
  exact False.elim q
 |cont=>
  obtain⟨_,_,_,q⟩:=hs
  exact False.elim q
section
variable {X:Cx}
def Ci(neg:Bool):R2:=λx y H Q=>(y=.non\/ ∃b,y=.bl b)/\Q (.bl (if neg then !decide (x=y) else decide (x=y))) H
theorem AF:iu X (compareOp .Is) (Ci false):=by
 intro ae s σ H x y v u Q I rx ry h;obtain⟨hy,q⟩:=h
 have key: ∀b:Bool,b=decide (x=y)->EP X ae σ Q (.bool b) s:=λb e=>⟨.bl b,H,I,rfl,by rw[e];exact q⟩
 rcases hy with rfl|⟨b,rfl⟩
 ·cases ry
  exact is_none_gen (key _ rx.none_iff)
 ·cases ry
  cases x with
  |non=>cases rx;exact wpAny_pure (key _ (by simp))
  |bl c=>cases rx;exact wpAny_pure (key _ (by rw[Bool.eq_iff_iff];simp))
  |int _=>obtain⟨t,rfl⟩:=rx;exact wpAny_pure (key _ (by simp))
  |str _=>obtain⟨t,rfl⟩:=rx;exact wpAny_pure (key _ (by simp))
  |byt _=>obtain⟨t,rfl⟩:=rx;exact wpAny_pure (key _ (by simp))
  |flt _=>obtain⟨t,rfl⟩:=rx;exact wpAny_pure (key _ (by simp))
  |ref _=>cases rx;exact wpAny_pure (key _ (by simp))
  |ty _=>cases rx;exact wpAny_pure (key _ (by simp))
end
def nV:D->D->Bool
 | .non,.non=>true
 | .bl a,.bl b=>a==b
 |_,_=>false
def AZ(neg:Bool):D->D->Option D:=λx y=>match y with
 | .non=>some (.bl (if neg then !nV x y else nV x y))
 | .bl _=>some (.bl (if neg then !nV x y else nV x y))
 |_=>none
theorem AG {K:W.Frag}(neg:Bool):jU K .s (Ci neg) (AZ neg):=by
 intro H hid v u x y d Q hf h r1 r2 q;have key: ∀ {w:V},Rep1 K H (vw H hid) u y->(u=.non\/ ∃b,u=.bl b)->decide (v=u)=nV x y:=λ{w} _ hu=>by
  cases x with
  |non=>cases r1.non;rcases hu with rfl|⟨b,rfl⟩<;>cases y<;>first|rfl|(cases r2.non;done)|(cases r2.bl;done)|(cases r2.bl;rfl)|(cases r2.int;done)|(cases r2.str;done)|(obtain⟨a,xs,e,_⟩:=r2.tup;cases e;done)|(obtain⟨a,xs,e,_⟩:=r2.lst;cases e;done)|(obtain⟨a,xs,e,_⟩:=r2.scr;cases e;done)
  |bl c=>cases r1.bl;rcases hu with rfl|⟨b,rfl⟩<;>cases y<;>first|rfl|(cases r2.non;done)|(cases r2.bl;show decide (V.bl c=V.bl _)=(c==_);rw[Bool.eq_iff_iff];simp;done)|(cases r2.bl;done)|(cases r2.int;done)|(cases r2.str;done)|(obtain⟨a,xs,e,_⟩:=r2.tup;cases e;done)|(obtain⟨a,xs,e,_⟩:=r2.lst;cases e;done)|(obtain⟨a,xs,e,_⟩:=r2.scr;cases e;done)
  |int i=>cases r1.int;rcases hu with rfl|⟨b,rfl⟩<;>cases y<;>rfl
  |str z=>cases r1.str;rcases hu with rfl|⟨b,rfl⟩<;>cases y<;>rfl
  |tup ds=>obtain⟨a,xs,rfl,_⟩:=r1.tup;rcases hu with rfl|⟨b,rfl⟩<;>cases y<;>rfl
  |lst ds=>obtain⟨a,xs,rfl,_⟩:=r1.lst;rcases hu with rfl|⟨b,rfl⟩<;>cases y<;>rfl
  |scr ds=>obtain⟨a,xs,rfl,_⟩:=r1.scr;rcases hu with rfl|⟨b,rfl⟩<;>cases y<;>rfl
 unfold AZ at h;split at h
 ·have hu:u=.non:=r2.non
  cases h
  refine⟨.inl hu,?_⟩
  rw[key (w:=v) r2 (.inl hu)];exact q _ H (Same.refl _) .bl
 ·have hu:=r2.bl
  cases h
  refine⟨.inr ⟨_,hu⟩,?_⟩
  rw[key (w:=v) r2 (.inr ⟨_,hu⟩)];exact q _ H (Same.refl _) .bl
 ·cases h
def xh(kd:Kd)(n:Nat)(t:FX)(ds:List D):Option (Except Ex D):=match t (eG n ds) with
 | .ok (.rt d _)=>some (.ok d)
 | .ok (.nx _)=>(match kd with
   | .n=>none
   |_=>some (.ok .non))
 | .ok _=>none
 | .error z=>some (.error z.1)
section
variable {P:Program}{w:World}{K:W.Frag}{mg:Str->Option Value}{base:Heap}{x:Str}{st:Stmt}{N ps:List Str}{k n:Nat}{kd:Kd}
theorem u0 {t:FX}(F:Df K mg x st ps)(S:FnScope N ps (aq st))(hkd:kd≠ .b)(hn:ps.length=n)
 (body: ∀(f:Addr) (cdv:Value) (A:Around) (outer:List Env) (s:Shared) (H:Hp) (hid:bL) (E:XK),Room k (A.deeper (envOfC x (aq st) s.heap.objs.size f cdv))->
   mt (ji (AT P w) P w K mg base N x (aq st) f cdv A outer s H E) ⟨H,hid,λ_=>false⟩ kd (aQ st) t):
 ClX P w K mg base (k+1) x ps (AN K kd n (xh kd N.length t)):=by
 obtain⟨f,fd,F,hm,hb⟩:=F.ex
 subst hn;refine⟨f,fd,?_,hm,F.kp,hb⟩
 obtain⟨oc,od,kV,doc,pm,an,cdv,ct,osl,rfl,lk,hcd⟩:=F.ex
 refine xm lk hcd S (λvs H Q E h=>?_) λA outer s H vs Q E hr h=>?_
 ·obtain⟨hid,ds,_,r,hl,_⟩:=h
  rw[r.length,hl]
 ·obtain⟨hid,ds,tr,r,hl,r0,hP,q⟩:=h
  refine⟨_,body f cdv A outer s H hid E hr (eG N.length ds),hid,SR.begins tr r,?_⟩
  unfold xh at hP;cases e:t (eG N.length ds) with
  |error z=>
   rw[e] at hP;cases hP
   intro σ' H' hid' C sr _ hn ae ea o0 s' hc hd xs;have sm:Same H H':=λb o z=>sr.kp b o z rfl
   exact tm xs hc hd (q C H' sm hn) λs'' h=>h
  |ok o=>
   rw[e] at hP;cases o with
   |nx ρ=>
    intro σ' H' hid' sr _;have sm:Same H H':=λb o z=>sr.kp b o z rfl
    cases kd with
    |b=>exact absurd rfl hkd
    |s=>cases hP;exact q _ H' sm .non
    |n=>cases hP
   |rt d' ρ=>
    cases hP
    intro v H' R;have sm:Same H H':=λb o z=>R.kp b o z rfl
    cases kd with
    |b=>exact absurd rfl hkd
    |s=>exact q v H' sm R.val
    |n=>exact q v H' sm R.val
   |bk ρ=>cases hP
   |ct ρ=>cases hP
   |no=>cases hP
def AI(K:W.Frag)(k:Kd)(M:Ex->Option D):Sp:=λvs H Q _=> ∃hid a z,vs=[.ref a]/\zr hid H/\(∃φ,vw H hid a=some (.ext φ)/\ ∀h,φ h->ExcAt K z.x z.n a h)/\ ∃d,M z=some d/\ ∀v H',Same H H'->RK K k H H' hid v d->Q v H'
structure ClU(P:Program)(w:World)(K:W.Frag)(mg:Str->Option Value)(base:Heap)(k:Nat)(x:Str)(ps:List Str)(sp:Sp):Prop where
 ex: ∃f fd,FnOkU P w K mg base lG k f fd ps sp/\mg x=some (.ref f)/\W.keepIn K (.ref f)=true/\Binds K fd ps []
def oS(n:Nat)(z:Ex):aB:=.ob (.exc z.x z.n)::List.replicate (n-1) .no
def BN(n:Nat)(t:FS)(z:Ex):Option D:=match t (oS n z) with
 | .rt d _=>some d
 |_=>none
theorem wZ {t:FS}{y:Str}(F:Df K mg x st [y])(S:FnScope N [y] (aq st))
 (body: ∀(f:Addr) (cdv:Value) (A:Around) (outer:List Env) (s:Shared) (H:Hp) (hid:bL) (E:XK),RoomU k (A.deeper (envOfC x (aq st) s.heap.objs.size f cdv))->
   oP (zH lG P w K mg base N x (aq st) f cdv A outer s H E).nox ⟨H,hid,λ_=>false⟩ .s (aQ st) t):
 ClU P w K mg base (k+1) x [y] (AI K .s (BN N.length t)):=by
 obtain⟨f,fd,F,hm,hb⟩:=F.ex
 refine⟨f,fd,?_,hm,F.kp,hb⟩
 obtain⟨oc,od,kV,doc,pm,an,cdv,ct,osl,rfl,lk,hcd⟩:=F.ex
 refine yX lk hcd S (λvs H Q E h=>?_) λA outer s H vs Q E hr h=>?_
 ·obtain⟨hid,a,z,rfl,_⟩:=h
  rfl
 ·obtain⟨hid,a,z,rfl,tr,hx,d,hM,q⟩:=h
  have hN:0<N.length:=by have:=congrArg List.length S.pre;rw[List.length_take] at this;simp at this;omega
  refine⟨_,PSs.nox (body f cdv A outer s H hid E hr (oS N.length z)),hid,⟨tr.1,tr.2,λ_ h=>h,λ_ _ h _=>h,λb o h=>⟨o,h⟩,tr.1,(λ_ h=>nomatch h),?_,λi s e=>?_,λi j b ne o1 o2 _ _=>?_⟩,?_⟩
  ·unfold cR oS;simp
  ·cases i with
   |zero=>
    unfold oS at e;simp at e;subst e;exact⟨a,rfl,hx⟩
   |succ i=>
    unfold oS at e;rw[List.getElem?_cons_succ,List.getElem?_replicate] at e;split at e
    ·cases e;trivial
    ·cases e
  ·cases i with
   |zero=>exact o1.elim
   |succ i=>
    unfold oS at o1;rw[List.getElem?_cons_succ,List.getElem?_replicate] at o1;split at o1<;>exact o1.elim
  ·unfold BN at hM
   cases e:t (oS N.length z) with
   |rt d' ρ=>
    rw[e] at hM;cases hM;exact λv H' R=>q v H' (λb o z=>R.kp b o z rfl) R.val
   |nx ρ=>rw[e] at hM;cases hM
   |bk ρ=>rw[e] at hM;cases hM
   |ct ρ=>rw[e] at hM;cases hM
   |no=>rw[e] at hM;cases hM
end
section
variable {X:Cx}{c:Ct}{k:Kd}{e:Expr}{pos p py:Pos}{x y:Str}{ps:List Str}{j i:Nat}
def xv(i:Nat)(M:Ex->Option D):FE:=λρ=>match ρ[i]? with
 |some (.ob (.exc x n))=>M ⟨x,n⟩
 |_=>none
theorem xW(i:Nat){M:Ex->Option D}(C:ClU X.prog X.w X.K X.mg X.base j x ps (AI X.K k M))(hr:RoomU j X.A)(hN:X.N[i]? =some y:=by rfl)(hv:m5 X.env.scope y:=by first|exact Or.inl rfl|exact Or.inr (Or.inl rfl)|exact Or.inr (Or.inr rfl))(hd:(y==("__debug__":Str))=false:=by decide)
 (hcd:(y==("__classdict__":Str))=false:=by decide) (hs:starEach [.Name y py] X.env=(false,eval (.Name y py) X.env)::starEach [] X.env:=by rfl) (hg:Gl X x:=by rfl) (hdb:(x==("__debug__":Str))=false:=by decide) (hpl:(backTo pos (starEach [] X.env)).any (·.1)=false:=by rfl):
 DP X c k (.Call (.Name x p) [.Name y py] [] pos) (xv i M):=λhid ρ ae s σ H Q I hq_=>by
 obtain⟨sr,d,hd',q⟩:=hq_
 obtain⟨f,fd,F,hm,hk,hb⟩:=C.ex
 unfold xv at hd';split at hd'
 ·rename_i x' n' e'
  obtain⟨a,z1,z2⟩:=sr.sl i _ e'
  refine wpAny_Call_Name_kw (gQ I hg hm ?_ hdb)
  refine W.callWith_K (h₀:=X.base) I.ok.mod.kin hk (cv (bp (pv i hN hv hd hcd) cO hs pos ae s σ H (λvs H'=>vs=[.ref a]/\H'=H) I ⟨.ref a,z1,rfl,rfl⟩) λus s1 ⟨vs,H1,I1,r,ev,eH⟩=>⟨I1.kIn,?_⟩) hs hpl
  subst ev eH;have hsp:AI X.K k M [.ref a] H1 Q E0:=⟨hid,a,⟨x',n'⟩,rfl,sr.trk,z2,d,hd',q⟩
  have hl:(us++[]).length=ps.length:=by rw[List.append_nil,<-r.length];exact F.len _ _ _ _ hsp
  have hb':=hb s1 us I1.kIn hl
  rw[List.append_nil] at hb';refine wpAny_call (codeAny_mono (F.run X.A X.stack s1 H1 ⟨us,[]⟩ us [.ref a] Q E0 hr I1.env0 hb' r hsp) λr s' hq=>?_)
  cases r with
  |error e=>exact hq.elim
  |ok fl=>
   cases fl with
   |ret u=>exact I1.after hq
   |next=>exact False.elim hq
   |brk=>exact False.elim hq
   |cont=>exact False.elim hq
 ·cases hd'
end
def ii(x y:Str):Bool:=x==y||y==("RookError":Str)
structure ExRow(K:W.Frag)(mg:Str->Option Value)(CR:Addr)(x:Str)(C:Addr):Prop where
 mg:mg x=some (.ref C)
 ns:W.nsIn K mainGlobals x=some (some (.ref C))
 cc:ExcC K C
 ty:W.typeIn K (.ref C)=some (.type "type")
 mr: ∃cd,W.clsIn K C=some cd/\cd.mro=(if C=CR then .ref CR::nh else .ref C:: .ref CR::nh)
structure ExTab(K:W.Frag)(mg:Str->Option Value)(CR:Addr)(tbl:List (Str×Addr)):Prop where
 row: ∀p∈tbl,ExRow K mg CR p.1 p.2
 root:(("RookError":Str),CR)∈tbl
 nd:(tbl.map (·.2)).Nodup
section
variable {K:W.Frag}{mg:Str->Option Value}{CR:Addr}{tbl:List (Str×Addr)}
theorem gS: ∀ {l:List (Str×Addr)},(l.map (·.2)).Nodup-> ∀ {p q:Str×Addr},p∈l->q∈l->p.2=q.2->p=q
 | [],_,_,_,h,_,_=>nomatch h
 |a::l,nd,p,q,hp,hq,e=>by
  rw[List.map_cons,List.nodup_cons] at nd;rcases List.mem_cons.mp hp with ep|ep
  ·rcases List.mem_cons.mp hq with eq|eq
   ·rw[ep,eq]
   ·exact absurd (List.mem_map.mpr ⟨q,eq,by rw[<-e,ep]⟩) nd.1
  ·rcases List.mem_cons.mp hq with eq|eq
   ·exact absurd (List.mem_map.mpr ⟨p,ep,by rw[e,eq]⟩) nd.1
   ·exact gS nd.2 ep eq e
theorem ExTab.addr(T:ExTab K mg CR tbl){p q:Str×Addr}(hp:p∈tbl)(hq:q∈tbl)(e:p.1=q.1):p.2=q.2:=by
 have h1:=(T.row p hp).ns
 have h2:=(T.row q hq).ns
 rw[e,h2] at h1;injection h1 with h1
 injection h1 with h1
 exact(Value.ref.inj h1).symm
theorem ExTab.mro(T:ExTab K mg CR tbl){p q:Str×Addr}(hp:p∈tbl)(hq:q∈tbl):W.mroIn K p.2 (.ref q.2)=some (ii p.1 q.1):=by
 obtain⟨cd,h1,h2⟩:=(T.row p hp).mr
 unfold W.mroIn;rw[h1,Option.bind_some,h2];have hr:q.2=CR↔q.1=("RookError":Str):=⟨λe=>by rw[gS T.nd hq T.root e],λe=>T.addr hq T.root e⟩
 have hs:p.2=q.2↔p.1=q.1:=⟨λe=>by rw[gS T.nd hp hq e],T.addr hp hq⟩
 have ev:ii p.1 q.1=(decide (p.2=q.2)||decide (q.2=CR)):=by
  unfold ii;congr 1
  ·rw[Bool.eq_iff_iff,beq_iff_eq,decide_eq_true_eq];exact hs.symm
  ·rw[Bool.eq_iff_iff,beq_iff_eq,decide_eq_true_eq];exact hr.symm
 rw[ev]
 by_cases e:p.2=CR
 ·rw[if_pos e,if_neg (by simp)]
  congr 1
  rw[e,Bool.eq_iff_iff,List.contains_iff_mem,Bool.or_eq_true,decide_eq_true_eq,decide_eq_true_eq,List.mem_cons];exact⟨λh=>h.elim (λh=>.inl (Value.ref.inj h).symm) λh=>by simp[nh] at h,λh=>.inl (h.elim (λh=>by rw[h]) λh=>by rw[h])⟩
 ·rw[if_neg e,if_neg (by simp)]
  congr 1
  rw[Bool.eq_iff_iff,List.contains_iff_mem,Bool.or_eq_true,decide_eq_true_eq,decide_eq_true_eq,List.mem_cons,List.mem_cons];exact⟨λh=>h.elim (λh=>.inl (Value.ref.inj h).symm) λh=>h.elim (λh=>.inr (Value.ref.inj h)) λh=>by simp[nh] at h,λh=>h.elim (λh=>.inl (by rw[h])) λh=>.inr (.inl (by rw[h]))⟩
theorem ExTab.one(T:ExTab K mg CR tbl){p q:Str×Addr}(hp:p∈tbl)(hq:q∈tbl):W.kitOne K (.ref p.2) (.ref q.2)=some (ii p.1 q.1):=by
 unfold W.kitOne
 by_cases e:(Value.ref p.2==Value.ref q.2)=true
 ·rw[if_pos e]
  have e':p.2=q.2:=Value.ref.inj (beq_iff_eq.mp e)
  rw[gS T.nd hp hq e'];unfold ii;simp
 ·rw[if_neg e]
  unfold W.kitCls;obtain⟨cd,h1,_⟩:=(T.row q hq).mr
  dsimp only;rw[h1,(T.row q hq).ty,if_pos (by simp)]
  exact T.mro hp hq
theorem ExTab.any(T:ExTab K mg CR tbl){p:Str×Addr}(hp:p∈tbl): ∀(qs:List (Str×Addr)),(∀q∈qs,q∈tbl)->W.kitAny K (.ref p.2) (qs.map λq=>Value.ref q.2)=some (qs.any λq=>ii p.1 q.1)
 | [],_=>rfl
 |q::qs,h=>by
  rw[List.map_cons,List.any_cons];unfold W.kitAny;rw[T.one hp (h q List.mem_cons_self)];cases e:ii p.1 q.1 with
  |true=>rfl
  |false=>exact(T.any hp qs λq hq=>h q (List.mem_cons_of_mem _ hq)).trans (by simp)
theorem kC:W.kitMeta "ValueError"=true:=by kernel_rfl
theorem ExTab.val(T:ExTab K mg CR tbl){p:Str×Addr}(hp:p∈tbl):W.kitOne K (.ref p.2) (.type "ValueError")=some true:=by
 obtain⟨cd,h1,h2⟩:=(T.row p hp).mr
 unfold W.kitOne;rw[if_neg (by simp)]
 unfold W.kitCls;dsimp only;rw[if_pos kC];show W.mroIn K p.2 (.type "ValueError")=_;unfold W.mroIn;rw[h1,Option.bind_some,h2]
 by_cases e:p.2=CR
 ·rw[if_pos e,if_neg (by simp)];rfl
 ·rw[if_neg e,if_neg (by simp)];rfl
end
theorem ExcAt.inst {K:W.Frag}{x:Str}{n:Int}{a C:Addr}{h:Heap}(e:ExcAt K x n a h)(ns:W.nsIn K mainGlobals x=some (some (.ref C))): ∃o,W.InstAt h a o C none:=by
 obtain⟨C',o,h1,h2,h3,h4,h5⟩:=e
 rw[ns] at h1;cases h1
 exact⟨o,h2,h3,h5,by rw[h4];trivial⟩
section
variable {X:Cx}{c:Ct}{k:Kd}{e:Expr}{pos p p1 p2 p3 py:Pos}{x y z:Str}{i:Nat}{CR C:Addr}{tbl:List (Str×Addr)}
def BC(K:W.Frag):List V->Hp->VK->Prop:=λxs H Q=> ∃a v C b,xs=[.ref a,v]/\(∃φ,H a=some (.ext φ)/\ ∀h,φ h-> ∃o,W.InstAt h a o C none)/\ExcC K C/\
 ((∃D,v=.ref D/\W.kitOne K (.ref C) (.ref D)=some b)\/(∃T,v=.ty T/\W.kitOne K (.ref C) (.type T)=some b)\/ ∃(t:Addr) (ds:List Addr),v=.ref t/\H t=some (.tup (ds.map V.ref))/\W.kitAny K (.ref C) (ds.map Value.ref)=some b)/\Q (.bl b) H
theorem kW: ∀ {ds:List Addr} {us:List Value},Vals (ds.map V.ref) us->us=ds.map Value.ref
 | [],_,.nil=>rfl
 |_::_,_,.cons r t=>by cases r;rw[kW t];rfl
theorem kl:er X (.builtin "isinstance") (BC X.K):=by
 intro ae s σ H xs us Q I r h;obtain⟨a,v,C,b,rfl,⟨φ,h1,h2⟩,ec,hv,q⟩:=h
 obtain⟨p1,_,_⟩:=I.hok a _ h1
 have inst:=h2 _ p1
 cases r with
 |cons r0 r1=>
  cases r1 with
  |cons r1 r2=>
   cases r2
   cases r0
   have fin: ∀tk,EP X ae σ Q (.bool b) {s with toks:=tk}:=λtk=>⟨.bl b,H,I.tok tk,rfl,q⟩
   have nb:(Value.ref a)≠ .builtin "__main__.__loader__#opaque":=λz=>by cases z
   rcases hv with⟨D,rfl,e⟩|⟨T,rfl,e⟩|⟨t,ds,rfl,ht,e⟩
   ·cases r1
    exact W.kia_one (mx ec) I.kIn inst e nb fin
   ·cases r1
    exact W.kia_one (mx ec) I.kIn inst e nb fin
   ·cases r1
    obtain⟨_,its,rv,⟨o,g1,g2,n,g3⟩,_⟩:=I.hok t _ ht
    have ei:=kW rv
    subst ei;obtain⟨oc,od,dt,sl⟩:=o
    dsimp only at g2 g3;subst g2 g3;exact W.kia_tup (mx ec) I.kIn inst g1 e nb fin
def AR(ds:List Addr):TA:=λ_ H Q=>Q (ds.map V.ref) H
theorem vU:PA X [] (AR []):=λp ae s σ H Q I h=>cO p ae s σ H Q I h
theorem eV {es:List Expr}{D:Addr}{ds:List Addr}(hm:X.mg y=some (.ref D))(hr:PA X es (AR ds))(hg:Gl X y:=by rfl)(hd:(y==("__debug__":Str))=false:=by decide)(hs:starEach (.Name y p2::es) X.env=(false,eval (.Name y p2) X.env)::starEach es X.env:=by rfl):
 PA X (.Name y p2::es) (AR (D::ds)):=PA.imp (bp (mh (v:=.ref D) hg hm rfl hd) hr hs) λσ H Q h=>h
def oQ(i:Nat)(ns ys:List Str):FE:=xv i λz=>if ns.contains z.x=true/\ys.all (λy=>ns.contains y)=true then some (.bl (ys.any λy=>ii z.x y)) else none
def yR(i:Nat)(ns:List Str):FE:=xv i λz=>if ns.contains z.x=true then some (.bl true) else none
theorem jF {ns:List Str}{tbl:List (Str×Addr)}(e:tbl.map (·.1)=ns){x:Str}(h:ns.contains x=true): ∃C,(x,C)∈tbl:=by
 rw[<-e,List.contains_iff_mem] at h;obtain⟨q,h1,h2⟩:=List.mem_map.mp h
 exact⟨q.2,by rw[<-h2];exact h1⟩
theorem oN {K:W.Frag}{hid:bL}{H:Hp}{a:Addr}{x:Str}{n:Int}(h:ObOk K c hid H a (.exc x n))(ns:W.nsIn K mainGlobals x=some (some (.ref C))): ∃φ,H a=some (.ext φ)/\ ∀h,φ h-> ∃o,W.InstAt h a o C none:=by
 obtain⟨φ,h1,h2⟩:=h
 exact⟨φ,dz _ _ _ _ h1,λh q=>(h2 h q).inst ns⟩
variable(T:ExTab X.K X.mg CR tbl)
include T
theorem qH(i:Nat){ns:List Str}{D:Addr}(hT:tbl.map (·.1)=ns)(hD:(y,D)∈tbl)(hm:X.mg "isinstance"=none)(hN:X.N[i]? =some z:=by rfl)(hv:m5 X.env.scope z:=by first|exact Or.inl rfl|exact Or.inr (Or.inl rfl)|exact Or.inr (Or.inr rfl))(hd:(z==("__debug__":Str))=false:=by decide)(hcd:(z==("__classdict__":Str))=false:=by decide)
 (hg:Gl X "isinstance":=by rfl) (hgy:Gl X y:=by rfl) (hbv:bootBuiltins "isinstance"=some (.builtin "isinstance"):=by kernel_rfl) (hdy:(y==("__debug__":Str))=false:=by decide)
 (hs1:starEach [.Name z p1,.Name y p2] X.env=(false,eval (.Name z p1) X.env)::starEach [.Name y p2] X.env:=by rfl) (hs2:starEach [.Name y p2] X.env=(false,eval (.Name y p2) X.env)::starEach [] X.env:=by rfl) (hpl:(backTo pos (starEach [.Name y p2] X.env)).any (·.1)=false:=by rfl):
 DP X c .s (.Call (.Name "isinstance" p) [.Name z p1,.Name y p2] [] pos) (oQ i ns [y]):=λhid ρ=>
 PE.imp (iJ kl hg hm hbv (bp (pv i hN hv hd hcd) (bp (mh (v:=.ref D) hgy (T.row _ hD).mg rfl hdy) cO hs2) hs1) (by decide) (by decide) hs1 hpl) λσ H Q hq_=>by
  obtain⟨sr,d,hd,q⟩:=hq_
  unfold oQ xv at hd;split at hd
  ·rename_i x' n' e'
   dsimp only at hd;split at hd
   ·rename_i hc
    cases hd
    obtain⟨a,z1,z2⟩:=sr.sl i _ e'
    obtain⟨C,hC⟩:=jF hT hc.1
    refine⟨.ref a,z1,a,.ref D,C,ii x' y,rfl,oN z2 (T.row _ hC).ns,(T.row _ hC).cc,.inl ⟨D,rfl,T.one hC hD⟩,?_⟩
    have:=q (.bl (ii x' y)) H (Same.refl _)
    simp only[List.any_cons,List.any_nil,Bool.or_false] at this;exact this .bl
   ·cases hd
  ·cases hd
theorem wq(i:Nat){ns:List Str}(hT:tbl.map (·.1)=ns)(hm:X.mg "isinstance"=none)(hmv:X.mg "ValueError"=none)(hN:X.N[i]? =some z:=by rfl)(hv:m5 X.env.scope z:=by first|exact Or.inl rfl|exact Or.inr (Or.inl rfl)|exact Or.inr (Or.inr rfl))(hd:(z==("__debug__":Str))=false:=by decide)(hcd:(z==("__classdict__":Str))=false:=by decide)
 (hg:Gl X "isinstance":=by rfl) (hgy:Gl X "ValueError":=by rfl) (hbv:bootBuiltins "isinstance"=some (.builtin "isinstance"):=by kernel_rfl) (hbw:bootBuiltins "ValueError"=some (.type "ValueError"):=by kernel_rfl)
 (hs1:starEach [.Name z p1,.Name "ValueError" p2] X.env=(false,eval (.Name z p1) X.env)::starEach [.Name "ValueError" p2] X.env:=by rfl) (hs2:starEach [.Name "ValueError" p2] X.env=(false,eval (.Name "ValueError" p2) X.env)::starEach [] X.env:=by rfl) (hpl:(backTo pos (starEach [.Name "ValueError" p2] X.env)).any (·.1)=false:=by rfl):
 DP X c .s (.Call (.Name "isinstance" p) [.Name z p1,.Name "ValueError" p2] [] pos) (yR i ns):=λhid ρ=>
 PE.imp (iJ kl hg hm hbv (bp (pv i hN hv hd hcd) (bp (wY (v:=.ty "ValueError") hgy hmv hbw rfl) cO hs2) hs1) (by decide) (by decide) hs1 hpl) λσ H Q hq_=>by
  obtain⟨sr,d,hd,q⟩:=hq_
  unfold yR xv at hd;split at hd
  ·rename_i x' n' e'
   dsimp only at hd;split at hd
   ·rename_i hc
    cases hd
    obtain⟨a,z1,z2⟩:=sr.sl i _ e'
    obtain⟨C,hC⟩:=jF hT hc
    exact⟨.ref a,z1,a,.ty "ValueError",C,true,rfl,oN z2 (T.row _ hC).ns,(T.row _ hC).cc,.inr (.inl ⟨_,rfl,T.val hC⟩),q (.bl true) H (Same.refl _) .bl⟩
   ·cases hd
  ·cases hd
theorem wG(i:Nat){ns:List Str}{es:List Expr}{x1:Nat}{qs:List (Str×Addr)}(hT:tbl.map (·.1)=ns)(hq: ∀q∈qs,q∈tbl)(hP:PA X es (AR (qs.map (·.2))))(hlen:qs.length<=100)(hm:X.mg "isinstance"=none)(hN:X.N[i]? =some z:=by rfl)(hv:m5 X.env.scope z:=by first|exact Or.inl rfl|exact Or.inr (Or.inl rfl)|exact Or.inr (Or.inr rfl))(hd:(z==("__debug__":Str))=false:=by decide)(hcd:(z==("__classdict__":Str))=false:=by decide)
 (hg:Gl X "isinstance":=by rfl) (hbv:bootBuiltins "isinstance"=some (.builtin "isinstance"):=by kernel_rfl)
 (hs1:starEach [.Name z p1,.Tuple es x1 p2] X.env=(false,eval (.Name z p1) X.env)::starEach [.Tuple es x1 p2] X.env:=by rfl) (hs2:starEach [.Tuple es x1 p2] X.env=(false,eval (.Tuple es x1 p2) X.env)::starEach [] X.env:=by rfl) (hpl:(backTo pos (starEach [.Tuple es x1 p2] X.env)).any (·.1)=false:=by rfl):
 DP X c .s (.Call (.Name "isinstance" p) [.Name z p1,.Tuple es x1 p2] [] pos) (oQ i ns (qs.map (·.1))):=λhid ρ=>
 PE.imp (iJ kl hg hm hbv (bp (pv i hN hv hd hcd) (bp (ub hP) cO hs2) hs1) (by decide) (by decide) hs1 hpl) λσ H Q hq_=>by
  obtain⟨sr,d,hd,q⟩:=hq_
  unfold oQ xv at hd;split at hd
  ·rename_i x' n' e'
   dsimp only at hd;split at hd
   ·rename_i hc
    cases hd
    obtain⟨a,z1,z2⟩:=sr.sl i _ e'
    obtain⟨C,hC⟩:=jF hT hc.1
    refine⟨.ref a,z1,?_,λt ht=>?_⟩
    ·show(List.map V.ref _).length<=sizeLine
     rw[List.length_map,List.length_map];exact Nat.le_trans hlen (by decide)
    ·obtain⟨φ,g1,g2⟩:=oN z2 (T.row _ hC).ns
     refine⟨a,.ref t,C,qs.any λq=>ii x' q.1,rfl,⟨φ,by rw[ar (bv g1 ht)];exact g1,g2⟩,(T.row _ hC).cc,.inr (.inr ⟨t,qs.map (·.2),rfl,ax,?_⟩),?_⟩
     ·rw[List.map_map];exact T.any hC qs hq
     ·refine q (.bl (qs.any λq=>ii x' q.1)) _ (aU ht _) ?_
      rw[List.any_map];exact Rep.bl
   ·cases hd
  ·cases hd
end
abbrev Cx.inTry(X:Cx)(pn:List (Addr×Obj))(E:Value->Shared->Prop):Cx:={X with pn:=pn,xe:=E}
abbrev Cx.caught(X:Cx)(v:Option Value):Cx:={X with A:=X.A.mark v,calm:=false,xe:=λ_ _=>False}
section
variable {X:Cx}{ae pins':List (Addr×Obj)}{σ:St}{H:Hp}{s:Shared}{E:Value->Shared->Prop}{v:Option Value}{a:Addr}
theorem Cx.Ok.inTry {pn:List (Addr×Obj)}(ok:X.Ok):(X.inTry pn E).Ok:=⟨ok.mod,ok.kind,ok.glob,ok.blt,ok.above,ok.inj,ok.has,ok.cab,ok.hd,ok.frames,ok.stk,ok.exf,ok.bs,ok.bsz,ok.noex,ok.exfs,ok.funs,ok.frf⟩
theorem Cx.Ok.outTry {pn:List (Addr×Obj)}(ok:(X.inTry pn E).Ok):X.Ok:=⟨ok.mod,ok.kind,ok.glob,ok.blt,ok.above,ok.inj,ok.has,ok.cab,ok.hd,ok.frames,ok.stk,ok.exf,ok.bs,ok.bsz,ok.noex,ok.exfs,ok.funs,ok.frf⟩
theorem Inv.inTry(I:Inv X ae σ H s):Inv (X.inTry (X.pn++ae) E) [] σ H s:=
 ⟨I.ok.inTry,I.os,I.bare,I.base,I.loc,I.cell,I.free,I.freeC,λp hp=>I.pin p (by rw[List.append_nil] at hp;exact hp),I.hok,I.len⟩
theorem Inv.outTry(I:Inv (X.inTry (X.pn++ae) E) pins' σ H s):Inv X ae σ H s:=
 ⟨I.ok.outTry,I.os,I.bare,I.base,I.loc,I.cell,I.free,I.freeC,λp hp=>I.pin p (List.mem_append_left _ hp),I.hok,I.len⟩
theorem Inv.caught(I:Inv X ae σ H s):Inv (X.caught v) ae σ H s:=
 ⟨⟨I.ok.mod,I.ok.kind,I.ok.glob,I.ok.blt,I.ok.above,I.ok.inj,I.ok.has,I.ok.cab,(λq=>nomatch q),I.ok.frames,I.ok.stk,I.ok.exf,I.ok.bs,I.ok.bsz,I.ok.noex,I.ok.exfs,I.ok.funs,I.ok.frf⟩,I.os,I.bare,I.base,I.loc,I.cell,I.free,I.freeC,I.pin,I.hok,I.len⟩
theorem Inv.uncaught(ok:X.Ok)(I:Inv (X.caught v) ae σ H s):Inv X ae σ H s:=⟨ok,I.os,I.bare,I.base,I.loc,I.cell,I.free,I.freeC,I.pin,I.hok,I.len⟩
theorem SP.outTry {D:Ends}{f:Flow}(h:SP (X.inTry (X.pn++ae) E) pins' D f s):SP X ae D f s:=by
 cases f with
 |next=>obtain⟨σ',H',I,q⟩:=h;exact⟨σ',H',I.outTry,q⟩
 |brk=>obtain⟨σ',H',I,q⟩:=h;exact⟨σ',H',I.outTry,q⟩
 |cont=>obtain⟨σ',H',I,q⟩:=h;exact⟨σ',H',I.outTry,q⟩
 |ret u=>obtain⟨v,σ',H',I,r,q⟩:=h;exact⟨v,σ',H',I.outTry,r,q⟩
theorem XS.outTry {o0:Obj}{ea:Addr}(x:XS (X.inTry (X.pn++ae) E) pins' σ H o0 ea s):XS X ae σ H o0 ea s:=by
 obtain⟨g,F,I,aw,fl,up,gn⟩:=x
 exact⟨g,F,I.outTry,⟨aw.1,λb hb nb=>⟨(aw.2 b hb nb).1,(aw.2 b hb nb).2.1,(aw.2 b hb nb).2.2.1,(aw.2 b hb nb).2.2.2.1,λp hp=>(aw.2 b hb nb).2.2.2.2 p (List.mem_append_left _ hp)⟩⟩,fl,up,gn⟩
theorem ObjOk.there {P:Program}{w:World}{h:Heap}{o:HO}(x:ObjOk P w H h a o): ∃u,h.get? a=some u:=by
 induction o with
 |lst xs=>obtain⟨_,_,_,_,e⟩:=x;exact⟨_,e⟩
 |tup xs=>obtain⟨_,_,_,⟨_,e,_⟩,_⟩:=x;exact⟨_,e⟩
 |dK kvs=>obtain⟨_,_,_,_,o,_,_,e,_⟩:=x;exact⟨_,e⟩
 |dT kvs=>obtain⟨_,_,_,_,o,_,_,e,_⟩:=x;exact⟨_,e⟩
 |set S n=>obtain⟨o,_,_,_,e,_⟩:=x;exact⟨_,e⟩
 |tst xs=>obtain⟨o,_,_,_,e,_⟩:=x;exact⟨_,e⟩
 |ins C dx fs=>obtain⟨_,_,_,e,_⟩:=x;exact⟨_,e⟩
 |own y=>obtain⟨_,e⟩:=x;exact⟨_,e⟩
 |xd fs=>obtain⟨_,⟨_,_,_,e,_⟩,_⟩:=x;exact⟨_,e⟩
 |rng lo hi=>obtain⟨_,_,_,e⟩:=x;exact⟨_,e⟩
 |frz ob u ih=>obtain⟨e,_⟩:=x;exact⟨_,e⟩
 |nst p u ih=>exact ih x
 |tbl ps=>exact⟨_,show h.get? a=some _ from x⟩
 |met f y=>exact⟨_,show h.get? a=some _ from x⟩
 |ext φ=>obtain⟨_,⟨_,e⟩,_⟩:=x;exact⟨_,e⟩
theorem Inv.newer {g:Heap}(Ig:Inv X ae σ H {s with heap:=g})(gn:g.get? a=none):H a=none:=by
 cases q:H a with
 |none=>rfl
 |some u=>
  obtain⟨o,e⟩:=(Ig.hok a u q).there
  rw[show g.get? a=some o from e] at gn;cases gn
theorem Inv.track {g:Heap}{o:Obj}{φ:Heap->Prop}(I:Inv X ae σ H s)(Ig:Inv X ae σ H {s with heap:=g})(gn:g.get? a=none)(ho:s.heap.get? a=some o)(hφ:φ s.heap)
 (hst: ∀h1 h2:Heap,φ h1->(∀o,h1.get? a=some o->h2.get? a=some o)->φ h2):Inv X ae σ (bf H a (.ext φ)) s:=by
 have Ha:=Ig.newer gn
 have ne: ∀ {b o},g.get? b=some o->b≠a:=λ{b o} e z=>by rw[z,gn] at e;cases e
 have nt: ∀ {b u},H b=some u->b≠a:=λ{b u} e z=>by rw[z,Ha] at e;cases e
 have hL:X.env.locals≠a:=by
  obtain⟨m,⟨o',es,ep,e,_⟩,_⟩:=Ig.loc
  exact ne e
 refine⟨I.ok,I.os,I.bare,⟨I.base.keep,I.base.slot,λb ob e n hx=>?_,I.base.there,λb xs e=>?_,λb ob u e=>?_,λb ps e=>?_⟩,I.loc,I.cell,?_,λx c e=>?_,λp hp=>?_,λb u e=>?_,I.len⟩
 ·obtain⟨o',e'⟩:=Ig.base.there b ob e hx
  rw[ar (ne e')];exact I.base.free b ob e n hx
 ·have:=I.base.tups b xs e
  rw[ar (nt this)];exact this
 ·have:=I.base.frzs b ob u e
  rw[ar (nt this)];exact this
 ·obtain⟨m,e'⟩:=I.base.tbls b ps e
  exact⟨m,by rw[ar (nt e')];exact e'⟩
 ·rw[ar hL];exact I.free
 ·obtain⟨w,o',e',_⟩:=Ig.cell x c e
  rw[ar (ne e')];exact I.freeC x c e
 ·obtain⟨h1,h2,h3⟩:=I.pin p hp
  exact⟨h1,by rw[ar (ne (Ig.pin p hp).1)];exact h2,h3⟩
 ·by_cases z:b=a
  ·subst z
   rw[ax] at e;cases e
   exact⟨hφ,⟨o,ho⟩,hst⟩
  ·rw[ar z] at e
   exact(I.hok b u e).stay (λ_ _ _ q=>q) (λc q=>by rw[ar (nt q)];exact q) λc xs q=>by rw[ar (nt q)];exact q
theorem Inv.blind {h':Heap}{t':Nat}{m':Str->Option Value}(I:Inv X ae σ H s)(hn:h'.Ns X.env.locals m')(sb:Heap.SameBut X.env.locals s.heap h'):Inv X ae (List.replicate X.N.length none) H {s with heap:=h',toks:=t'}:=by
 have kp: ∀b o,b≠X.env.locals->s.heap.get? b=some o->h'.get? b=some o:=λb o n e=>(sb.2 b n).trans e
 have n0: ∀ {b o},X.s₀.heap.get? b=some o->b≠X.env.locals:=λ{b o} e z=>by
  have:=Heap.lt_size e
  rw[z] at this;exact absurd this (Nat.not_lt.mpr I.ok.above)
 refine⟨I.ok,I.os,I.bare,⟨λb o e n hf hx=>kp b o (n0 e) (I.base.keep b o e n hf hx),λb o e n hf hx=>?_,I.base.free,λb o e hx=>?_,I.base.tups,I.base.frzs,I.base.tbls⟩,⟨m',hn,λi x v _ e=>?_⟩,λx c e=>?_,I.free,I.freeC,λp hp=>?_,λb u e=>?_,by simp⟩
 ·obtain⟨sl,q⟩:=I.base.slot b o e n hf hx
  exact⟨sl,kp b _ (n0 e) q⟩
 ·obtain⟨o',q⟩:=I.base.there b o e hx
  exact⟨o',kp b _ (n0 e) q⟩
 ·rw[List.getElem?_replicate] at e
  split at e<;>cases e
 ·obtain⟨v,o,q,r⟩:=I.cell x c e
  exact⟨v,o,kp c o (I.cne x c e) q,r⟩
 ·obtain⟨h1,h2,h3,h4⟩:=I.pin p hp
  exact⟨kp _ _ h3 h1,h2,h3,h4⟩
 ·refine(I.hok b u e).stay (λc o hc q=>kp c o (λz=>?_) q) (λ_ q=>q) λ_ _ q=>q
  have:=I.free
  rw[<-z] at this;rcases hc with rfl|hc
  ·rw[e] at this;cases this
  ·rw[hc] at this;cases this
end
section
variable {K:W.Frag}{c:Ct}{hid:bL}{ρ:aB}{σ:St}{H:Hp}{a:Addr}{x:Str}{n:Int}
theorem SR.setEx(h:SR K c hid ρ σ H)(ho:ObOk K c hid H a (.exc x n))(i:Nat):SR K c hid (ρ.set i (.ob (.exc x n))) (σ.set i (some (.ref a))) H:=by
 have nj: ∀m,Ow (ρ.set i (.ob (.exc x n)))[m]? ->m≠i:=λm o e=>by
  subst e
  by_cases lt:m<ρ.length
  ·rw[List.getElem?_set_self lt] at o;exact o
  ·rw[List.getElem?_eq_none (by simpa using lt)] at o;exact o
 refine⟨h.tr,h.ht,h.h0,h.kp,h.t0,h.c0,h.m0,by simp[h.len],λj s q=>?_,λj l z ne o1 o2 q1 q2=>?_⟩
 ·by_cases e:j=i
  ·subst e
   have lt:j<ρ.length:=by
    have:=(List.getElem?_eq_some_iff.mp q).1
    simpa using this
   rw[List.getElem?_set_self lt] at q;cases q
   exact⟨a,List.getElem?_set_self (by rw[h.len];exact lt),ho⟩
  ·rw[List.getElem?_set_ne (Ne.symm e)] at q
   have w:=h.sl j s q
   have es:(σ.set i (some (V.ref a)))[j]? =σ[j]? :=List.getElem?_set_ne (Ne.symm e)
   cases s with
   |no=>trivial
   |v d=>obtain⟨x,h1,h2⟩:=w;exact⟨x,es.trans h1,h2⟩
   |own ds=>obtain⟨a,xs,h1,h2⟩:=w;exact⟨a,xs,es.trans h1,h2⟩
   |arg ds=>obtain⟨a,xs,h1,h2⟩:=w;exact⟨a,xs,es.trans h1,h2⟩
   |ob b=>obtain⟨a,h1,h2⟩:=w;exact⟨a,es.trans h1,h2⟩
 ·have e1:=nj j o1
  have e2:=nj l o2
  rw[List.getElem?_set_ne (Ne.symm e1)] at o1 q1;rw[List.getElem?_set_ne (Ne.symm e2)] at o2 q2;exact h.ap j l z ne o1 o2 q1 q2
end
theorem InFl.keeps {B:Heap}{l:List Env}{e:Addr}{o0:Obj}{h h':Heap}(x:InFl B l e o0 h)(k: ∀b o,h.get? b=some o->h'.get? b=some o):InFl B l e o0 h':=by
 refine⟨λb o q=>k b o (x.st b o q),x.ne,x.ff.of_keeps λb o q _=>⟨o,k b o q,rfl⟩,?_⟩
 rcases x.tr with⟨vs,T,oT,ts,h1,h2,h3,h4,h5,h6⟩|⟨vs,h1,h2⟩
 ·exact .inl ⟨vs,T,oT,ts,k _ _ h1,h2,h3,h4,k _ _ h5,h6⟩
 ·exact .inr ⟨vs,k _ _ h1,h2⟩
theorem Trc.keeps {B:Heap}{e:Addr}{o0:Obj}{h h':Heap}(x:Trc h B e o0)(k: ∀b o,h.get? b=some o->h'.get? b=some o):Trc h' B e o0:=by
 obtain⟨vs,T,oT,ts,h1,h2,h3,h4,h5,h6⟩:=x
 exact⟨vs,T,oT,ts,k _ _ h1,h2,h3,h4,k _ _ h5,h6⟩
section
variable {K:W.Frag}{M:Model}{A:Around}{E:Value->Shared->Prop}{s:Shared}{ea C D:Addr}{o:Obj}{b:Bool}
theorem ExcC.isExc(X:ExcC K D){h:Heap}(KI:K.In h):W.Looks M h (isExcClass (.ref D)) true:=by
 have L:W.Looks M h (isType (.ref D)) true:=by
  obtain⟨cd,hc⟩:=X.cls
  unfold W.clsIn at hc;split at hc
  ·rename_i c' d' cd' sl' ho
   intro A' Q' E' s' k q;unfold isType loadHead;exact wpAny_bind (wpAny_loadPart (k _ _ (KI _ _ ho)) (wpAny_pure q))
  ·cases hc
 unfold isExcClass;refine L.andThen ?_
 exact W.looks_mroIn KI X.mb
theorem w8 {Q:Bool->Shared->Prop}(KI:K.In s.heap)(I:W.InstAt s.heap ea o C none)(X:ExcC K D)(ty:W.typeIn K (.ref D)=some (.type "type"))(hCD:W.mroIn K C (.ref D)=some b)(q:Q b s):wpAny M A (excMatches (.ref ea) (.ref D)) Q E s:=by
 obtain⟨hh,g,d,t,os⟩:=s
 have L0:W.Looks M hh (isInstance (.ref D) (.type "tuple")) false:=(W.looks_typeIn (M:=M) KI ty).andThen (W.Looks.of_pure tc_notTuple)
 have L1:=X.isExc (M:=M) KI
 have L2:=I.type (M:=M)
 have L3:=W.looks_mroIn (M:=M) KI hCD
 unfold excMatches;refine wpAny_bind (L0.at ?_)
 simp only[Bool.false_eq_true,if_false];refine wpAny_bind (wpAny_pure ?_)
 simp only[List.forIn_cons,List.forIn_nil];refine wpAny_bind (wpAny_bind (wpAny_bind (L1.at ?_)))
 simp only[Bool.not_true,Bool.false_eq_true,if_false];refine wpAny_pure (wpAny_pure (wpAny_bind (L2.at ?_)))
 refine wpAny_bind (wpAny_bind (wpAny_bind (L3.at ?_)))
 cases b with
 |true=>simp only[if_true];exact wpAny_pure (wpAny_pure (wpAny_pure q))
 |false=>simp only[Bool.false_eq_true,if_false];exact wpAny_pure (wpAny_pure (wpAny_pure q))
end
def Cg(X:Cx)(te:Expr)(ns ys:List Str):Prop:= ∀(v:Option Value) (ae:List (Addr×Obj)) (s:Shared) (σ:St) (H:Hp) (ea:Addr) (x:Str) (C:Addr) (o:Obj) (Q:Bool->Shared->Prop),Inv (X.caught v) ae σ H s->ns.contains x=true->
 W.nsIn X.K mainGlobals x=some (some (.ref C))->W.InstAt s.heap ea o C none->(∀s1 H1,Inv (X.caught v) ae σ H1 s1->Same H H1->(∀b o,s.heap.get? b=some o->s1.heap.get? b=some o)->s1.os=s.os->s1.gens=s.gens->Q (ys.any λy=>ii x y) s1)->
 wpAny (model X.prog X.w) (X.A.mark v) (eval te X.env) (λc s₁=>wpAny (model X.prog X.w) (X.A.mark v) (excMatches (.ref ea) c) Q (λ_ _=>False) s₁) (λ_ _=>False) s
section
variable {X:Cx}{y:Str}{p2:Pos}{CR D:Addr}{tbl:List (Str×Addr)}{ns:List Str}(T:ExTab X.K X.mg CR tbl)
include T
theorem vC(hT:tbl.map (·.1)=ns)(hD:(y,D)∈tbl)(hg:Gl X y:=by rfl)(hd:(y==("__debug__":Str))=false:=by decide):Cg X (.Name y p2) ns [y]:=by
 intro v ae s σ H ea x C o Q I hx hC io q;obtain⟨C',hC'⟩:=jF hT hx
 have:C'=C:=by
  have:=(T.row _ hC').ns
  rw[hC] at this;injection this with this;injection this with this
  exact(Value.ref.inj this).symm
 subst this;refine gQ (X:=X.caught v) I hg (T.row _ hD).mg ?_ hd
 refine w8 I.kIn io (T.row _ hD).cc (T.row _ hD).ty (T.mro hC' hD) ?_
 have:=q s H I (Same.refl _) (λ_ _ e=>e) rfl rfl
 simpa using this
end
theorem DA.nox {X:Cx}{c:Ct}{es:List Expr}{f:FA}(h:DA X.nox c es f):DA X c es f:=λhid ρ p ae s σ H Q I hw=>
 wpAny_mono (h hid ρ p ae s σ H Q (I.wish _) hw) (λ_ _ ⟨v,H',I',r,q⟩=>⟨v,H',I'.unwish,r,q⟩) λ_ _ z=>False.elim z
theorem An {X:Cx}{c:Ct}{x:Str}{n:Int}{pos:Pos}(h: ∃tk,X.mg x=some (.int n tk))(hg:Gl X x:=by rfl)(hd:(x==("__debug__":Str))=false:=by decide):DP X c .s (.Name x pos) (ao (.int n)):=λhid ρ=>by
 obtain⟨tk,hm⟩:=h
 exact PE.imp (mh (v:=.int n) hg hm ⟨tk,rfl⟩ hd) λσ H Q ⟨sr,d,hd,q⟩=>by cases hd;exact q _ H (Same.refl _) .int
theorem wb {α:Type}{l:List α}: ∀q∈([]:List α),q∈l:=λ_ h=>nomatch h
theorem mem_cons {α:Type}{l r:List α}{a:α}(h:a∈l)(hr: ∀q∈r,q∈l): ∀q∈a::r,q∈l:=λq hq=>(List.mem_cons.mp hq).elim (λe=>by rw[e];exact h) (hr q)
theorem tz {α:Type}{P:α->Prop}: ∀q∈([]:List α),P q:=λ_ h=>nomatch h
theorem cw {α:Type}{P:α->Prop}{r:List α}{a:α}(h:P a)(hr: ∀q∈r,P q): ∀q∈a::r,P q:=λq hq=>(List.mem_cons.mp hq).elim (λe=>by rw[e];exact h) (hr q)
abbrev CA(X:Cx):Prop:=X.stack=X.env::X.outer/\X.env.frame=some X.env.locals
def pK(i:Nat)(ns ys:List Str)(t:FX)(u:FS):FS:=λρ=>match t ρ with
 | .ok o=>o
 | .error z=>if ns.contains z.1.x=true/\(ys.any λy=>ii z.1.x y)=true then(match u (z.2.set i (.ob (.exc z.1.x z.1.n))) with
    | .rt d ρ2=>.rt d ρ2
    |_=>.no) else .no
section
variable {X:Cx}{c:Ct}{k:Kd}{body suite:List Stmt}{b0:Stmt}{te:Expr}{n:Str}{hpos pos:Pos}{t:FX}{u:FS}{ns ys:List Str}{i:Nat}
theorem sU(i:Nat)(hN:X.N.Nodup)(hf:CA X)(hb: ∀pn E,mt (X.inTry pn E) c k body t)(hc:Cg X te ns ys)(hs: ∀v,oP (X.caught v) c k (b0::suite) u)(hi:X.N[i]? =some n:=by rfl)(hl:X.env.scope.names.lookup n=some .local:=by rfl):
 DS X c k (.Try body [.ExceptHandler (some te) (some n) (b0::suite) hpos] [] [] pos) (pK i ns ys t u):=λρ ae s σ H D I hq_=>by
 obtain⟨hid,sr,q⟩:=hq_
 unfold pK at q;refine wpAny_Try_except (wpAny_mono (hb (X.pn++ae) (λe s₁=>wpAny (model X.prog X.w) X.A (noteFrame e X.env) (λ_ s₂=>wpAny (model X.prog X.w) X.A (setFlight e none) (λ_ s₃=>
  wpAny (model X.prog X.w) X.A (handleBy e X.env [.ExceptHandler (some te) (some n) (b0::suite) hpos]) (SP X ae D) X.xe s₃) X.xe s₂) X.xe s₁) ρ [] s σ H D I.inTry ⟨hid,sr,?_⟩) (λf s₁ h₁=>?_) λe s₁ h=>h)
 ·cases e:t ρ with
  |ok o=>rw[e] at q;exact q
  |error zz=>
   obtain⟨z,ρ'⟩:=zz
   rw[e] at q;dsimp only at q;intro σ' H' hid' C sr' sm hn pins' ea o0 s' hcls hdict xs;obtain⟨g,F,Ig,aw,fl,up,gn⟩:=xs.outTry
   split at q
   ·rename_i hz
    obtain⟨stk,frm⟩:=hf
    have hfr:X.A.frames=some (X.env::X.outer):=by rw[<-stk];exact I.ok.frames
    have fl0:InFl (W.hideAll g F) (X.env::X.outer) ea o0 s'.heap:=by rw[<-stk];exact fl
    refine qj hfr frm fl0 λh1 fl1 tr1 up1=>?_
    have I1:Inv X ae σ' H' {s' with heap:=h1}:=XS.inv (s':={s' with heap:=h1}) ⟨g,F,Ig,aw,by rw[stk];exact fl1,up.trans up1,gn⟩
    have inst: ∀ {h:Heap},Trc h (W.hideAll g F) ea o0-> ∃o,W.InstAt h ea o C none:=λ{h} tr=>by
     obtain⟨vs,_,_,_,he,_⟩:=tr
     exact⟨_,he,hcls,rfl,by show(match o0.dict,none with|some dx,some o=>h.get? dx=some o|none,none=>True|_,_=>False);rw[hdict];trivial⟩
    obtain⟨o1,io⟩:=inst tr1
    refine wpAny_handleBy_cons (codeAny_handlers_test ?_) (by intro q;cases q)
    refine wpAny_mono (hc (some (.ref ea)) ae _ σ' H' ea z.x C o1 _ I1.caught hz.1 hn io λs2 H2 I2 sm2 kp2 os2 gs2=>?_) (λcl s₂ h₂=>wpAny_mono h₂ (λ_ _ z=>z) λ_ _ z=>z.elim) λ_ _ z=>z.elim
    rw[hz.2];simp only[if_true];refine codeAny_handlers_suite_as ?_
    have I2':Inv X ae σ' H2 s2:=I2.uncaught I.ok
    have fl2:=fl1.keeps kp2
    have tr2:=tr1.keeps kp2
    refine wX fl2 tr2 λh3 fl3 tr3 up3=>?_
    have gk: ∀b o,g.get? b=some o->b∉F->s2.heap.get? b=some o:=λb o e nF=>fl2.st b o (W.hideAll_get _ e nF)
    have I3:Inv X ae σ' H' {s2 with heap:=h3}:=XS.inv (s':={s2 with heap:=h3}) ⟨g,F,by
     have:=Ig
     exact⟨this.ok,by show s2.os=_;rw[os2];exact this.os,by show AllBare s2.gens;rw[gs2];exact this.bare,this.base,this.loc,this.cell,this.free,this.freeC,this.pin,this.hok,this.len⟩,aw,by rw[stk];exact fl3,(up.trans up1).trans ((Heap.UpToSlots.of_keeps kp2).trans up3),gn⟩
    obtain⟨o3,io3⟩:=inst tr3
    have Ig':Inv X ae σ' H' {s2 with heap:=g}:=⟨Ig.ok,by show s2.os=_;rw[os2];exact Ig.os,by show AllBare s2.gens;rw[gs2];exact Ig.bare,Ig.base,Ig.loc,Ig.cell,Ig.free,Ig.freeC,Ig.pin,Ig.hok,Ig.len⟩
    have exat: ∀ {h:Heap},(∃o,W.InstAt h ea o C none)->ExcAt X.K z.x z.n ea h:=λ{h} ⟨o,io⟩=>⟨C,o,hn,io.at_,io.cls,by have:=io.dict;cases hd:o.dict with|none=>rfl|some dx=>rw[hd] at this;exact this.elim,io.no⟩
    have I4:Inv X ae σ' (bf H' ea (.ext (ExcAt X.K z.x z.n ea))) {s2 with heap:=h3}:=I3.track (g:=g) Ig' gn io3.at_ (exat ⟨o3,io3⟩) λk1 k2 ⟨C',o',w1,w2,w3⟩ kk=>⟨C',o',w1,kk _ w2,w3⟩
    have Hn:H' ea=none:=Ig.newer gn
    have sr4:SR X.K c hid' ρ' σ' (bf H' ea (.ext (ExcAt X.K z.x z.n ea))):=sr'.ext (aU Hn _)
    have ob4:ObOk X.K c hid' (bf H' ea (.ext (ExcAt X.K z.x z.n ea))) ea (.exc z.x z.n):=⟨_,vw_some.mpr ⟨sr'.fresh Hn,ax⟩,λh q=>q⟩
    refine gu (v:=.ref ea) I4 hN hi (.inl hl) rfl (λs5 I5=>?_) (.inr hl)
    have sr5:=sr4.setEx ob4 i
    cases eu:u (ρ'.set i (.ob (.exc z.x z.n))) with
    |rt d ρ2=>
     rw[eu] at q;refine wpAny_mono (hs (some (.ref ea)) (ρ'.set i (.ob (.exc z.x z.n))) ae s5 _ _ {nx:=λ_ _=>False,rt:=D.rt} I5.caught ⟨hid',sr5,by rw[eu];exact q⟩) (λf s6 h6=>?_) λ_ _ z=>z.elim
     cases f with
     |next=>obtain⟨_,_,_,z⟩:=h6;exact z.elim
     |brk=>obtain⟨_,_,_,z⟩:=h6;exact z.elim
     |cont=>obtain⟨_,_,_,z⟩:=h6;exact z.elim
     |ret u6=>
      obtain⟨v6,σ6,H6,I6,r6,q6⟩:=h6
      have J6:=I6.uncaught I.ok
      obtain⟨m6,n6,_⟩:=J6.loc
      exact wpAny_nameGoes hl n6 (by rw[J6.ok.kind];rfl) λh7 m7 n7 sb7=>⟨v6,_,H6,J6.blind n7 sb7,r6,q6⟩
    |nx ρ2=>rw[eu] at q;exact q.elim
    |bk ρ2=>rw[eu] at q;exact q.elim
    |ct ρ2=>rw[eu] at q;exact q.elim
    |no=>rw[eu] at q;exact q.elim
   ·exact q.elim
 ·cases f with
  |next=>exact wpAny_execs_nil (SP.outTry h₁)
  |brk=>exact SP.outTry h₁
  |cont=>exact SP.outTry h₁
  |ret u=>exact SP.outTry h₁
end
section
variable {X:Cx}{c:Ct}{e:Expr}{es:List Expr}{k:Kd}{pos p:Pos}{x:Str}{ps:List Str}{j n:Nat}
def fL(f:FE):FA:=λρ=>(f ρ).bind λd=>match d with
 | .lst ds=>some ds
 | .tup ds=>some ds
 |_=>none
theorem iG {tg iter:Expr}{f:FE}(h:DP X c .s iter f):DIp X c tg iter (fL f):=λhid ρ ae s σ H R I hq_=>by
 obtain⟨sr,ds,e1,q⟩:=hq_
 unfold fL at e1;cases e2:f ρ with
 |none=>rw[e2] at e1;cases e1
 |some d=>
  rw[e2,Option.bind_some] at e1;cases d with
  |lst xs=>cases e1;exact t8 h hid ρ ae s σ H R I ⟨sr,ds,by unfold mR;rw[e2];rfl,q⟩
  |tup xs=>cases e1;exact xc h hid ρ ae s σ H R I ⟨sr,ds,by unfold wf;rw[e2];rfl,q⟩
  |_=>cases e1
end
theorem fV {a b:Addr}{l:List Addr}(h:(a::l).Nodup)(hb:b∈l): ¬b=a:=λe=>(List.nodup_cons.mp h).1 (e▸hb)
@[elab_as_elim] theorem ar0 {motive:List Value->Prop} (us:List Value) (hl:us.length=0) (h:motive []):motive us:=by
 cases us with
 |nil=>exact h
 |cons a r=>exact absurd hl (Nat.succ_ne_zero _)
@[elab_as_elim] theorem ar1 {motive:List Value->Prop} (us:List Value) (hl:us.length=1) (h: ∀a0,motive [a0]):motive us:=by
 cases us with
 |nil=>exact absurd hl (by decide)
 |cons a0 r=>exact ar0 (motive:=λr=>motive (a0::r)) r (Nat.succ.inj hl) (h a0)
@[elab_as_elim] theorem ar2 {motive:List Value->Prop} (us:List Value) (hl:us.length=2) (h: ∀a0 a1,motive [a0,a1]):motive us:=by
 cases us with
 |nil=>exact absurd hl (by decide)
 |cons a0 r=>exact ar1 (motive:=λr=>motive (a0::r)) r (Nat.succ.inj hl) (h a0)
@[elab_as_elim] theorem ar3 {motive:List Value->Prop} (us:List Value) (hl:us.length=3) (h: ∀a0 a1 a2,motive [a0,a1,a2]):motive us:=by
 cases us with
 |nil=>exact absurd hl (by decide)
 |cons a0 r=>exact ar2 (motive:=λr=>motive (a0::r)) r (Nat.succ.inj hl) (h a0)
@[elab_as_elim] theorem ar4 {motive:List Value->Prop} (us:List Value) (hl:us.length=4) (h: ∀a0 a1 a2 a3,motive [a0,a1,a2,a3]):motive us:=by
 cases us with
 |nil=>exact absurd hl (by decide)
 |cons a0 r=>exact ar3 (motive:=λr=>motive (a0::r)) r (Nat.succ.inj hl) (h a0)
@[elab_as_elim] theorem ar5 {motive:List Value->Prop} (us:List Value) (hl:us.length=5) (h: ∀a0 a1 a2 a3 a4,motive [a0,a1,a2,a3,a4]):motive us:=by
 cases us with
 |nil=>exact absurd hl (by decide)
 |cons a0 r=>exact ar4 (motive:=λr=>motive (a0::r)) r (Nat.succ.inj hl) (h a0)
@[elab_as_elim] theorem ar6 {motive:List Value->Prop} (us:List Value) (hl:us.length=6) (h: ∀a0 a1 a2 a3 a4 a5,motive [a0,a1,a2,a3,a4,a5]):motive us:=by
 cases us with
 |nil=>exact absurd hl (by decide)
 |cons a0 r=>exact ar5 (motive:=λr=>motive (a0::r)) r (Nat.succ.inj hl) (h a0)
theorem pG(a b x:Int):(Builtin.Range.rangePlace? a b 1 x).isSome=(decide (a<=x)&&decide (x<b)):=by
 unfold Builtin.Range.rangePlace?;simp only[Int.emod_one]
 by_cases h1:a<=x
 ·by_cases h2:x<b
  ·simp[h1,h2]
  ·simp[h2]
 ·simp[h1]
theorem jO(r:Addr)(a b x:Int)(t u v tx:Tok):
 Meets (Builtin.«range.__contains__» ⟨[.ref r,.int x tx],[]⟩) (λ_ R s=>s.heap.get? r=some {cls:=.type "range",dict:=none,data:=.fields #[.int a t,.int b u,.int 1 v],slots:= #[]}/\R (.ok (.ret (.bool (Builtin.Range.rangePlace? a b 1 x).isSome))) s):=
 .of_wp λprog w A R s h=>by obtain⟨hp,g,d,tk,os⟩:=s;obtain⟨hl,h⟩:=h;wp_walk;exact⟨_,rfl,h⟩
def pf(neg:Bool):R2:=λx y H Q=> ∃i p lo hi,x=.int i/\y=.ref p/\H p=some (.rng lo hi)/\Q (.bl (if neg then !(decide (lo<=i)&&decide (i<hi)) else(decide (lo<=i)&&decide (i<hi)))) H
theorem jo {X:Cx}:iu X (compareOp .NotIn) (pf true):=by
 intro ae s σ H v w a b Q I rx ry h;obtain⟨i,p,lo,hi,rfl,rfl,hp,q⟩:=h
 obtain⟨t0,rfl⟩:=rx
 cases ry
 obtain⟨t,u,v,ho⟩:=I.hok p _ hp
 refine PySem.SeqRoads2.notIn_meets ⟨_,ho,rfl⟩ PySem.F.slot_range_contains PySem.F.entry_range_contains (PySem.F.args_range_contains_2 _ _) (jO p lo hi i t u v _) ⟨ho,_,rfl,⟨.bl _,H,I,rfl,?_⟩⟩
 rw[pG];exact q
def nv(neg:Bool):D->D->Option D
 | .int i,.int j=>some (.bl (if neg then !(decide (0<=i)&&decide (i<j)) else(decide (0<=i)&&decide (i<j))))
 |_,_=>none
section
variable {X:Cx}{c:Ct}{e a:Expr}{k k2:Kd}{f g:FE}{pos p p2:Pos}{op:CmpOp}{neg:Bool}
theorem uh {hid:bL}{ρ:aB}{σ:St}{H:Hp}{Q:VK}(h:rY X.K c hid .s (ai (nv neg) f g) ρ σ H Q):
 yu (pf neg) (rY X.K c hid k f ρ) (AU (λxs H Q=> ∃j:Int,xs=[.int j]/\ ∀p,H p=none->Q (.ref p) (bf H p (.rng 0 j))) (xB (rY X.K c hid k2 g ρ) Aw)) σ H Q:=by
 obtain⟨sr,d,hd,q⟩:=h
 obtain⟨x,y,e1,e2,e3⟩:=ka hd
 unfold nv at e3;split at e3
 ·rename_i i j
  cases e3
  refine⟨sr,_,e1,λv H1 s1 r1=>⟨sr.ext s1,_,e2,λu H2 s2 r2=>?_⟩⟩
  have b1:=(RK.b k r1 λa n=>sr.fresh n).int
  have b2:=(RK.b k2 r2 λa n=>(sr.ext s1).fresh n).int
  cases b1
  cases b2
  refine⟨j,rfl,λp hp=>⟨i,p,0,j,rfl,rfl,ax,?_⟩⟩
  exact q _ _ ((s1.trans s2).trans (aU hp _)) .bl
 ·cases e3
theorem oz(hop:iu X (compareOp op) (pf neg))(hmr:X.mg "range"=none)(ha:DP X c k a f)(he:DP X c k2 e g)(hm:behindInMarks op (.Call (.Name "range" p) [e] [] p2)=false)(hgr:Gl X "range":=by rfl)(hvr:bootBuiltins "range"=some (.type "range"):=by kernel_rfl)
 (hs1:starEach [e] X.env=(false,eval e X.env)::starEach [] X.env:=by rfl) (hpl2:(backTo p2 (starEach [] X.env)).any (·.1)=false:=by rfl):DT X c (.Compare a [op] [.Call (.Name "range" p) [e] [] p2] pos) (be (ai (nv neg) f g)):=λhid ρ=>
 PT.imp (qK hop (ha hid ρ) (eN ls hgr hmr hvr (bp (he hid ρ) cO hs1) (by decide) (by decide) hs1 hpl2) hm) λσ H Q hq_=>by
  obtain⟨sr,d,hd,q⟩:=hq_
  refine uh (X:=X) (neg:=neg) (f:=f) (g:=g) ?_
  unfold be at hd;cases e:ai (nv neg) f g ρ with
  |none=>rw[e] at hd;cases hd
  |some x=>
   rw[e] at hd;cases x with
   |bl z=>
    cases hd
    refine⟨sr,_,e,λv H' s r=>⟨d,?_,q H' s⟩⟩
    cases r;rfl
   |_=>cases hd
end
section
variable {κ:Type} [DecidableEq κ]
def iA(kvs:List (κ×V))(k:κ):Option V:=(kvs.find? λkv=>decide (kv.1=k)).map (·.2)
def iH(kvs:List (κ×V))(k:κ)(v:V):List (κ×V):=
 if(kvs.any λkv=>decide (kv.1=k))=true then kvs.map (λkv=>if kv.1=k then(kv.1,v) else kv) else kvs++[(k,v)]
theorem iC {p:κ×V}{r:List (κ×V)}{k:κ}(e:p.1=k):iA (p::r) k=some p.2:=by simp[iA,List.find?_cons,e]
theorem iN {p:κ×V}{r:List (κ×V)}{k:κ}(e: ¬p.1=k):iA (p::r) k=iA r k:=by simp[iA,List.find?_cons,e]
theorem nR(k:κ): ∀kvs:List (κ×V),(kvs.any λkv=>decide (kv.1=k))=(iA kvs k).isSome
 | []=>rfl
 |p::r=>by
  rw[List.any_cons]
  by_cases e:p.1=k
  ·simp only[iC e,decide_eq_true e,Bool.true_or,Option.isSome_some]
  ·rw[iN e,decide_eq_false e,Bool.false_or];exact nR k r
theorem jr(kvs:List (κ×V))(k:κ)(v:V):(iH kvs k v).length<=kvs.length+1:=by
 unfold iH;split
 ·rw[List.length_map];omega
 ·rw[List.length_append,List.length_cons,List.length_nil];omega
theorem RelO.isSome_eq {o:Option V}{u:Option Value}(r:RelO o u):o.isSome=u.isSome:=by
 cases o with
 |none=>cases u with
  |none=>rfl
  |some _=>exact(show False from r).elim
 |some _=>cases u with
  |none=>exact(show False from r).elim
  |some _=>rfl
theorem KV.val {kvs:List (κ×V)}{vs:List (κ×Value)}(r:KV kvs vs)(k:κ):RelO (iA kvs k) (valueAt vs k):=by
 unfold KV at r
 induction r with
 |nil=>exact True.intro
 | @cons p q ps qs h t ih=>
   obtain⟨h1,h2⟩:=h
   by_cases e:p.1=k
   ·have e':q.1=k:=h1.symm.trans e
    have b:valueAt (q::qs) k=some q.2:=by simp[valueAt,List.find?_cons,e']
    rw[iC e,b];exact h2
   ·have e': ¬q.1=k:=λz=>e (h1.trans z)
    have b:valueAt (q::qs) k=valueAt qs k:=by simp[valueAt,List.find?_cons,e']
    rw[iN e,b];exact ih
theorem KV.any {kvs:List (κ×V)}{vs:List (κ×Value)}(r:KV kvs vs)(k:κ):(kvs.any λkv=>decide (kv.1=k))=vs.any λkv=>decide (kv.1=k):=by
 unfold KV at r
 induction r with
 |nil=>rfl
 |cons h t ih=>rw[List.any_cons,List.any_cons,ih,h.1]
theorem KV.repl {kvs:List (κ×V)}{vs:List (κ×Value)}(r:KV kvs vs)(k:κ){y:V}{u:Value}(ry:RelV y u):
 KV (kvs.map λkv=>if kv.1=k then(kv.1,y) else kv) (vs.map λkv=>if kv.1=k then(kv.1,u) else kv):=by
 unfold KV at r⊢
 induction r with
 |nil=>exact .nil
 | @cons p q ps qs h t ih=>
   rw[List.map_cons,List.map_cons];refine .cons ?_ ih
   obtain⟨h1,h2⟩:=h
   by_cases e:p.1=k
   ·rw[if_pos e,if_pos (h1.symm.trans e)];exact⟨h1,ry⟩
   ·rw[if_neg e,if_neg (λz=>e (h1.trans z))];exact⟨h1,h2⟩
theorem KV.put {kvs:List (κ×V)}{vs:List (κ×Value)}(r:KV kvs vs)(k:κ){y:V}{u:Value}(ry:RelV y u):KV (iH kvs k y) (stored vs k u):=by
 unfold iH stored;rw[r.any k]
 by_cases e:(vs.any λkv=>decide (kv.1=k))=true
 ·rw[if_pos e,if_pos e];exact r.repl k ry
 ·rw[if_neg e,if_neg e];exact Paired.snoc r ⟨rfl,ry⟩
theorem KV.length {kvs:List (κ×V)}{vs:List (κ×Value)}(r:KV kvs vs):kvs.length=vs.length:=Paired.length r
end
theorem u4 {P:Program}{w:World}{k:bq}{u:Value}(r:RelV (kV k) u):(cC P w).is k u=true:=by
 cases k with
 |inl i=>obtain⟨t,e⟩:=(show∃t,u=Value.int i t from r);subst e;exact ng P w i t
 |inr x=>obtain⟨t,e⟩:=(show∃t,u=Value.str x t from r);subst e;exact n5 P w x t
theorem lw {P:Program}{w:World}: ∀ {ks:List bq} {us:List Value},Vals (ks.map kV) us->ItemsAre (cC P w) ks us
 | [],_,r=>by rw[List.map_nil] at r;cases r;exact .nil
 |k::ks,_,r=>by
  rw[List.map_cons] at r;cases r with
  |cons h t=>exact .cons (u4 h) (lw t)
abbrev KTd(H:Hp):List (List bq×V)->List (List bq×Addr×Value)->Prop:=Paired λp q=>p.1=q.1/\H q.2.1=some (.tup (p.1.map kV))/\RelV p.2 q.2.2
theorem KTd.val {H:Hp}{kvs:List (List bq×V)}{xs:List (List bq×Addr×Value)}(r:KTd H kvs xs)(k:List bq):RelO (iA kvs k) ((atKey xs k).map (·.2)):=by
 induction r with
 |nil=>exact True.intro
 | @cons p q ps qs h t ih=>
   obtain⟨h1,_,h2⟩:=h
   by_cases e:p.1=k
   ·have e':q.1=k:=h1.symm.trans e
    have b:atKey (q::qs) k=some q.2:=by simp[atKey,List.find?_cons,e']
    rw[iC e,b];exact h2
   ·have e': ¬q.1=k:=λz=>e (h1.trans z)
    have b:atKey (q::qs) k=atKey qs k:=by simp[atKey,List.find?_cons,e']
    rw[iN e,b];exact ih
theorem KTd.repl {H:Hp}{kvs:List (List bq×V)}{xs:List (List bq×Addr×Value)}(r:KTd H kvs xs)(k:List bq){y:V}{u:Value}(ry:RelV y u):
 KTd H (kvs.map λkv=>if kv.1=k then(kv.1,y) else kv) (xs.map (putAt k u)):=by
 induction r with
 |nil=>exact .nil
 | @cons p q ps qs h t ih=>
   rw[List.map_cons,List.map_cons];refine .cons ?_ ih
   obtain⟨h1,h2,h3⟩:=h
   unfold putAt
   by_cases e:p.1=k
   ·rw[if_pos e,if_pos (h1.symm.trans e)];exact⟨h1,h2,ry⟩
   ·rw[if_neg e,if_neg (λz=>e (h1.trans z))];exact⟨h1,h2,h3⟩
theorem KTd.put {H:Hp}{kvs:List (List bq×V)}{xs:List (List bq×Addr×Value)}(r:KTd H kvs xs)(k:List bq){b:Addr}{y:V}{u:Value}(hb:H b=some (.tup (k.map kV)))(ry:RelV y u):
 KTd H (iH kvs k y) (storedH xs k b u):=by
 have e:(kvs.any λkv=>decide (kv.1=k))=(atKey xs k).isSome:=by
  rw[nR,(r.val k).isSome_eq,Option.isSome_map]
 unfold iH storedH;rw[e]
 by_cases q:(atKey xs k).isSome=true
 ·rw[if_pos q,if_pos q];exact r.repl k ry
 ·rw[if_neg q,if_neg q];exact Paired.snoc r ⟨rfl,hb,ry⟩
theorem KTd.keeps {H H':Hp}{kvs:List (List bq×V)}{xs:List (List bq×Addr×Value)}(r:KTd H kvs xs)(ht: ∀b ys,H b=some (.tup ys)->H' b=some (.tup ys)):KTd H' kvs xs:=
 Paired.mapP r λ_ _ z=>⟨z.1,ht _ _ z.2.1,z.2.2⟩
section
variable {P:Program}{w:World}{H:Hp}{h:Heap}{a:Addr}
theorem xt {u:HO}(ok:HOk P w H h)(e:Rd H a u):ObjOk P w H h a u:=e.ok ok
theorem u7 {kvs:List (bq×V)}(ok:HOk P w H h)(e:Rd H a (.dK kvs)):kvs.length<=sizeLine/\(a==sysModules)=false/\ ∃vs,KV kvs vs/\h.DictOf (cC P w) a vs:=
 show ObjOk P w H h a (.dK kvs) from xt ok e
theorem Ad {kvs:List (bq×V)}(ok:HOk P w H h)(e:H a=some (.dK kvs)):kvs.length<=sizeLine/\(a==sysModules)=false/\ ∃vs,KV kvs vs/\h.DictOf (cC P w) a vs:=u7 ok (.inl e)
theorem po {ks:List bq}(ok:HOk P w H h)(e:H a=some (.tup (ks.map kV))):(tupleKind (cC P w)).is h ks a:=by
 obtain⟨_,its,r,⟨o,h1,h2,n,h3⟩,_⟩:=(show ObjOk P w H h a (.tup (ks.map kV)) from ok a _ e)
 exact⟨o,its.toArray,n,h1,h2,h3,by simpa using lw r⟩
theorem uF {kvs:List (List bq×V)}(ok:HOk P w H h)(e:Rd H a (.dT kvs)):kvs.length<=sizeLine/\(a==sysModules)=false/\
 ∃xs,KTd H kvs xs/\h.DictOfH (tupleKind (cC P w)) a xs:=by
 obtain⟨z,y,xs,r,o,es,ep,h1,h2,h3,h4,h5⟩:=(show ObjOk P w H h a (.dT kvs) from xt ok e)
 refine⟨z,y,xs,r,o,es,ep,h1,h2,h3,h4,λx hx=>?_,h5⟩
 have all: ∀ {l:List (List bq×V)} {m:List (List bq×Addr×Value)},KTd H l m-> ∀x∈m,(tupleKind (cC P w)).is h x.1 x.2.1:=by
  intro l m q
  induction q with
  |nil=>intro x hx;exact nomatch hx
  | @cons p q ps qs hq t ih=>
    intro x hx;rcases List.mem_cons.mp hx with e|hx
    ·subst e
     exact po ok (by rw[<-hq.1];exact hq.2.1)
    ·exact ih x hx
 exact all r x hx
theorem z7 {kvs:List (List bq×V)}(ok:HOk P w H h)(e:H a=some (.dT kvs)):kvs.length<=sizeLine/\(a==sysModules)=false/\
 ∃xs,KTd H kvs xs/\h.DictOfH (tupleKind (cC P w)) a xs:=uF ok (.inl e)
end
def yD(H:Hp)(a:Addr)(y:V)(r:Option V):Prop:=
 (∃kvs k,Rd H a (.dK kvs)/\y=kV k/\r=iA kvs k)\/ ∃kvs k b,Rd H a (.dT kvs)/\y=.ref b/\H b=some (.tup (k.map kV))/\r=iA kvs k
def DPut(H:Hp)(a:Addr)(y v:V)(H':Hp):Prop:=
 (∃kvs k,H a=some (.dK kvs)/\y=kV k/\kvs.length<sizeLine/\H'=bf H a (.dK (iH kvs k v)))\/
 ∃kvs k b,H a=some (.dT kvs)/\y=.ref b/\H b=some (.tup (k.map kV))/\kvs.length<sizeLine/\H'=bf H a (.dT (iH kvs k v))
theorem DPut.k {H:Hp}{a:Addr}{kvs:List (bq×V)}{k:bq}{v:V}(e:H a=some (.dK kvs))(hl:kvs.length<sizeLine):DPut H a (kV k) v (bf H a (.dK (iH kvs k v))):=.inl ⟨kvs,k,e,rfl,hl,rfl⟩
section
variable {X:Cx}{ae:List (Addr×Obj)}{σ:St}{H:Hp}{s:Shared}{a:Addr}{y v:V}{u r:Value}{o:Option V}{A:Around}{E:Value->Shared->Prop}
theorem Inv.big(I:Inv X ae σ H s):sysModules<s.heap.objs.size:=by
 have h:mainGlobals<s.heap.objs.size:=(I.mod.glob.keeps I.bk).lt
 exact Nat.lt_trans (by decide) h
theorem sG {Q:Value->Shared->Prop}(hu:A.units+1<cLine)(I:Inv X ae σ H s)(g:yD H a y (some v))(ry:RelV y u)(h: ∀w' s',Inv X ae σ H s'->RelV v w'->Q w' s'):
 wpAny (model X.prog X.w) A (getItem (.ref a) u) Q E s:=by
 rcases g with⟨kvs,k,e,ey,l⟩|⟨kvs,k,b,e,ey,eb,l⟩
 ·subst ey
  obtain⟨z,hd,vs,rel,dd⟩:=u7 I.hok e
  obtain⟨w',hw,rw'⟩:=RelO.some_of (v:=v) (o:=valueAt vs k) (by rw[l];exact rel.val k)
  exact wpAny_getItem_of (u4 ry) dd.mapOf hw (h w' _ (I.tok _) rw')
 ·subst ey
  cases (show u=Value.ref b from ry)
  obtain⟨z,hd,xs,rel,dd⟩:=uF I.hok e
  obtain⟨w',hw,rw'⟩:=RelO.some_of (v:=v) (o:=(atKey xs k).map (·.2)) (by rw[l];exact rel.val k)
  obtain⟨p,hp,hp2⟩:=Option.map_eq_some_iff.mp hw
  refine wpAny_getItem_heap (tupleKind_room_in1 hu) (po I.hok eb) dd hp ?_
  rw[hp2];exact h w' _ (I.tok _) rw'
theorem qm {h':Heap}{t':Nat}{ob:HO}(I:Inv X ae σ H s)(mu:zl (H a))(hs:Heap.SameBut a s.heap h')(he: ∃q,h'.get? a=some q)(new:ObjOk X.prog X.w (bf H a ob) h' a ob):
 Inv X ae σ (bf H a ob) {s with heap:=h',toks:=t'}:=
 I.write (x:=a) (e:=a) mu (.inl rfl) (λb q hb z=>(hs.2 b hb).trans z) he new
theorem yh {P:Program}{w:World}{H':Hp}{h':Heap}{kvs:List (bq×V)}{vs:List (bq×Value)}(z:kvs.length<=sizeLine)(hd:(a==sysModules)=false)(rel:KV kvs vs)(dd:h'.DictOf (cC P w) a vs):
 ObjOk P w H' h' a (.dK kvs):=⟨z,hd,vs,rel,dd⟩
theorem sh {H':Hp}{Q:Unit->Shared->Prop}(hu:A.units+1<cLine)(I:Inv X ae σ H s)(g:DPut H a y v H')(ry:RelV y u)(rv:RelV v r)(h: ∀s',Inv X ae σ H' s'->Q () s'):
 wpAny (model X.prog X.w) A (setItem (.ref a) u r) Q E s:=by
 rcases g with⟨kvs,k,e,ey,l,eH⟩|⟨kvs,k,b,e,ey,eb,l,eH⟩
 ·subst ey eH
  obtain⟨z,hd,vs,rel,dd⟩:=Ad I.hok e
  have hz:vs.length<=sizeLine:=by rw[<-rel.length];exact z
  have hl:(iH kvs k v).length<=sizeLine:=by have:=jr kvs k v;omega
  refine wpAny_setItem_pairs (hsz:=hz) (u4 ry) dd λh' dd' hs=>h _ ?_
  have he: ∃q,h'.get? a=some q:=let⟨q,_,_,hq,_⟩:=dd';⟨q,hq⟩
  exact qm I (by rw[e];exact True.intro) hs he (yh hl hd (rel.put k rv) dd')
 ·subst ey eH
  cases (show u=Value.ref b from ry)
  obtain⟨z,hd,xs,rel,dd⟩:=z7 I.hok e
  have hz:xs.length<=sizeLine:=by rw[<-Paired.length rel];exact z
  have hl:(iH kvs k v).length<=sizeLine:=by have:=jr kvs k v;omega
  refine wpAny_setItem_heap (hsz:=hz) (tupleKind_room_in1 hu) (po I.hok eb) dd λh' dd' hs=>h _ ?_
  obtain⟨q,es,ep,hq,h2,h3,h4,_,h5⟩:=dd'
  refine qm I (by rw[e];exact True.intro) hs ⟨q,hq⟩ ⟨hl,hd,_,(rel.put k eb rv).keeps λc ys ec=>?_,q,es,ep,hq,h2,h3,h4,h5⟩
  rw[ar (zX ec e (λz=>nomatch z))]
  exact ec
end
def xY(i:Expr):Prop:= ∀ov iv,subscripted i false ov iv=operate [ov,iv] (getItem ov iv)
theorem wN {prog:Program}{w:World}{A:Around}{E:Value->Shared->Prop}{s:Shared}{env:Env}{value slice:Expr}{pos:Pos}{T id:String}{Q:Value->Shared->Prop}
 (hl:typeLookup (.type T) "__getitem__"=pure (some (.builtin id))) (hs:xY slice)
 (h:wpAny (model prog w) A (eval value env) (λo s₁=>wpAny (model prog w) A (eval slice env) (λi s₂=>s₂.TypeIs o T/\wpAny (model prog w) A (getItem o i) Q E s₂) E s₁) E s):
 wpAny (model prog w) A (eval (.Subscript value slice pos) env) Q E s:=by
 refine Subscript_ (wpAny_mono h (λo s₁ h₁=>wpAny_mono h₁ (λi s₂ h₂=>?_) λ_ _ x=>x) λ_ _ x=>x)
 obtain⟨hT,h₂⟩:=h₂
 unfold subscriptTail;refine wpAny_bind ?_
 rw[getitemInPython_of_ne hT.not_modules];refine wpAny_bind (wpAny_specialOf hT hl ?_)
 have fin:wpAny (model prog w) A (subscripted slice false o i) (λr s₃=>wpAny (model prog w) A (letTemporaryGo value o r>>=λ_=>pure r) Q E s₃) E s₂:=by
  rw[hs o i];exact wpAny_operating (wpAny_mono h₂ (λr s₃ h₃=>wpAny_bind (wpAny_letTemporaryGo (wpAny_pure h₃))) λ_ _ x=>x)
 first
  |exact wpAny_pure (wpAny_bind fin)
  |exact wpAny_bind (wpAny_pure (wpAny_bind fin))
  |exact wpAny_bind fin
theorem oD {X:Cx}{ae:List (Addr×Obj)}{σ:St}{H:Hp}{s:Shared}{a:Addr}{y:V}{o:Option V}(I:Inv X ae σ H s)(g:yD H a y o):s.TypeIs (.ref a) "dict":=by
 rcases g with⟨kvs,k,e,_,_⟩|⟨kvs,k,b,e,_,_,_⟩
 ·obtain⟨_,_,vs,_,dd⟩:=u7 I.hok e
  exact dd.typeIs
 ·obtain⟨_,_,xs,_,dd⟩:=uF I.hok e
  exact dd.typeIs
def Aq(td ty:TE):TE:=λσ H Q=>td σ H λx H1=>ty σ H1 λy H2=> ∃a v,x=.ref a/\yD H2 a y (some v)/\Q v H2
section
variable {X:Cx}{o i e value:Expr}{pos pos' tpos:Pos}{td ty tv:TE}
theorem vj(hu:X.A.units+1<cLine)(ho:PE X o td)(hi:PE X i ty)(hs:xY i):PE X (.Subscript o i pos) (Aq td ty):=by
 intro ae s σ H Q I h;refine wN PySem.F.slot_dict_getitem.lookup hs (cv (ho ae s σ H _ I h) λu s1 ⟨x,H1,I1,rx,q1⟩=>cv (hi ae s1 σ H1 _ I1 q1) λiv s2 hq_=>?_)
 obtain⟨y,H2,I2,ry,a,v,ex,g,q2⟩:=hq_
 subst ex;obtain rfl:u=Value.ref a:=rx
 exact⟨oD I2 g,sG hu I2 g ry λw' s3 I3 rw'=>⟨v,H2,I3,rw',q2⟩⟩
end
theorem uL {P:Program}{w:World}{H:Hp}(h:Heap)(hb:sysModules<h.objs.size):ObjOk P w H (h.push {cls:=.type "dict",data:=.dict #[]}) h.objs.size (.dK []):=
 ⟨Nat.zero_le _,beq_eq_false_iff_ne.mpr (Ne.symm (Nat.ne_of_lt hb)),[],.nil,Heap.DictOf.new h⟩
def ym:TE:=λ_ H Q=> ∀p,H p=none->Q (.ref p) (bf H p (.dK []))
section
variable {X:Cx}{pos:Pos}
theorem oa:PE X (.Dict [] [] pos) ym:=λae s σ H Q I h=>
 wpAny_Dict_empty ⟨.ref s.heap.objs.size,_,I.laid (a:=s.heap.objs.size) (o:=.dK []) (t':=s.toks) (λ_ _ q=>Heap.get?_push_of_some _ q) (Nat.le_refl _) (uL s.heap I.big),rfl,h _ (I.hok.fresh (Nat.le_refl _))⟩
end
end L2
namespace PySem
open Sem (wp)
end PySem
namespace L2
open PySem PySem.Spec PyProof.Rows
end L2
namespace PySem
end PySem
namespace L2
open PySem PySem.Spec PyProof.Rows
def qO:D->Option bq
 | .int i=>some (.inl i)
 |_=>none
theorem kF {d:D}{k:bq}(h:qO d=some k): ∃i,d=.int i/\k=.inl i:=by
 unfold qO at h;split at h
 ·cases h;exact⟨_,rfl,rfl⟩
 ·cases h
def fc(kvs:List (bq×D))(k:bq):Option D:=(kvs.find? λkv=>decide (kv.1=k)).map (·.2)
def iT(kvs:List (bq×D))(k:bq)(d:D):List (bq×D):=
 if(kvs.any λkv=>decide (kv.1=k))=true then kvs.map (λkv=>if kv.1=k then(kv.1,d) else kv) else kvs++[(k,d)]
def KRl(K:W.Frag)(F:Hp)(us:List (bq×V))(kvs:List (bq×D)):Prop:=us.map (·.1)=kvs.map (·.1)/\Reps K F (us.map (·.2)) (kvs.map (·.2))
theorem KRl.inv {K:W.Frag}{F:Hp}: ∀ {us:List (bq×V)} {kvs:List (bq×D)},KRl K F us kvs->(us=[]/\kvs=[])\/ ∃k v us' d kvs',us=(k,v)::us'/\kvs=(k,d)::kvs'/\Rep K F v d/\KRl K F us' kvs'
 | [],[],_=>.inl ⟨rfl,rfl⟩
 | [],_::_,h=>by cases h.1
 |_::_,[],h=>by cases h.1
 |(k,v)::us,(k',d)::kvs,h=>by
  obtain⟨h1,h2⟩:=h
  rw[List.map_cons,List.map_cons] at h1 h2;injection h1 with e1 e2
  cases h2 with
  |cons r rs=>
   have e1:k=k':=e1
   subst e1;exact .inr ⟨k,v,us,d,kvs,rfl,rfl,r,e2,rs⟩
theorem KRl.val {K:W.Frag}{F:Hp}(k:bq): ∀ {us:List (bq×V)} {kvs:List (bq×D)},KRl K F us kvs->(iA us k=none/\fc kvs k=none)\/ ∃v d,iA us k=some v/\fc kvs k=some d/\Rep K F v d:=by
 intro us
 induction us with
 |nil=>
  intro kvs h;rcases h.inv with⟨_,rfl⟩|⟨_,_,_,_,_,e,_⟩
  ·exact .inl ⟨rfl,rfl⟩
  ·cases e
 |cons p us ih=>
  intro kvs h;rcases h.inv with⟨e,_⟩|⟨k',v,us',d,kvs',e,rfl,r,rs⟩
  ·cases e
  ·cases e
   by_cases ek:k'=k
   ·exact .inr ⟨v,d,iC ek,by simp[fc,List.find?_cons,ek],r⟩
   ·have e1:iA ((k',v)::us) k=iA us k:=iN ek
    have e2:fc ((k',d)::kvs') k=fc kvs' k:=by simp[fc,List.find?_cons,ek]
    rw[e1,e2];exact ih rs
theorem KRl.any {K:W.Frag}{F:Hp}(k:bq){us:List (bq×V)}{kvs:List (bq×D)}(h:KRl K F us kvs):(us.any λkv=>decide (kv.1=k))=kvs.any λkv=>decide (kv.1=k):=by
 have e1:(us.any λkv=>decide (kv.1=k))=(us.map (·.1)).any λx=>decide (x=k):=by rw[List.any_map];rfl
 have e2:(kvs.any λkv=>decide (kv.1=k))=(kvs.map (·.1)).any λx=>decide (x=k):=by rw[List.any_map];rfl
 rw[e1,e2,h.1]
theorem KRl.cons {K:W.Frag}{F:Hp}{k:bq}{v:V}{d:D}{us:List (bq×V)}{kvs:List (bq×D)}(r:Rep K F v d)(h:KRl K F us kvs):KRl K F ((k,v)::us) ((k,d)::kvs):=⟨by rw[List.map_cons,List.map_cons,h.1],.cons r h.2⟩
theorem KRl.repl {K:W.Frag}{F:Hp}(k:bq){v:V}{d:D}(r:Rep K F v d): ∀ {us:List (bq×V)} {kvs:List (bq×D)},KRl K F us kvs->KRl K F (us.map (λkv=>if kv.1=k then(kv.1,v) else kv)) (kvs.map (λkv=>if kv.1=k then(kv.1,d) else kv)):=by
 intro us
 induction us with
 |nil=>
  intro kvs h;rcases h.inv with⟨_,rfl⟩|⟨_,_,_,_,_,e,_⟩
  ·exact h
  ·cases e
 |cons p us ih=>
  intro kvs h;rcases h.inv with⟨e,_⟩|⟨k',v',us',d',kvs',e,rfl,r',rs⟩
  ·cases e
  ·cases e
   rw[List.map_cons,List.map_cons]
   by_cases ek:k'=k
   ·rw[if_pos ek,if_pos ek];exact KRl.cons r (ih rs)
   ·rw[if_neg ek,if_neg ek];exact KRl.cons r' (ih rs)
theorem KRl.put {K:W.Frag}{F:Hp}(k:bq){v:V}{d:D}(r:Rep K F v d){us:List (bq×V)}{kvs:List (bq×D)}(h:KRl K F us kvs):KRl K F (iH us k v) (iT kvs k d):=by
 unfold iH iT;rw[h.any k];split
 ·exact h.repl k r
 ·refine⟨by rw[List.map_append,List.map_append,h.1];rfl,?_⟩
  rw[List.map_append,List.map_append];exact h.2.append (.cons r .nil)
theorem KRl.len {K:W.Frag}{F:Hp}{us:List (bq×V)}{kvs:List (bq×D)}(h:KRl K F us kvs):us.length=kvs.length:=by
 have:=congrArg List.length h.1
 simpa using this
section
variable {K:W.Frag}{c:Ct}{hid:bL}{ρ:aB}{σ:St}{H:Hp}{a:Addr}
theorem SR.setD {b:Ob}(h:SR K c hid ρ σ H)(ho:ObOk K c hid H a b)(no: ∀i:Nat,Ow ρ[i]? ->σ[i]? ≠some (some (.ref a)))(i:Nat):
 SR K c hid (ρ.set i (.ob b)) (σ.set i (some (.ref a))) H:=by
 refine⟨h.tr,h.ht,h.h0,h.kp,h.t0,h.c0,h.m0,by simp[h.len],λj s q=>?_,λj l z n o1 o2 q1 q2=>?_⟩
 ·by_cases e:j=i
  ·subst e
   have lt:j<ρ.length:=by
    have:=(List.getElem?_eq_some_iff.mp q).1
    simpa using this
   rw[List.getElem?_set_self lt] at q;cases q
   exact⟨a,List.getElem?_set_self (by rw[h.len];exact lt),ho⟩
  ·rw[List.getElem?_set_ne (Ne.symm e)] at q
   have w:=h.sl j s q
   have es:(σ.set i (some (V.ref a)))[j]? =σ[j]? :=List.getElem?_set_ne (Ne.symm e)
   cases s with
   |no=>trivial
   |v d=>obtain⟨x,h1,h2⟩:=w;exact⟨x,es.trans h1,h2⟩
   |own ds=>obtain⟨a,xs,h1,h2⟩:=w;exact⟨a,xs,es.trans h1,h2⟩
   |arg ds=>obtain⟨a,xs,h1,h2⟩:=w;exact⟨a,xs,es.trans h1,h2⟩
   |ob b=>obtain⟨a,h1,h2⟩:=w;exact⟨a,es.trans h1,h2⟩
 ·by_cases e1:j=i
  ·subst e1
   have e2:l≠j:=λe=>n e.symm
   rw[List.getElem?_set_ne (Ne.symm e2)] at o2 q2
   by_cases lt:j<σ.length
   ·rw[List.getElem?_set_self lt] at q1;cases q1;exact no l o2 q2
   ·rw[List.getElem?_eq_none (by simpa using lt)] at q1;cases q1
  ·rw[List.getElem?_set_ne (Ne.symm e1)] at o1 q1
   by_cases e2:l=i
   ·subst e2
    by_cases lt:l<σ.length
    ·rw[List.getElem?_set_self lt] at q2;cases q2;exact no j o1 q1
    ·rw[List.getElem?_eq_none (by simpa using lt)] at q2;cases q2
   ·rw[List.getElem?_set_ne (Ne.symm e2)] at o2 q2
    exact h.ap j l z n o1 o2 q1 q2
theorem ObOk.kind {b:Ob}(h:ObOk K c hid H a b)(o:lQ b): ∃u,H a=some u/\ ∀p v,u≠ .nst p v:=by
 cases b with
 |nst us=>obtain⟨_,_,e,_⟩:=h;exact⟨_,e,nofun⟩
 |dR kvs=>exact o.elim
 |dRs l=>exact o.elim
 |exc x n=>exact o.elim
 |dK kvs=>obtain⟨_,_,e,_⟩:=h;exact⟨_,e,nofun⟩
 |dT kvs=>obtain⟨_,_,e,_⟩:=h;exact⟨_,e,nofun⟩
 |set ds=>obtain⟨_,_,e,_⟩:=h;exact⟨_,e,nofun⟩
 |old d=>exact o.elim
 |jnk=>obtain⟨_,_,e⟩:=h;exact⟨_,e,nofun⟩
 |tset ks=>obtain⟨_,_,e,_⟩:=h;exact⟨_,e,nofun⟩
 |dF kvs=>obtain⟨_,_,_,e,_⟩:=h;exact⟨_,e,nofun⟩
theorem SR.putO {x:Addr}{i:Nat}{b b':Ob}{o':HO}(h:SR K c hid ρ σ H)(hg:ρ[i]? =some (.ob b))(ow:lQ b)(ow':lQ b')(ha:σ[i]? =some (some (.ref a)))(hx:At H a x)(h2:hid x=true)(h3:c.H₀ x=none)
 (nt: ∀xs,o'≠ .tup xs) (new:ObOk K c hid (bf H x o') a b'):SR K c hid (ρ.set i (.ob b')) σ (bf H x o'):=by
 have lt:i<ρ.length:=(List.getElem?_eq_some_iff.mp hg).1
 have vv:vw (bf H x o') hid=vw H hid:=cV h2
 have tr': ∀b o,H b=some o-> ∃o2,(bf H x o') b=some o2:=λb o q=>by
  by_cases e:b=x
  ·subst e;exact⟨_,ax⟩
  ·exact⟨o,by rw[ar e];exact q⟩
 have owi:Ow ρ[i]? :=by rw[hg];exact ow
 obtain⟨a2,ha2,kb⟩:=h.sl i _ hg
 rw[ha] at ha2;cases ha2;obtain⟨w,kw,kn⟩:=kb.kind ow
 have ne: ∀(j:Nat) (s:Sl) (a' y:Addr) (w':HO),j≠i->ρ[j]? =some s->Ow (some s)->σ[j]? =some (some (.ref a'))->H a'=some w'->(∀p v,w'≠ .nst p v)->At H a' y->y≠x:=λj s a' y w' n e o q hw wn hy=>by
  have na:a'≠a:=λz=>by subst z;exact h.ap j i a' n (by rw[e];exact o) owi q ha
  rcases hx with rfl|⟨u,hu⟩
  ·exact hy.ne na kw kn
  ·intro z
   subst z;rcases hy with rfl|⟨u',hu'⟩
   ·rw[hw] at hu;exact wn _ _ (Option.some.inj hu)
   ·rw[hu] at hu';cases hu';exact na rfl
 have ows: ∀j:Nat,Ow (ρ.set i (.ob b'))[j]? ->Ow ρ[j]? :=λj o=>by
  by_cases e:j=i
  ·subst e;exact owi
  ·rw[List.getElem?_set_ne (Ne.symm e)] at o;exact o
 refine⟨λb hb=>let⟨o,q⟩:=h.tr b hb;tr' b o q,λb xs hb q=>by
  by_cases e:b=x
  ·subst e;rw[ax] at q;exact nt xs (Option.some.inj q)
  ·rw[ar e] at q;exact h.ht b xs hb q,h.h0,λb o q m=>?_,λb o q=>let⟨o2,q2⟩:=h.t0 b o q;tr' b o2 q2,h.c0,h.m0,by simp[h.len],λj s e=>?_,λj l z n o1 o2=>h.ap j l z n (ows j o1) (ows l o2)⟩
 ·rw[ar (bv q h3)];exact h.kp b o q m
 ·by_cases ej:j=i
  ·subst ej
   rw[List.getElem?_set_self lt] at e;cases e
   exact⟨a,ha,new⟩
  ·rw[List.getElem?_set_ne (Ne.symm ej)] at e
   have z:=h.sl j s e
   cases s with
   |no=>trivial
   |v d=>obtain⟨x,h1,h2⟩:=z;exact⟨x,h1,by rw[vv];exact h2⟩
   |own ds=>obtain⟨a',xs,h1,h2,h3,h4,h5⟩:=z;exact⟨a',xs,h1,by rw[ar (ne j _ a' a' _ ej e trivial h1 h2 nofun (.inl rfl))];exact h2,h3,h4,by rw[vv];exact h5⟩
   |arg ds=>obtain⟨a',xs,h1,h2,h3,h4,h5⟩:=z;exact⟨a',xs,h1,by rw[ar (ne j _ a' a' _ ej e trivial h1 h2 nofun (.inl rfl))];exact h2,h3,h4,by rw[vv];exact h5⟩
   |ob b=>
    obtain⟨a',h1,h2⟩:=z
    exact⟨a',h1,h2.mono (λow y hy o q=>by
     obtain⟨w',hw,wn⟩:=h2.kind ow
     rw[ar (ne j _ a' y w' ej e ow h1 hw wn hy)];exact q) (by rw[vv];exact Same.refl _) λ_ _ _ q=>q⟩
end
open PySem PySem.W PySem.Spec PyProof.Rows
set_option maxHeartbeats 4000000
section
variable {X:Cx}{ae:List (Addr×Obj)}{σ:St}{H:Hp}{s:Shared}{d p:Addr}{u u':HO}
theorem Inv.re(I:Inv X ae σ H s)(e:H d=some u)(mu:zl (some u))(t: ∀H',ObjOk X.prog X.w H' s.heap d u->ObjOk X.prog X.w H' s.heap d u'):Inv X ae σ (bf H d u') s:=by
 have nt: ∀b xs,H b=some (.tup xs)->b≠d:=λb xs q z=>by subst z;rw[e] at q;cases q;exact mu
 have no: ∀b y,H b=some (.own y)->b≠d:=λb xs q z=>by subst z;rw[e] at q;cases q;exact mu
 have q:=I.hok d u e
 obtain⟨o,ho⟩:=q.there
 exact I.write (x:=d) (e:=d) (t':=s.toks) (h':=s.heap) (by rw[e];exact mu) (.inl rfl) (λb v _ hv=>hv) ⟨o,ho⟩ (t _ (q.stay (λb v _ h=>h) (λb h=>by rw[ar (no b _ h)];exact h) λb xs h=>by rw[ar (nt b xs h)];exact h))
theorem Inv.nest(I:Inv X ae σ H s)(e:H d=some u)(mu:zl (some u)):Inv X ae σ (bf H d (.nst p u)) s:=I.re e mu λ_ h=>h
theorem Inv.unnest(I:Inv X ae σ H s)(e:H d=some (.nst p u)):Inv X ae σ (bf H d u) s:=I.re e trivial λ_ h=>h
theorem Inv.freeze(I:Inv X ae σ H s)(e:H d=some (.nst p u)): ∃o,Inv X ae σ (bf H d (.frz o u)) s:=by
 obtain⟨o,ho⟩:=(I.hok d _ e).there
 exact⟨o,I.re e trivial λ_ h=>⟨ho,h⟩⟩
end
section
variable {X:Cx}{e o i:Expr}{st:Stmt}{t:TS}{pos pos':Pos}{value:Expr}{td ty tv:TE}
theorem PS.post(h:PS X st t):PS X st (λD σ H=>t {D with nx:=λσ' H'=> ∀ae s,Inv X ae σ' H' s-> ∃H'',Inv X ae σ' H'' s/\D.nx σ' H''} σ H):=by
 intro ae s σ H D I q;refine cv (h ae s σ H _ I q) λf s' z=>?_
 cases f with
 |next=>
  obtain⟨σ',H',I',w⟩:=z
  obtain⟨H'',I'',w'⟩:=w ae s' I'
  exact⟨σ',H'',I'',w'⟩
 |brk=>exact z
 |cont=>exact z
 |ret u=>exact z
def AH:tP:=λo i v H Q=> ∃d p,o=.ref d/\((∃us k,i=kV k/\H d=some (.nst p (.dK us))/\us.length<sizeLine/\Q (bf H d (.nst p (.dK (iH us k v)))))\/
 ∃xs k j,i=.int k/\H d=some (.nst p (.lst xs))/\kP xs.length k=some j/\Q (bf H d (.nst p (.lst (xs.set j v)))))
theorem tJ {H:Hp}{d:Addr}{u u' u'':HO}:bf (bf (bf H d u) d u') d u''=bf H d u'':=by rw[qD,qD]
theorem wr(hu:X.A.units+1<cLine):vX X AH:=by
 intro ae s σ H o i v ov iv u Q I ro ri rv h;obtain⟨d,p,rfl,⟨us,k,rfl,hd,hl,q⟩|⟨xs,k,j,rfl,hd,hj,q⟩⟩:=h
 ·cases ro
  refine sh hu (I.unnest hd) (DPut.k (k:=k) ax hl) ri rv λs' I'=>⟨_,I'.nest (p:=p) ax trivial,?_⟩
  rw[tJ];exact q
 ·refine cv (oo (X:=X) ae s σ (bf H d (.lst xs)) (.ref d) (.int k) v ov iv u (λH'=>H'=bf (bf H d (.lst xs)) d (.lst (xs.set j v))) (I.unnest hd) ro ri rv ⟨d,xs,k,j,rfl,rfl,ax,hj,rfl⟩) λ_ s' hq_=>?_
  obtain⟨H',I',e'⟩:=hq_
  subst e';refine⟨_,I'.nest (p:=p) ax trivial,?_⟩
  rw[tJ];exact q
theorem ww {t:tP}(hp:vX X t)(ho:PE X o td)(hi:PE X i ty)(hv:PE X value tv)(hs:swapsWith value (some (.Subscript o i pos')) pos.line X.env=pure false):
 PS X (.Assign [.Subscript o i pos'] value pos) (λD σ H=>tv σ H λv H1=>td σ H1 λx H2=>ty σ H2 λy H3=>t x y v H3 λH4=>D.nx σ H4):=by
 intro ae s σ H D I h;refine wpAny_Assign_Subscript (cv (hv ae s σ H _ I h) λr s1 ⟨v,H1,I1,rv,q1⟩=>cv (ho ae s1 σ H1 _ I1 q1) λu s2 ⟨x,H2,I2,rx,q2⟩=>cv (hi ae s2 σ H2 _ I2 q2) λiv s3 ⟨y,H3,I3,ry,q3⟩=>?_) hs
 exact cv (hp ae s3 σ H3 x y v u iv r _ I3 rx ry rv q3) λ_ s4 ⟨H4,I4,q4⟩=>⟨σ,H4,I4,q4⟩
end
def kj(i:Nat)(ρ:aB):Option (List NO):=match ρ[i]? with
 |some (.ob (.nst us))=>some us
 |_=>none
theorem dG {i:Nat}{ρ:aB}{us:List NO}(h:kj i ρ=some us):ρ[i]? =some (.ob (.nst us)):=by
 unfold kj at h;split at h
 ·cases h;assumption
 ·cases h
def uq(k d:D):NO->Option NO
 | .k kvs=>(qO k).bind λkk=>if kvs.length<=1000 then some (.k (iT kvs kk d)) else none
 | .l ds=>match k with
   | .int j=>(kP ds.length j).map λq=>.l (ds.set q d)
   |_=>none
def rZ(us:List NO)(i k d:D):Option (List NO):=match i with
 | .int j=>(kP us.length j).bind λq=>us[q]?.bind λu=>(uq k d u).map λu'=>us.set q u'
 |_=>none
def dA(i:Nat)(f1 f2 fv:FE):FS:=λρ=>match kj i ρ,fv ρ,f1 ρ,f2 ρ with
 |some us,some d,some j,some k=>(match rZ us j k d with
  |some us'=>.nx (ρ.set i (.ob (.nst us')))
  |none=>.no)
 |_,_,_,_=>.no
section
variable {K:W.Frag}{c:Ct}{hid:bL}{ρ:aB}{σ:St}{H:Hp}{a:Addr}
theorem Paired.get {α β:Type}{F:α->β->Prop}: ∀ {l₁:List α} {l₂:List β} {i:Nat} {y:β},Paired F l₁ l₂->l₂[i]? =some y-> ∃x,l₁[i]? =some x/\F x y
 |_,_,_,_,.nil,e=>by simp at e
 |_,_,0,_,.cons r _,e=>by simp at e;subst e;exact⟨_,rfl,r⟩
 |_,_,i+1,y,.cons _ t,e=>by
  obtain⟨u,h1,h2⟩:=Paired.get (i:=i) (y:=y) t (by simpa using e)
  exact⟨u,by simpa using h1,h2⟩
theorem Paired.len {α β:Type}{F:α->β->Prop}: ∀ {l₁:List α} {l₂:List β},Paired F l₁ l₂->l₁.length=l₂.length
 |_,_,.nil=>rfl
 |_,_,.cons _ t=>by simp[Paired.len t]
theorem Paired.setN {F G:Addr->NO->Prop}: ∀ {bs:List Addr} {us:List NO} {i:Nat} {d:Addr} {u':NO},bs.Nodup->Paired F bs us->bs[i]? =some d->G d u'->(∀b u,b≠d->F b u->G b u)->Paired G bs (us.set i u')
 |_,_,_,_,_,_,.nil,e,_,_=>by simp at e
 |_,_,0,d,u',n,.cons r t,e,g,k=>by
  simp at e;subst e;refine .cons g ?_
  have nb:=(List.nodup_cons.mp n).1
  clear r n g
  induction t with
  |nil=>exact .nil
  |cons r' t' ih=>
   rw[List.mem_cons,not_or] at nb;exact .cons (k _ _ (λe=>nb.1 e.symm) r') (ih nb.2)
 |b::bs,_,i+1,d,u',n,.cons r t,e,g,k=>by
  have e':bs[i]? =some d:=by simpa using e
  refine .cons (k _ _ (λz=>?_) r) (Paired.setN (List.nodup_cons.mp n).2 t e' g k)
  subst z;exact(List.nodup_cons.mp n).1 (List.mem_of_getElem? e')
theorem SR.nst(h:SR K c hid ρ σ H){i:Nat}{us:List NO}(e:kj i ρ=some us): ∃a bs,σ[i]? =some (some (.ref a))/\(hid a=true/\c.H₀ a=none)/\H a=some (.lst (bs.map V.ref))/\bs.Nodup/\Paired (NOk K c hid H a) bs us:=by
 obtain⟨a,h1,h2,bs,h3,h4,h5⟩:=h.sl i _ (dG e)
 exact⟨a,bs,h1,h2,h3,h4,h5⟩
theorem NOk.at {b:Addr}{u:NO}(h:NOk K c hid H a b u):(hid b=true/\c.H₀ b=none)/\ ∃o,H b=some (.nst a o):=by
 cases u with
 |l ds=>obtain⟨h1,_,h2,_⟩:=h;exact⟨h1,_,h2⟩
 |k kvs=>obtain⟨h1,_,h2,_⟩:=h;exact⟨h1,_,h2⟩
theorem SR.putN {i q:Nat}{us:List NO}{u':NO}{bs:List Addr}{d:Addr}{o':HO}(h:SR K c hid ρ σ H)(hg:kj i ρ=some us)(ha:σ[i]? =some (some (.ref a)))(hb:H a=some (.lst (bs.map V.ref)))(nd:bs.Nodup)(pr:Paired (NOk K c hid H a) bs us)(hd:bs[q]? =some d)
 (hx: ∃o,H d=some (.nst a o)) (h2:hid d=true) (h3:c.H₀ d=none) (nt: ∀xs,o'≠ .tup xs) (new:NOk K c hid (bf H d o') a d u'):SR K c hid (ρ.set i (.ob (.nst (us.set q u')))) σ (bf H d o'):=by
 obtain⟨a2,g1,g2,_⟩:=h.sl i _ (dG hg)
 rw[ha] at g1;cases g1;obtain⟨o,hx⟩:=hx
 have ne:a≠d:=λe=>by subst e;rw[hb] at hx;cases hx
 refine h.putO (dG hg) trivial trivial ha (.inr ⟨o,hx⟩) h2 h3 nt ⟨g2,bs,by rw[ar ne];exact hb,nd,Paired.setN nd pr hd new λb u n r=>?_⟩
 exact r.mono (λv q=>by rw[ar n];exact q) (by rw[cV h2];exact Same.refl _) λ_=>r.at.1.1
end
section
variable {X:Cx}{c:Ct}{k k1 k2:Kd}{e1 e2 ev:Expr}{f1 f2 fv:FE}{pos pos' py pos2:Pos}{x y:Str}
theorem wL {bs:List Addr}{j:Int}{q:Nat}{d:Addr}(e:kP bs.length j=some q)(e2:bs[q]? =some d):kL (bs.map V.ref) j=some (.ref d):=by
 unfold kL;rw[List.length_map,e];show(bs.map V.ref)[q]? =_;rw[List.getElem?_map,e2];rfl
theorem iF(i:Nat)(hu:X.A.units+1<cLine)(h1:DP X c k1 e1 f1)(h2:DP X c k2 e2 f2)(hv:DP X c .s ev fv)(hN:X.N[i]? =some y:=by rfl)(hv':m5 X.env.scope y:=by first|exact Or.inl rfl|exact Or.inr (Or.inl rfl)|exact Or.inr (Or.inr rfl))(hd:(y==("__debug__":Str))=false:=by decide)
 (hcd:(y==("__classdict__":Str))=false:=by decide) (hp:lY e1:=by exact λ_ _=>rfl) (hs:swapsWith ev (some (.Subscript (.Subscript (.Name y py) e1 pos2) e2 pos')) pos.line X.env=pure false:=by rfl):
 DS X c k (.Assign [.Subscript (.Subscript (.Name y py) e1 pos2) e2 pos'] ev pos) (dA i f1 f2 fv):=λρ=>PS.imp (ww (wr hu) (xI (aE (X:=X)) (pv i hN hv' hd hcd) (im λhid=>h1 hid ρ) hp) (im λhid=>h2 hid ρ) (im λhid=>hv hid ρ) hs) λD σ H hq_=>by
 obtain⟨hid,sr,q⟩:=hq_
 unfold dA at q;split at q
 ·rename_i us d j kk e0 g1 g2 g3
  split at q
  ·rename_i us' g4
   unfold rZ at g4;split at g4
   ·rename_i jj
    obtain⟨qq,g5,g4⟩:=Option.bind_eq_some_iff.mp g4
    obtain⟨u,g6,g4⟩:=Option.bind_eq_some_iff.mp g4
    obtain⟨u',g7,rfl⟩:=Option.map_eq_some_iff.mp g4
    obtain⟨a,bs,a1,a2,a3,a4,a5⟩:=sr.nst e0
    obtain⟨b,b1,b2⟩:=L2.Paired.get a5 g6
    refine⟨hid,sr,d,g1,λv H1 s1 r1=>⟨.ref a,a1,hid,sr.ext s1,_,g2,λz H2 s2 r2=>?_⟩⟩
    have sr2:=(sr.ext s1).ext s2
    have i1:=(RK.b k1 r2 λa n=>(sr.ext s1).fresh n).int
    cases i1
    refine .inl ⟨a,bs.map V.ref,jj,.ref b,rfl,rfl,SqL.of ((s1.trans s2) _ _ a3),wL (by rw[(L2.Paired.len a5)];exact g5) b1,hid,sr2,_,g3,λw H3 s3 r3=>?_⟩
    have s13:=(s1.trans s2).trans s3
    have sr3:=sr2.ext s3
    have r1':Rep X.K (vw H3 hid) v d:=Rep.mono (aS (s2.trans s3)) r1
    have rk:=RK.b k2 r3 λa n=>sr2.fresh n
    have pr3:Paired (NOk X.K c hid H3 a) bs us:=Paired.mapP a5 λx y z=>z.mono (λ_ w=>s13 _ _ w) (aS s13) λ_=>z.at.1.1
    have bt:=b2.at
    have fin: ∀o',(∀xs,o'≠ .tup xs)->NOk X.K c hid (bf H3 b o') a b u'->D.nx σ (bf H3 b o'):=λo' nt new=>
     q _ _ hid (sr3.putN e0 a1 (s13 _ _ a3) a4 pr3 b1 (let⟨o,ho⟩:=bt.2;⟨o,s13 _ _ ho⟩) bt.1.1 bt.1.2 nt new) (by rw[cV bt.1.1];exact aS s13)
    cases u with
    |k kvs=>
     obtain⟨key,g8,g7⟩:=Option.bind_eq_some_iff.mp g7
     split at g7
     ·rename_i hz
      cases g7
      obtain⟨j2,rfl,rfl⟩:=kF g8
      cases rk.int
      obtain⟨_,vs,w1,w2,w3⟩:=b2
      have kr:KRl X.K (vw H3 hid) vs kvs:=⟨w2,w3.mono (aS s13)⟩
      refine⟨b,a,rfl,.inl ⟨vs,Sum.inl j2,rfl,s13 _ _ w1,by rw[kr.len];exact Nat.lt_of_le_of_lt hz (by decide),fin _ nofun ⟨bt.1,_,ax,?_⟩⟩⟩
      rw[cV bt.1.1];exact KRl.put (Sum.inl j2) r1' kr
     ·cases g7
    |l ds=>
     cases kk with
     |int j2=>
      obtain⟨q2,g8,rfl⟩:=Option.map_eq_some_iff.mp g7
      cases rk.int
      obtain⟨_,xs,w1,w2⟩:=b2
      have w2':=w2.mono (aS s13)
      refine⟨b,a,rfl,.inr ⟨xs,j2,q2,rfl,s13 _ _ w1,by rw[w2'.length];exact g8,fin _ nofun ⟨bt.1,_,ax,?_⟩⟩⟩
      rw[cV bt.1.1];exact Reps.set r1' q2 w2'
     |_=>cases g7
   ·cases g4
  ·exact q.elim
 ·exact q.elim
end
section
variable {K:W.Frag}{c:Ct}{hid:bL}{ρ:aB}{σ:St}{H:Hp}{a x:Addr}
theorem kT {b:Addr}(h:gw hid x b=true):hid b=true/\b≠x:=by
 unfold gw at h;rw[Bool.and_eq_true] at h;exact⟨h.1,by simpa using h.2⟩
theorem fW {b:Addr}(n:b≠x):gw hid x b=hid b:=by unfold gw;simp[n]
theorem jg {u':HO}(hh:hid x=true):Same (vw H hid) (vw (bf H x u') (gw hid x)):=λb o q=>by
 obtain⟨q1,q2⟩:=vw_some.mp q
 have n:b≠x:=λe=>by subst e;rw[hh] at q1;cases q1
 exact vw_some.mpr ⟨by rw[fW n];exact q1,by rw[ar n];exact q2⟩
theorem xu {u':HO}:vw (bf H x u') (gw hid x) x=some u':=vw_some.mpr ⟨by unfold gw;simp,ax⟩
theorem SR.reveal {u':HO}(h:SR K c hid ρ σ H)(hh:hid x=true)(h0:c.H₀ x=none)(no: ∀(i:Nat) a',Ow ρ[i]? ->σ[i]? =some (some (.ref a'))-> ¬At H a' x):SR K c (gw hid x) ρ σ (bf H x u'):=by
 have sm:Same (vw H hid) (vw (bf H x u') (gw hid x)):=jg hh
 have n0: ∀b o,c.H₀ b=some o->b≠x:=λb o q e=>by subst e;rw[h0] at q;cases q
 have ne: ∀(i:Nat) (s:Sl) (a' y:Addr),ρ[i]? =some s->Ow (some s)->σ[i]? =some (some (.ref a'))->At H a' y->y≠x:=λi s a' y e o q hy z=>by
  subst z;exact no i a' (by rw[e];exact o) q hy
 refine⟨λb hb=>?_,λb xs hb=>?_,λb hb=>?_,λb o q m=>by rw[ar (n0 b o q)];exact h.kp b o q m,λb o q=>by rw[ar (n0 b o q)];exact h.t0 b o q,h.c0,h.m0,h.len,λi s e=>?_,h.ap⟩
 ·obtain⟨h1,h2⟩:=kT hb
  rw[ar h2];exact h.tr b h1
 ·obtain⟨h1,h2⟩:=kT hb
  rw[ar h2];exact h.ht b xs h1
 ·obtain⟨o,q⟩:=h.c0 b hb
  rw[fW (n0 b o q)];exact h.h0 b hb
 ·have z:=h.sl i s e
  cases s with
  |no=>trivial
  |v d=>obtain⟨x,h1,h2⟩:=z;exact⟨x,h1,h2.mono sm⟩
  |own ds=>
   obtain⟨a',xs,h1,h2,h3,h4,h5⟩:=z
   have n:=ne i _ a' a' e trivial h1 (.inl rfl)
   exact⟨a',xs,h1,by rw[ar n];exact h2,by rw[fW n];exact h3,h4,h5.mono sm⟩
  |arg ds=>
   obtain⟨a',xs,h1,h2,h3,h4,h5⟩:=z
   have n:=ne i _ a' a' e trivial h1 (.inl rfl)
   exact⟨a',xs,h1,by rw[ar n];exact h2,by rw[fW n];exact h3,h4,h5.mono sm⟩
  |ob b=>
   obtain⟨a',h1,h2⟩:=z
   exact⟨a',h1,h2.mono (λow y hy o q=>by rw[ar (ne i _ a' y e ow h1 hy)];exact q) sm λow y hy q=>by rw[fW (ne i _ a' y e ow h1 hy)];exact q⟩
theorem SR.mark {i:Nat}{s:Sl}(h:SR K c hid ρ σ H)(hs:SlOk K c hid σ H i s)(no: ¬Ow (some s)):SR K c hid (ρ.set i s) σ H:=by
 have ow: ∀j:Nat,Ow (ρ.set i s)[j]? ->Ow ρ[j]? :=λj o=>by
  by_cases e:j=i
  ·subst e
   by_cases lt:j<ρ.length
   ·rw[List.getElem?_set_self lt] at o;exact absurd o no
   ·rw[List.getElem?_eq_none (by simpa using lt)] at o;exact o.elim
  ·rw[List.getElem?_set_ne (Ne.symm e)] at o;exact o
 refine⟨h.tr,h.ht,h.h0,h.kp,h.t0,h.c0,h.m0,by simp[h.len],λj s' e=>?_,λj l z n o1 o2=>h.ap j l z n (ow j o1) (ow l o2)⟩
 by_cases ej:j=i
 ·subst ej
  have lt:j<ρ.length:=by
   have:=(List.getElem?_eq_some_iff.mp e).1
   simpa using this
  rw[List.getElem?_set_self lt] at e;cases e
  exact hs
 ·rw[List.getElem?_set_ne (Ne.symm ej)] at e
  exact h.sl j s' e
theorem SR.kind {j:Nat}{s:Sl}(h:SR K c hid ρ σ H)(e:ρ[j]? =some s)(o:Ow (some s))(q:σ[j]? =some (some (.ref a))): ∃u,H a=some u/\ ∀p v,u≠ .nst p v:=by
 have z:=h.sl j s e
 cases s with
 |no=>exact o.elim
 |v d=>exact o.elim
 |own ds=>obtain⟨a',xs,h1,h2,_⟩:=z;rw[q] at h1;cases h1;exact⟨_,h2,nofun⟩
 |arg ds=>obtain⟨a',xs,h1,h2,_⟩:=z;rw[q] at h1;cases h1;exact⟨_,h2,nofun⟩
 |ob b=>obtain⟨a',h1,h2⟩:=z;rw[q] at h1;cases h1;exact h2.kind o
end
def Ca:NO->Option (List (bq×D))
 | .k kvs=>some kvs
 |_=>none
def Ce:NO->Option (List D)
 | .l ds=>some ds
 |_=>none
theorem Paired.mem {α β:Type}{F:α->β->Prop}: ∀ {l₁:List α} {l₂:List β} {x:α},Paired F l₁ l₂->x∈l₁-> ∃y,F x y
 |_,_,_,.nil,e=>by cases e
 |_,_,_,.cons r t,e=>by
  rcases List.mem_cons.mp e with rfl|e
  ·exact⟨_,r⟩
  ·exact Paired.mem t e
theorem Paired.off {α β:Type}{F G:α->β->Prop}: ∀ {l₁:List α} {l₂:List β},Paired F l₁ l₂->(∀x y,x∈l₁->F x y->G x y)->Paired G l₁ l₂
 |_,_,.nil,_=>.nil
 |_,_,.cons r t,k=>.cons (k _ _ List.mem_cons_self r) (Paired.off t λx y h=>k x y (List.mem_cons_of_mem _ h))
section
variable {X:Cx}{c:Ct}{ae:List (Addr×Obj)}{σ:St}{s:Shared}{a:Addr}{β:Type}{conv:NO->Option β}{R:Hp->Addr->β->Prop}
def qB(X:Cx)(c:Ct)(ae:List (Addr×Obj))(σ:St)(s:Shared)(conv:NO->Option β)(R:Hp->Addr->β->Prop):Prop:=
 (∀W W' b v,Same W W'->R W b v->R W' b v)/\ ∀hid H a b u v,NOk X.K c hid H a b u->conv u=some v->Inv X ae σ H s-> ∃u',(∀p w,u'≠ .nst p w)/\Inv X ae σ (bf H b u') s/\ ∀W,W b=some u'->Same (vw H hid) W->R W b v
theorem wW:qB X c ae σ s Ca (DRd X.K):=by
 refine⟨λW W' b v sm h=>h.mono sm,λhid H a b u v n e I=>?_⟩
 cases u with
 |l ds=>cases e
 |k kvs=>
  cases e
  obtain⟨_,us,h1,h2,h3⟩:=n
  obtain⟨o,I'⟩:=I.freeze h1
  exact⟨.frz o (.dK us),nofun,I',λW hW sm=>⟨o,us,hW,h2,h3.mono sm⟩⟩
theorem vY:qB X c ae σ s Ce (λW b ds=>Rep X.K W (.ref b) (.lst ds)):=by
 refine⟨λW W' b v sm h=>h.mono sm,λhid H a b u v n e I=>?_⟩
 cases u with
 |k ds=>cases e
 |l kvs=>
  cases e
  obtain⟨_,us,h1,h2⟩:=n
  exact⟨.lst us,nofun,I.unnest h1,λW hW sm=>.lst hW (h2.mono sm)⟩
theorem rP(L:qB X c ae σ s conv R){ρ:aB}: ∀ {bs:List Addr} {us:List NO} {vs:List β} {hid:bL} {H:Hp},Paired (NOk X.K c hid H a) bs us->us.mapM conv=some vs->bs.Nodup->(∀b∈bs,∀(i:Nat) a',Ow ρ[i]? ->σ[i]? =some (some (.ref a'))-> ¬At H a' b)->
 Inv X ae σ H s->SR X.K c hid ρ σ H-> ∃H' hid',Inv X ae σ H' s/\SR X.K c hid' ρ σ H'/\Same (vw H hid) (vw H' hid')/\Paired (R (vw H' hid')) bs vs/\(∀y,y∉bs->H' y=H y/\hid' y=hid y)/\ ∀y p w,H' y=some (.nst p w)->H y=some (.nst p w):=by
 intro bs
 induction bs with
 |nil=>
  intro us vs hid H pr e nd no I sr;cases pr
  cases e
  exact⟨H,hid,I,sr,Same.refl _,.nil,λy _=>⟨rfl,rfl⟩,λ_ _ _ q=>q⟩
 |cons b bs ih=>
  intro us vs hid H pr e nd no I sr;cases pr
  rename_i u us r t;rw[List.mapM_cons] at e;obtain⟨v,e1,e⟩:=Option.bind_eq_some_iff.mp e
  obtain⟨vs',e2,e⟩:=Option.bind_eq_some_iff.mp e
  cases e
  obtain⟨u',n',I1,hR⟩:=L.2 hid H a b u v r e1 I
  have hb:=r.at.1
  have sr1:=sr.reveal (u':=u') hb.1 hb.2 (no b List.mem_cons_self)
  have sm1:Same (vw H hid) (vw (bf H b u') (gw hid b)):=jg hb.1
  obtain⟨nb,nd'⟩:=List.nodup_cons.mp nd
  have back: ∀y p w,bf H b u' y=some (.nst p w)->H y=some (.nst p w):=λy p w q=>by
   by_cases ey:y=b
   ·subst ey;rw[ax] at q;cases q;exact absurd rfl (n' _ _)
   ·rw[ar ey] at q;exact q
  have t1:Paired (NOk X.K c (gw hid b) (bf H b u') a) bs us:=by
   refine L2.Paired.off t λb2 u2 hb2 r2=>?_
   have n2:b2≠b:=λz=>by subst z;exact nb hb2
   exact r2.mono (λw q=>by rw[ar n2];exact q) sm1 λ_=>by rw[fW n2];exact r2.at.1.1
  obtain⟨H',hid',I2,sr2,sm2,pr2,k2,b2⟩:=ih t1 e2 nd' (λb' hb' i a' o q hat=>no b' (List.mem_cons_of_mem _ hb') i a' o q (hat.imp id λ⟨w,hw⟩=>⟨w,back _ _ _ hw⟩)) I1 sr1
  refine⟨H',hid',I2,sr2,sm1.trans sm2,.cons (L.1 _ _ _ _ sm2 (hR _ xu sm1)) pr2,λy hy=>?_,λy p w q=>back _ _ _ (b2 y p w q)⟩
  rw[List.mem_cons,not_or] at hy;obtain⟨k3,k4⟩:=k2 y hy.2
  exact⟨k3.trans (ar hy.1),k4.trans (fW hy.1)⟩
theorem sX {H:Hp}{x:Addr}{o:HO}(e:H x=some o):bf H x o=H:=by
 funext b
 by_cases eb:b=x
 ·subst eb;rw[ax,e]
 ·exact ar eb
theorem SR.letgo(L:qB X c ae σ s conv R){ρ:aB}{hid:bL}{H:Hp}{i:Nat}{us:List NO}{vs:List β}(sr:SR X.K c hid ρ σ H)(hg:kj i ρ=some us)(e:us.mapM conv=some vs)(I:Inv X ae σ H s):
 ∃H' hid' bs,Inv X ae σ H' s/\SR X.K c hid' (ρ.set i .no) σ H'/\Same (vw H hid) (vw H' hid')/\Paired (R (vw H' hid')) bs vs/\σ[i]? =some (some (.ref a))/\vw H' hid' a=some (.lst (bs.map V.ref))\/σ[i]? ≠some (some (.ref a)):=by
 by_cases ea:σ[i]? =some (some (.ref a))
 ·obtain⟨a1,bs,h1,h2,h3,h4,h5⟩:=sr.nst hg
  rw[ea] at h1;cases h1;have sr0:SR X.K c hid (ρ.set i .no) σ H:=sr.forget (by simp) λj s' q=>by
   by_cases ej:j=i
   ·subst ej
    rw[List.getElem?_set_self (List.getElem?_eq_some_iff.mp (dG hg)).1] at q;cases q;exact .inl rfl
   ·rw[List.getElem?_set_ne (Ne.symm ej)] at q;exact .inr q
  have nw: ∀(j:Nat) a',Ow (ρ.set i .no)[j]? ->σ[j]? =some (some (.ref a'))->a'≠a/\ ∃u,H a'=some u/\ ∀p v,u≠ .nst p v:=λj a' o q=>by
   have ej:j≠i:=λz=>by
    subst z;rw[List.getElem?_set_self (List.getElem?_eq_some_iff.mp (dG hg)).1] at o;exact o
   rw[List.getElem?_set_ne (Ne.symm ej)] at o;refine⟨λz=>?_,?_⟩
   ·subst z;exact sr.ap j i a' ej o (by rw[dG hg];trivial) q ea
   ·cases w:ρ[j]? with
    |none=>rw[w] at o;exact o.elim
    |some s'=>rw[w] at o;exact sr.kind w o q
  have hn: ∀b∈bs,∃o,H b=some (.nst a o):=λb hb=>let⟨_,r⟩:=L2.Paired.mem h5 hb;r.at.2
  obtain⟨H',hid',I',sr',sm',pr',k',b'⟩:=rP L h5 e h4 (λb hb j a' o q hat=>by
   obtain⟨n1,w,n2,n3⟩:=nw j a' o q
   obtain⟨ob,hob⟩:=hn b hb
   rcases hat with z|⟨w',hw'⟩
   ·subst z;rw[n2] at hob;exact n3 _ _ (Option.some.inj hob)
   ·rw[hob] at hw';cases hw';exact n1 rfl) I sr0
  have na:a∉bs:=λhb=>by obtain⟨ob,hob⟩:=hn a hb;rw[h3] at hob;cases hob
  obtain⟨k1,k2⟩:=k' a na
  have e3:H' a=some (.lst (bs.map V.ref)):=k1.trans h3
  have hh:hid' a=true:=k2.trans h2.1
  have sr2:=sr'.reveal (u':=.lst (bs.map V.ref)) hh h2.2 λj a' o q hat=>by
   obtain⟨n1,_⟩:=nw j a' o q
   rcases hat with z|⟨w',hw'⟩
   ·exact n1 z.symm
   ·rw[e3] at hw';cases hw'
  have sm2:Same (vw H' hid') (vw (bf H' a (.lst (bs.map V.ref))) (gw hid' a)):=jg hh
  have at2:vw (bf H' a (.lst (bs.map V.ref))) (gw hid' a) a=some (.lst (bs.map V.ref)):=xu
  rw[sX e3] at sr2 sm2 at2;exact⟨H',gw hid' a,bs,.inl ⟨I',sr2,sm'.trans sm2,Paired.mapP pr' λb v r=>L.1 _ _ _ _ sm2 r,ea,at2⟩⟩
 ·exact⟨H,hid,[],.inr ea⟩
end
section
variable {X:Cx}{c:Ct}{k:Kd}{st:Stmt}{t:FS}
def AA(i:Nat)(ρ:aB):Option aB:=(kj i ρ).bind λus=>(us.mapM Ca).map λl=>ρ.set i (.ob (.dRs l))
def sH(i:Nat)(t:FS):FS:=λρ=>match AA i ρ with
 |some ρ'=>t ρ'
 |none=>.no
theorem set_set {ρ:aB}{i:Nat}{a b:Sl}:(ρ.set i a).set i b=ρ.set i b:=by simp
theorem yI(i:Nat)(h:DS X c k st t):DS X c k st (sH i t):=λρ ae s σ H D I hq_=>by
 obtain⟨hid,sr,q⟩:=hq_
 unfold sH at q;split at q
 ·rename_i ρ' e
  obtain⟨us,e0,e⟩:=Option.bind_eq_some_iff.mp e
  obtain⟨l,e1,rfl⟩:=Option.map_eq_some_iff.mp e
  obtain⟨a,_,a1,_⟩:=sr.nst e0
  obtain⟨H',hid',bs,⟨I',sr',sm,pr,_,ha⟩|z⟩:=sr.letgo (a:=a) (wW (X:=X)) e0 e1 I
  ·refine h _ ae s σ H' D I' ⟨hid',?_,q.mono sm⟩
   have:=sr'.mark (i:=i) (s:=.ob (.dRs l)) ⟨a,a1,bs,ha,pr⟩ id
   rwa [set_set] at this
  ·exact absurd a1 z
 ·exact q.elim
def AB(i:Nat)(ρ:aB):Option aB:=(kj i ρ).bind λus=>(us.mapM Ce).map λl=>ρ.set i (.v (.lst (l.map D.lst)))
def oF(i:Nat)(t:FS):FS:=λρ=>match AB i ρ with
 |some ρ'=>t ρ'
 |none=>.no
theorem lC {W:Hp}: ∀ {bs:List Addr} {l:List (List D)},Paired (λb ds=>Rep X.K W (.ref b) (.lst ds)) bs l->Reps X.K W (bs.map V.ref) (l.map D.lst)
 |_,_,.nil=>.nil
 |_,_,.cons r t=>.cons r (lC t)
theorem wM(i:Nat)(h:DS X c k st t):DS X c k st (oF i t):=λρ ae s σ H D I hq_=>by
 obtain⟨hid,sr,q⟩:=hq_
 unfold oF at q;split at q
 ·rename_i ρ' e
  obtain⟨us,e0,e⟩:=Option.bind_eq_some_iff.mp e
  obtain⟨l,e1,rfl⟩:=Option.map_eq_some_iff.mp e
  obtain⟨a,_,a1,_⟩:=sr.nst e0
  obtain⟨H',hid',bs,⟨I',sr',sm,pr,_,ha⟩|z⟩:=sr.letgo (a:=a) (vY (X:=X)) e0 e1 I
  ·refine h _ ae s σ H' D I' ⟨hid',?_,q.mono sm⟩
   have:=sr'.mark (i:=i) (s:=.v (.lst (l.map L2.D.lst))) ⟨_,a1,.lst ha (lC pr)⟩ id
   rwa [set_set] at this
  ·exact absurd a1 z
 ·exact q.elim
end
def tE(i:Nat)(ρ:aB):Option (List (bq×D)):=match ρ[i]? with
 |some (.ob (.dR kvs))=>some kvs
 |_=>none
theorem so {i:Nat}{ρ:aB}{kvs:List (bq×D)}(h:tE i ρ=some kvs):ρ[i]? =some (.ob (.dR kvs)):=by
 unfold tE at h;split at h
 ·cases h;assumption
 ·cases h
def lm(i:Nat)(ρ:aB):Option (List (List (bq×D))):=match ρ[i]? with
 |some (.ob (.dRs l))=>some l
 |_=>none
theorem oW {i:Nat}{ρ:aB}{kvs:List (List (bq×D))}(h:lm i ρ=some kvs):ρ[i]? =some (.ob (.dRs kvs)):=by
 unfold lm at h;split at h
 ·cases h;assumption
 ·cases h
def Cc(K:W.Frag)(W:Hp)(v:V)(kvs:List (bq×D)):Prop:= ∃b,v=.ref b/\DRd K W b kvs
section
variable {X:Cx}{c:Ct}{k1:Kd}{e tg:Expr}{fe:FE}{pos py:Pos}{x y:Str}
def rL(i:Nat)(fk:FE):FE:=λρ=>(tE i ρ).bind λkvs=>((fk ρ).bind qO).bind λk=>fc kvs k
theorem we(i:Nat)(hu:X.A.units+1<cLine)(he:DP X c k1 e fe)(hs:xY e)(hN:X.N[i]? =some y:=by rfl)(hv':m5 X.env.scope y:=by first|exact Or.inl rfl|exact Or.inr (Or.inl rfl)|exact Or.inr (Or.inr rfl))(hd:(y==("__debug__":Str))=false:=by decide)
 (hcd:(y==("__classdict__":Str))=false:=by decide):DP X c .s (.Subscript (.Name y py) e pos) (rL i fe):=λhid ρ=>
 PE.imp (vj hu (pv i hN hv' hd hcd) (he hid ρ) hs) λσ H Q hq_=>by
  obtain⟨sr,d,hd,q⟩:=hq_
  obtain⟨kvs,e0,hd⟩:=Option.bind_eq_some_iff.mp hd
  obtain⟨kk,e1,hd⟩:=Option.bind_eq_some_iff.mp hd
  obtain⟨dk,e3,e4⟩:=Option.bind_eq_some_iff.mp e1
  obtain⟨j,rfl,rfl⟩:=kF e4
  obtain⟨a,a1,o,us,a2,a3,a4⟩:=sr.sl i _ (so e0)
  refine⟨.ref a,a1,sr,_,e3,λz H2 s2 r2=>?_⟩
  have i1:=(RK.b k1 r2 λa n=>sr.fresh n).int
  cases i1
  have hh:H2 a=some (.frz o (.dK us)):=s2 _ _ (dz _ _ _ _ a2)
  have rr:KRl X.K (vw H2 hid) us kvs:=⟨a3,a4.mono (aS s2)⟩
  rcases rr.val (Sum.inl j) with⟨v1,v2⟩|⟨v,d',v1,v2,v3⟩
  ·rw[v2] at hd;cases hd
  ·rw[v2] at hd;cases hd
   exact⟨a,v,rfl,v1▸ .inl ⟨us,Sum.inl j,.inr ⟨o,hh⟩,rfl,rfl⟩,q _ H2 s2 v3⟩
theorem wl(i:Nat)(hN:X.N[i]? =some y:=by rfl)(hv':m5 X.env.scope y:=by first|exact Or.inl rfl|exact Or.inr (Or.inl rfl)|exact Or.inr (Or.inr rfl))(hd:(y==("__debug__":Str))=false:=by decide)
 (hcd:(y==("__classdict__":Str))=false:=by decide):Be (Cc X.K) X c tg (.Name y py) (lm i):=λhid ρ=>PI.imp (lW (pv i hN hv' hd hcd)) λσ H R hq_=>by
 obtain⟨sr,ds,e,q⟩:=hq_
 obtain⟨a,a1,bs,a2,a3⟩:=sr.sl i _ (oW e)
 have h1:SqL X.K (vw H hid) a (bs.map V.ref):=SqL.of a2
 refine⟨.ref a,a1,a,rfl,⟨_,(dz _ _).seq h1⟩,q _ H (Same.refl _) ⟨λj d H' e _ w=>?_,λH' _ w=>⟨_,w.seq h1,by rw[List.length_map,(L2.Paired.len a3)];exact Nat.le_refl _⟩⟩⟩
 obtain⟨b,e1,r1⟩:=L2.Paired.get a3 e
 have e1':(bs.map V.ref)[j]? =some (.ref b):=by rw[List.getElem?_map,e1];rfl
 refine⟨⟨_,.ref b,w.seq h1,e1'⟩,λy H2 ⟨e2,e3⟩=>?_⟩
 subst e2;have:=e3 _ (w.seq h1)
 rw[e1'] at this;cases this;exact⟨Same.refl _,λhid' _ sw=>⟨b,rfl,r1.mono sw⟩⟩
def gR(i:Nat):List (bq×D)->aB->Option aB:=λd ρ=>some (ρ.set i (.ob (.dR d)))
theorem xZ(i:Nat)(hn:X.N.Nodup)(hi:X.N[i]? =some x:=by rfl)(hx:sJ X.env.scope x:=by first|exact Or.inl rfl|exact Or.inr rfl)(hf:X.fn x=true\/X.env.scope.names.lookup x=some .local:=by first|exact .inl rfl|exact .inr rfl|assumption):
 AL (Cc X.K) X c (.Name x pos) (gR i):=λhid ρ d=>PG.imp (qY (i:=i) hn hi hx hf) λv σ H Q hq_=>by
 obtain⟨sr,⟨b,hv,r⟩,ρ',e,q⟩:=hq_
 cases e
 subst hv;have nf:hid b=false:=by obtain⟨_,_,w,_⟩:=r;exact(vw_some.mp w).1
 refine q _ (SR.setD (a:=b) (b:=.dR d) sr r (sr.notOw nf) i) λj o=>?_
 have ne:j≠i:=λe=>by
  subst e
  by_cases lt:j<ρ.length
  ·rw[List.getElem?_set_self lt] at o;exact o
  ·rw[List.getElem?_eq_none (by simpa using lt)] at o;exact o
 rw[List.getElem?_set_ne (Ne.symm ne)] at o⊢;exact⟨o,rfl⟩
theorem yk {n i:Nat}(h:n<=i):mO n (gR i):=λd ρ0 ρ1 e=>by
 cases e
 exact⟨by simp,λj hj=>List.getElem?_set_ne (by omega)⟩
end
section
variable {X:Cx}{c:Ct}{k:Kd}{pos pos' p1 p2 p3:Pos}{x:Str}
def w6(i:Nat):FS:=λρ=>.nx (ρ.set i (.ob (.nst [.k [],.k []])))
theorem zn(i:Nat)(hn:X.N.Nodup)(hi:X.N[i]? =some x:=by rfl)(hx:sJ X.env.scope x:=by first|exact Or.inl rfl|exact Or.inr rfl)(hs:swapsWith (.List [.Dict [] [] p1,.Dict [] [] p2] p3) (some (.Name x pos')) pos.line X.env=pure false:=by rfl)
 (hf:X.fn x=true\/X.env.scope.names.lookup x=some .local:=by first|exact .inl rfl|exact .inr rfl|assumption) (h1:starEach [.Dict [] [] p1,.Dict [] [] p2] X.env=(false,eval (.Dict [] [] p1) X.env)::starEach [.Dict [] [] p2] X.env:=by rfl) (h2:starEach [.Dict [] [] p2] X.env=(false,eval (.Dict [] [] p2) X.env)::starEach [] X.env:=by rfl):
 DS X c k (.Assign [.Name x pos'] (.List [.Dict [] [] p1,.Dict [] [] p2] p3) pos) (w6 i):=λρ=>PS.imp (PS.post (i7 hn hi hx (mL (bp oa (bp oa cO h2) h1)) hs hf)) λD σ H hq_=>by
 obtain⟨hid,sr,q⟩:=hq_
 intro d0 n0 d1 n1;refine⟨Nat.le_of_ble_eq_true rfl,λa na ae s I=>?_⟩
 have e01:d1≠d0:=λz=>by subst z;rw[ax] at n1;cases n1
 have n1':H d1=none:=by rw[ar e01] at n1;exact n1
 have ea1:a≠d1:=λz=>by subst z;rw[ax] at na;cases na
 have na1:=na
 rw[ar ea1] at na1;have ea0:a≠d0:=λz=>by subst z;rw[ax] at na1;cases na1
 have na':H a=none:=by rw[ar ea0] at na1;exact na1
 have I1:=I.nest (d:=d0) (p:=a) (u:=.dK []) (by rw[ar (Ne.symm ea0),ar (Ne.symm e01),ax]) trivial
 have I2:=I1.nest (d:=d1) (p:=a) (u:=.dK []) (by rw[ar e01,ar (Ne.symm ea1),ax]) trivial
 have eH:bf (bf (bf (bf (bf H d0 (.dK [])) d1 (.dK [])) a (.lst [.ref d0,.ref d1])) d0 (.nst a (.dK []))) d1 (.nst a (.dK []))=bf (bf (bf H d0 (.nst a (.dK []))) d1 (.nst a (.dK []))) a (.lst [.ref d0,.ref d1]):=by
  funext b;unfold bf
  by_cases b1:b=d1
  ·subst b1;simp[Ne.symm ea1]
  ·by_cases b0:b=d0
   ·subst b0;simp[b1,Ne.symm ea0]
   ·simp[b1,b0]
 refine⟨_,I2,?_⟩
 rw[eH];have m1:bf H d0 (.nst a (.dK [])) d1=none:=by rw[ar e01];exact n1'
 have m2:bf (bf H d0 (.nst a (.dK []))) d1 (.nst a (.dK [])) a=none:=by rw[ar ea1,ar ea0];exact na'
 have s1:=sr.hide (aU n0 (.nst a (.dK []))) n0 ax
 have s2:=s1.hide (aU m1 (.nst a (.dK []))) m1 ax
 have s3:=s2.hide (aU m2 (.lst [.ref d0,.ref d1])) m2 ax
 refine q _ _ (bQ (bQ (bQ hid d0) d1) a) (SR.setD (a:=a) (b:=.nst [.k [],.k []]) s3 ⟨⟨cM,sr.fresh0 na'⟩,[d0,d1],ax,by simp[Ne.symm e01],.cons ⟨⟨bM (bM cM),sr.fresh0 n0⟩,[],by rw[ar (Ne.symm ea0),ar (Ne.symm e01),ax],rfl,.nil⟩ (.cons ⟨⟨bM cM,sr.fresh0 n1'⟩,[],by rw[ar (Ne.symm ea1),ax],rfl,.nil⟩ .nil)⟩ (sr.notOw (sr.fresh na')) i) ?_
 rw[i4 m2,i4 m1,i4 n0];exact Same.refl _
end
theorem Paired.app1 {α β:Type}{F:α->β->Prop}{x:α}{y:β}(h:F x y): ∀ {l₁:List α} {l₂:List β},Paired F l₁ l₂->Paired F (l₁++[x]) (l₂++[y])
 |_,_,.nil=>.cons h .nil
 |_,_,.cons r t=>.cons r (Paired.app1 h t)
section
variable {X:Cx}{c:Ct}{k:Kd}{pos pos' p1 py apos cpos:Pos}{x y:Str}{e:Expr}{f:FE}
def qb(i:Nat):FS:=λρ=>.nx (ρ.set i (.ob (.nst [])))
theorem vf(i:Nat)(hn:X.N.Nodup)(hi:X.N[i]? =some x:=by rfl)(hx:sJ X.env.scope x:=by first|exact Or.inl rfl|exact Or.inr rfl)(hs:swapsWith (.List [] p1) (some (.Name x pos')) pos.line X.env=pure false:=by rfl)
 (hf:X.fn x=true\/X.env.scope.names.lookup x=some .local:=by first|exact .inl rfl|exact .inr rfl|assumption):DS X c k (.Assign [.Name x pos'] (.List [] p1) pos) (qb i):=λρ=>PS.imp (i7 hn hi hx (mL cO) hs hf) λD σ H hq_=>by
 obtain⟨hid,sr,q⟩:=hq_
 refine⟨Nat.zero_le _,λa ha=>?_⟩
 have sm:=aU ha (.lst [])
 refine q _ _ (bQ hid a) (SR.setD (a:=a) (b:=.nst []) (sr.hide sm ha ax) ⟨⟨cM,sr.fresh0 ha⟩,[],ax,.nil,.nil⟩ (sr.notOw (sr.fresh ha)) i) ?_
 rw[i4 ha];exact Same.refl _
def kX(i:Nat)(f:FE):FS:=λρ=>match kj i ρ,f ρ with
 |some us,some (.lst ds)=>if us.length<=1000 then .nx (ρ.set i (.ob (.nst (us++[.l ds])))) else .no
 |_,_=>.no
theorem vZ(i:Nat)(slot:Slot "list" "append" "list.append")(hty:typeOf (.builtin "list.append")=pure (.type "method_descriptor"))(he:DP X c .n e f)
 (hN:X.N[i]? =some y:=by rfl) (hv:m5 X.env.scope y:=by first|exact Or.inl rfl|exact Or.inr (Or.inl rfl)|exact Or.inr (Or.inr rfl)) (hd:(y==("__debug__":Str))=false:=by decide) (hcd:(y==("__classdict__":Str))=false:=by decide)
 (hbase:attributeBase (.Name y py) "append" X.env (eval (.Name y py) X.env)=eval (.Name y py) X.env:=by rfl)
 (hfew:((backTo cpos (starEach [e] X.env)).all (λx=> !x.1)&&(backToKw cpos (keywordEach [] X.env)).all (λx=>x.1.isSome)
   &&decide ([e].length+([]:List Keyword).length+(if([]:List Keyword).isEmpty then 0 else 1)<30))=true:=by rfl)
 (hline:(apos.endLine==cpos.line)=true:=by rfl) (hs:starEach [e] X.env=(false,eval e X.env)::starEach [] X.env:=by rfl) (hplain:(backTo cpos (starEach [] X.env)).any (·.1)=false:=by rfl)
 (hsw:swapsWith (.Call (.Attribute (.Name y py) "append" apos) [e] [] cpos) none pos.line X.env=pure false:=by rfl):
 DS X c k (.Expr (.Call (.Attribute (.Name y py) "append" apos) [e] [] cpos) pos) (kX i f):=λρ=>PS.imp (PS.post (qi (xy PySem.F.plainAttrs_list slot hty iP (pv i hN hv hd hcd) (bp (im λhid=>he hid ρ) cO hs) hbase hfew hline hs hplain) hsw)) λD σ H hq_=>by
 obtain⟨hid,sr,q⟩:=hq_
 unfold kX at q;split at q
 ·rename_i us ds e0 e1
  split at q
  ·rename_i hz
   obtain⟨a,bs,a1,a2,a3,a4,a5⟩:=sr.nst e0
   refine⟨.ref a,a1,.inl ⟨rfl,_,SqL.of a3⟩,hid,sr,_,e1,λv H1 s1 r1=>?_⟩
   obtain⟨b,xs,ds',h1,h2,h3,h4,h5⟩:=r1
   cases h1
   subst h2;have ne:a≠b:=λz=>by subst z;rw[a3] at h3;cases h3
   have a3':=s1 _ _ a3
   refine⟨a,bs.map V.ref,.ref b,rfl,rfl,a3',?_,λae s I=>?_⟩
   ·rw[List.length_map,L2.Paired.len a5];exact Nat.lt_of_le_of_lt hz (by decide)
   have I2:=I.nest (d:=b) (p:=a) (u:=.lst xs) (by rw[ar (Ne.symm ne)];exact h4) trivial
   have eH:bf (bf H1 a (.lst (bs.map V.ref++[.ref b]))) b (.nst a (.lst xs))=bf (bf H1 b (.nst a (.lst xs))) a (.lst (bs.map V.ref++[.ref b])):=by
    funext z;unfold bf
    by_cases z1:z=b
    ·subst z1;simp[Ne.symm ne]
    ·simp[z1]
   refine⟨_,I2,?_⟩
   rw[eH];have nf:=sr.fresh h3
   have sr1:=(sr.hide s1 h3 h4).write (o':=.nst a (.lst xs)) cM (sr.fresh0 h3) (sr.notOw nf) h4
   have ha':bQ hid b a=true:=bM a2.1
   have v1:vw (bf (bf H1 b (.nst a (.lst xs))) a (.lst (bs.map V.ref++[.ref b]))) (bQ hid b)=vw H1 (bQ hid b):=by rw[cV ha',cV cM]
   have s2:Same (vw H hid) (vw H1 (bQ hid b)):=λz o w=>by
    obtain⟨w1,w2⟩:=vw_some.mp w
    have nz:z≠b:=bv w2 h3
    exact vw_some.mpr ⟨by unfold bQ;rw[w1];simp[nz],s1 z o w2⟩
   refine q _ _ (bQ hid b) (sr1.putO (dG e0) trivial trivial a1 (.inl rfl) ha' a2.2 nofun ⟨⟨ha',a2.2⟩,bs++[b],by rw[ax,List.map_append];rfl,?_,?_⟩) (by rw[v1];exact s2)
   ·rw[List.nodup_append]
    refine⟨a4,by simp,λz hz w hw e=>?_⟩
    rw[List.mem_singleton] at hw;subst hw;subst e;obtain⟨_,r⟩:=L2.Paired.mem a5 hz
    obtain⟨o,ho⟩:=r.at.2
    rw[h3] at ho;cases ho
   ·refine L2.Paired.app1 ⟨⟨cM,sr.fresh0 h3⟩,xs,by rw[ar (Ne.symm ne),ax],by rw[v1];exact h5⟩ (L2.Paired.off a5 λz u _ r=>?_)
    obtain⟨o,ho⟩:=r.at.2
    have nb:z≠b:=λe=>by subst e;rw[h3] at ho;cases ho
    have na:z≠a:=λe=>by subst e;rw[a3] at ho;cases ho
    exact r.mono (λw hw=>by rw[ar na,ar nb];exact s1 _ _ hw) (by rw[v1];exact s2) λ_=>bM r.at.1.1
  ·exact q.elim
 ·exact q.elim
end
def m8(i:Nat):Stmt:=PySem.Challenge.pw_rookborders_k12_corners_taken.main.body.getD i (.Pass ⟨0,0,0,0⟩)
structure Bt(mg:Str->Option Value):Prop where
 b_ValueError:mg "ValueError"=none
 b_abs:mg "abs"=none
 b_any:mg "any"=none
 b_enumerate:mg "enumerate"=none
 b_int:mg "int"=none
 b_isinstance:mg "isinstance"=none
 b_len:mg "len"=none
 b_list:mg "list"=none
 b_max:mg "max"=none
 b_min:mg "min"=none
 b_range:mg "range"=none
 b_sorted:mg "sorted"=none
 b_tuple:mg "tuple"=none
 g_MANY_WAYS: ∃tk,mg "MANY_WAYS"=some (.int 4 tk)
def Am:List Str:=["RookError","NoSquare","NoMove","TooMany","NoPart","NotOne","NoPaper","NoText","NoRow","NoStep"]
structure Et(K:W.Frag)(mg:Str->Option Value)(kx0 kx1 kx2 kx3 kx4 kx5 kx6 kx7 kx8 kx9:Addr):Prop where
 t:ExTab K mg kx0 [("RookError",kx0),("NoSquare",kx1),("NoMove",kx2),("TooMany",kx3),("NoPart",kx4),("NotOne",kx5),("NoPaper",kx6),("NoText",kx7),("NoRow",kx8),("NoStep",kx9)]
 o_NoMove:W.excIn K kx2 nh "ValueError.__new__"=true
theorem Ac:(["marks","row","column","at","mark"]:List Str).Nodup:=by decide+kernel
theorem Bg:(["_law_bag_here","_law_n","_law_plain","_law_by","_law_rings","_law_crosses","_law_c","_law_d","_law_row"]:List Str).Nodup:=by decide+kernel
theorem Bd:(["_law_square_here","_law_c","_law_way","_law_n","_law_r","_law_empty","_law_marks","_law_which","_law_column","_law_row","_law_here","_law_across","_law_some"]:List Str).Nodup:=by decide+kernel
theorem BP:(["_law_square_here","_law_c","_law_way","_law_n","_law_r","_law_empty","_law_marks","_law_which","?_law_column","_law_row","_law_here","_law_across","_law_some","_law_column"]:List Str).Nodup:=by decide+kernel
theorem zY:(["_law_square_here","_law_c","_law_r","_law_way","_law_column","_law_row","_law_found","_law_which","_law_marks","_law_other_here"]:List Str).Nodup:=by decide+kernel
theorem Bz:(["_law_square_here","_law_n","_law_marks"]:List Str).Nodup:=by decide+kernel
theorem Bc:(["_law_square_here","_law_n","_law_column"]:List Str).Nodup:=by decide+kernel
theorem BD:(["_law_bag_here","_law_way","_law_by","_law_square_here","_law_n","_law_marks"]:List Str).Nodup:=by decide+kernel
theorem Bi:(["_law_bag_here","_law_way","_law_by","_law_square_here","_law_n","_law_marks","_law_c"]:List Str).Nodup:=by decide+kernel
section
variable {P:Program}{w:World}{K:W.Frag}{mg:Str->Option Value}{base:Heap}{kx0 kx1 kx2 kx3 kx4 kx5 kx6 kx7 kx8 kx9:Addr}
abbrev bA:Stmt:=m8 13
abbrev eZ:Stmt:=m8 14
abbrev dN:Stmt:=m8 15
abbrev ce:Stmt:=m8 16
abbrev bN:Stmt:=m8 17
abbrev cT:Stmt:=m8 19
abbrev dC:Stmt:=m8 20
abbrev cU:Stmt:=m8 21
abbrev cH:Stmt:=m8 22
abbrev cj:Stmt:=m8 23
abbrev dO:Stmt:=m8 24
abbrev cF:Stmt:=m8 25
abbrev cW:Stmt:=m8 26
abbrev bC:Stmt:=m8 27
abbrev dD:Stmt:=m8 28
abbrev cX:Stmt:=m8 29
abbrev cG:Stmt:=m8 30
abbrev gX:Stmt:=m8 31
theorem sc_free_and_full:FnScope ["c","r","way","right","up"] ["c","r","way"] (aq bA):=⟨rfl,rfl,rfl,by decide+kernel,rfl,by decide+kernel,by decide+kernel⟩
def ju:FS:=
 ay (uW 3 4 (aa (ai ba (af 2) (ao (.int 2))) (aa (ai da (af 2) (ao (.int 2))) (ah))))
 (aX (di (aa (ai aL (af 0) (af 3)) (aa (ai aL (af 1) (af 4)) (aa (ai bS (ai aL (af 0) (ao (.int 1))) (af 3)) (aa (ai bS (ai aL (af 1) (ao (.int 1))) (af 4)) (ah)))))))
def cs:List D->Option D:=iw .s 5 ju
theorem jy(B:Bt mg)(F:Df K mg "free_and_full" bA ["c","r","way"])(ET:Et K mg kx0 kx1 kx2 kx3 kx4 kx5 kx6 kx7 kx8 kx9):Cl P w K mg base 1 "free_and_full" ["c","r","way"] (gV K .s 3 cs):=by
 refine dm (k:=0) F sc_free_and_full (by decide) rfl λ_ cdv A outer s H hid E hr=>?_
 exact(am (yc 3 4 rfl sc_free_and_full.nd (al (cP (ag 2) ak) (al (iz (ag 2) ak) aC)))
  (aD (bu (fX (al (bJ (ag 0) (ag 3)) (al (bJ (ag 1) (ag 4)) (al (du (bJ (ag 0) ak) (ag 3)) (al (du (bJ (ag 1) ak) (ag 4)) aC))))))))
theorem sc_is_put:FnScope ["square","c","r","way","rings","crosses","free_column","free_row","full_column","full_row"] ["square","c","r","way"] (aq eZ):=⟨rfl,rfl,rfl,by decide+kernel,rfl,by decide+kernel,by decide+kernel⟩
def u3:FS:=
 ay (dv (gT 2 (gO (gN 4) (gO (gN 5) (lU)))) (pu (af 0)))
 (ay (dv (gT 4 (gO (gN 6) (gO (gN 7) (gO (gN 8) (gO (gN 9) (lU)))))) (pu (aj (nF 3 cs) (aa (af 1) (aa (af 2) (aa (af 3) (ah)))))))
 (ay (dQ (be (ai ge (di (aa (ai aK (af 4) (af 8)) (aa (ai aK (af 5) (af 8)) (ah)))) (di (aa (af 9) (aa (af 7) (ah)))))) (aX (ao (.bl false))) (skip))
 (aX (oM (eE (be (ai fF (ai aK (af 5) (af 6)) (af 9))) (be (ai ge (ai aK (af 4) (af 6)) (af 7))))))))
def kx:List D->Option D:=iw .s 10 u3
theorem sW(B:Bt mg)(F:Df K mg "is_put" eZ ["square","c","r","way"])(ET:Et K mg kx0 kx1 kx2 kx3 kx4 kx5 kx6 kx7 kx8 kx9)(bW:Cl P w K mg base 1 "free_and_full" ["c","r","way"] (gV K .s 3 cs)):Cl P w K mg base 2 "is_put" ["square","c","r","way"] (gV K .s 4 kx):=by
 refine dm (k:=1) F sc_is_put (by decide) rfl λ_ cdv A outer s H hid E hr=>?_
 exact(am (pN (DP.ef (ag 0)) (jD (n:=2) rfl (cQ (aM 4 sc_is_put.nd) (cQ (aM 5 sc_is_put.nd) jB))))
  (am (pN (DP.ef (fO bW (hr.mono (by decide)) (al (ag 1) (al (ag 2) (al (ag 3) aC))))) (jD (n:=4) rfl (cQ (aM 6 sc_is_put.nd) (cQ (aM 7 sc_is_put.nd) (cQ (aM 8 sc_is_put.nd) (cQ (aM 9 sc_is_put.nd) jB))))))
  (am (eC (bT (gE hr.units) jq (fX (al (aP aE aO (ag 4) (ag 8) (λ_ _=>rfl)) (al (aP aE aO (ag 5) (ag 8) (λ_ _=>rfl)) aC))) (fX (al (ag 9) (al (ag 7) aC))) (bj _)) (aD (bu qX)) cf)
  (aD (bu (zo (ie (eT hr.units) gm (aP aE aO (ag 5) (ag 6) (λ_ _=>rfl)) (ag 9) (bj _)) (tO (ie (gE hr.units) jq (aP aE aO (ag 4) (ag 6) (λ_ _=>rfl)) (ag 7) (bj _)))))))))
theorem sc_way_put:FnScope ["square","c","r","last","way"] ["square","c","r"] (aq dN):=⟨rfl,rfl,rfl,by decide+kernel,rfl,by decide+kernel,by decide+kernel⟩
def rm:FS:=
 ay (aT 3 (ai bS (aj cb (aa (ai aK (af 0) (ao (.int 0))) (ah))) (ao (.int 2))))
 (ay (dQ (ky (gz (be (uG sK sK (ao (.int 0)) (af 1) (af 3)))) (gz (be (uG sK sK (ao (.int 0)) (af 2) (af 3))))) (aX (ao .non)) (skip))
 (ay (cY (bZ (aW (aa (ao (.int 4)) (ah)))) (gN 4) (dQ (fI (aj (nF 4 kx) (aa (af 0) (aa (af 1) (aa (af 2) (aa (af 4) (ah))))))) (aX (af 4)) (skip)))
 (aX (ao .non))))
def iZ:List D->Option D:=iw .s 5 rm
theorem sq(B:Bt mg)(F:Df K mg "way_put" dN ["square","c","r"])(ET:Et K mg kx0 kx1 kx2 kx3 kx4 kx5 kx6 kx7 kx8 kx9)(kf:Cl P w K mg base 2 "is_put" ["square","c","r","way"] (gV K .s 4 kx)):Cl P w K mg base 3 "way_put" ["square","c","r"] (gV K .s 3 iZ):=by
 refine dm (k:=2) F sc_way_put (by decide) rfl λ_ cdv A outer s H hid E hr=>?_
 exact(am (bn 3 sc_way_put.nd (du (bh bb em B.b_len (aI (aP aE aO (ag 0) ak (λ_ _=>rfl)) aY) (hv:=by kernel_rfl)) ak))
  (am (eC (DW.dt (ln (pq (xw qa qa fH fH ak (ag 1) (ag 3))) (j3 (pq (xw qa qa fH fH ak (ag 2) (ag 3)))))) (aD (bu i5)) cf)
  (am (fE PassesOwn.never rfl (DIp.e (bz B.b_range (al (An B.g_MANY_WAYS) aC))) (aM 4 sc_way_put.nd) (aD (eC (jm (fO kf (hr.mono (by decide)) (al (ag 0) (al (ag 1) (al (ag 2) (al (ag 4) aC)))))) (aD (bu (ag 4))) cf)))
  (aD (bu i5)))))
theorem kB:FnScope ["marks","row","column"] ["marks","row","column"] (aq ce):=⟨rfl,rfl,rfl,by decide+kernel,rfl,by decide+kernel,by decide+kernel⟩
def kJ:FS:=
 aX (aj bH (aa (aV 2 (vy (af 0)) (gT 2 (gO (gN 3) (gO (gN 4) (lU)))) (be (ai ge (af 3) (af 2))) (oH (be (ai kG (af 4) (af 1))) (ai bS (af 4) (ao (.int 1))) (af 4))) (ah)))
def dP:List D->Option D:=iw .s 3 kJ
theorem kO(B:Bt mg)(F:Df K mg "rows_joined" ce ["marks","row","column"])(ET:Et K mg kx0 kx1 kx2 kx3 kx4 kx5 kx6 kx7 kx8 kx9):Cl P w K mg base 1 "rows_joined" ["marks","row","column"] (gV K .s 3 dP):=by
 refine dm (k:=0) F kB (by decide) rfl λ_ cdv A outer s H hid E hr=>?_
 exact(aD (bu (bV bx dh B.b_tuple (aI (fo (N':=["marks","row","column","at","mark"]) rfl (yj (jJ (fD (Nat.le_of_ble_eq_true rfl)) (jJ (fD (Nat.le_of_ble_eq_true rfl)) rW))) (DIp.b (uM (ag 0) B.b_enumerate)) (λ_ _ _ _=>(jD (n:=2) rfl (cQ (aM 3 Ac) (cQ (aM 4 Ac) jB)))) (λ_ _ _ _=>(qM (bT (gE hr.units) jq (ag 3) (ag 2) (bj _)))) (λ_ _ _ _=>(qe (by decide) (bT lK fH (ag 4) (ag 1) (bj _)) (du (ag 4) ak) (ag 4)))) aY) (hv:=by kernel_rfl))))
theorem sc_corner_taken:FnScope ["square","c","r","way","rings","crosses","full_column"] ["square","c","r"] (aq bN):=⟨rfl,rfl,rfl,by decide+kernel,rfl,by decide+kernel,by decide+kernel⟩
def jX:FX:=
 kI (sj (aT 3 (aj (nF 3 iZ) (aa (af 0) (aa (af 1) (aa (af 2) (ah)))))))
 (kI (vd (be (ai (AZ false) (af 3) (ao .non))) (vS ⟨"NoMove",0⟩ (aa (ao (.str "there is no corner to be taken out")) (ah))) (sj skip))
 (sj (ay (dv (gT 2 (gO (gN 4) (gO (gN 5) (lU)))) (pu (af 0)))
 (ay (aT 6 (ai aK (aj (nF 3 cs) (aa (af 1) (aa (af 2) (aa (af 3) (ah))))) (ao (.int 2))))
 (aX (di (aa (aj (nF 3 dP) (aa (af 4) (aa (af 2) (aa (af 6) (ah))))) (aa (aj (nF 3 dP) (aa (af 5) (aa (af 2) (aa (af 6) (ah))))) (ah)))))))))
def cD:List D->Option (Except Ex D):=xh .s 7 jX
theorem jW(B:Bt mg)(F:Df K mg "corner_taken" bN ["square","c","r"])(ET:Et K mg kx0 kx1 kx2 kx3 kx4 kx5 kx6 kx7 kx8 kx9)(jk:Cl P w K mg base 3 "way_put" ["square","c","r"] (gV K .s 3 iZ))(bW:Cl P w K mg base 1 "free_and_full" ["c","r","way"] (gV K .s 3 cs))(dU:Cl P w K mg base 1 "rows_joined" ["marks","row","column"] (gV K .s 3 dP)):ClX P w K mg base 4 "corner_taken" ["square","c","r"] (AN K .s 3 cD):=by
 refine u0 (k:=3) F sc_corner_taken (by decide) rfl λ_ cdv A outer s H hid E hr=>?_
 exact(lv (uJ (bn 3 sc_corner_taken.nd (fO jk (hr.mono (by decide)) (al (ag 0) (al (ag 1) (al (ag 2) aC))))))
  (lv (yd (DT.nox (bT AF (AG false) (ag 3) i5 (bj _))) (oq (rR (n:=0) (ET.t.row _ (List.Mem.tail _ (List.Mem.tail _ (List.Mem.head _)))).mg (ET.t.row _ (List.Mem.tail _ (List.Mem.tail _ (List.Mem.head _)))).ns ET.o_NoMove hr.hd (DA.nox (al tF aC)))) tI)
  (rF (am (pN (DP.ef (ag 0)) (jD (n:=2) rfl (cQ (aM 4 sc_corner_taken.nd) (cQ (aM 5 sc_corner_taken.nd) jB))))
  (am (bn 6 sc_corner_taken.nd (aP aE aO (fO bW (hr.mono (by decide)) (al (ag 1) (al (ag 2) (al (ag 3) aC)))) ak (λ_ _=>rfl)))
  (aD (bu (fX (al (fO dU (hr.mono (by decide)) (al (ag 4) (al (ag 2) (al (ag 6) aC)))) (al (fO dU (hr.mono (by decide)) (al (ag 5) (al (ag 2) (al (ag 6) aC)))) aC))))))))))
theorem nJ:FnScope ["_law_script","_law_k"] ["_law_script","_law_k"] (aq cT):=⟨rfl,rfl,rfl,by decide+kernel,rfl,by decide+kernel,by decide+kernel⟩
def pW:FS:=
 ay (dQ (be (ai zF (af 1) (aj cb (aa (af 0) (ah))))) (aX (ai aK (af 0) (af 1))) (skip))
 (aX (ao (.int 0)))
def ip:List D->Option D:=iw .s 2 pW
theorem pc(B:Bt mg)(F:Df K mg "_law_cell" cT ["_law_script","_law_k"])(ET:Et K mg kx0 kx1 kx2 kx3 kx4 kx5 kx6 kx7 kx8 kx9):Cl P w K mg base 1 "_law_cell" ["_law_script","_law_k"] (gV K .s 2 ip):=by
 refine dm (k:=0) F nJ (by decide) rfl λ_ cdv A outer s H hid E hr=>?_
 exact(am (eC (bT xx fH (ag 1) (bh bb em B.b_len (aI (ag 0) aY) (hv:=by kernel_rfl)) (bj _)) (aD (bu (aP aE aO (ag 0) (ag 1) (λ_ _=>rfl)))) cf)
  (aD (bu ak)))
theorem sc_law_bag:FnScope ["_law_script","_law_at","_law_cell_here","_law_mix","_law_k"] ["_law_script","_law_at"] (aq dC):=⟨rfl,rfl,rfl,by decide+kernel,rfl,by decide+kernel,by decide+kernel⟩
def rT:FS:=
 ay (aT 2 (ai ba (aj nU (aa (aj (nF 2 ip) (aa (af 0) (aa (af 1) (ah)))) (ah))) (ai cA (ai cA (ai cE (ao (.int 10)) (ao (.int 60))) (ai cE (ao (.int 10)) (ao (.int 60)))) (ai cE (ao (.int 10)) (ao (.int 60))))))
 (ay (dQ (be (ai A4 (af 2) (ai cE (ao (.int 10)) (ao (.int 18))))) (aX (fh (aa (af 2) (aa (ao (.int 0)) (ah))))) (skip))
 (ay (aT 3 (ai ba (ai aL (ai aL (af 2) (ai cA (ao (.int 7919)) (af 1))) (ao (.int 17))) (ao (.int 2147483647))))
 (ay (cY (bZ (aW (aa (aj eW (aa (aj cb (aa (af 0) (ah))) (aa (ao (.int 9)) (ah)))) (ah)))) (gN 4) (aT 3 (ai ba (ai aL (ai aL (ai cE (af 3) (ao (.int 5))) (ai ba (ai aK (af 0) (af 4)) (ao (.int 2147483629)))) (ai cA (ao (.int 31)) (af 4))) (ao (.int 2147483647)))))
 (aX (fh (aa (af 3) (aa (ao (.int 1)) (ah))))))))
def gL:List D->Option D:=iw .n 5 rT
theorem sk(B:Bt mg)(F:Df K mg "_law_bag" dC ["_law_script","_law_at"])(ET:Et K mg kx0 kx1 kx2 kx3 kx4 kx5 kx6 kx7 kx8 kx9)(il:Cl P w K mg base 1 "_law_cell" ["_law_script","_law_k"] (gV K .s 2 ip)):Cl P w K mg base 2 "_law_bag" ["_law_script","_law_at"] (gV K .n 2 gL):=by
 refine dm (k:=1) F sc_law_bag (by decide) rfl λ_ cdv A outer s H hid E hr=>?_
 exact(am (bn 2 sc_law_bag.nd (cP (bh uD yV B.b_abs (aI (fO il (hr.mono (by decide)) (al (ag 0) (al (ag 1) aC))) aY) (hv:=by kernel_rfl)) (gv (gv (gq ak ak) (gq ak ak)) (gq ak ak))))
  (am (eC (bT zM fH (ag 2) (gq ak ak) (bj _)) (aD (bu (jN (al (ag 2) (al ak aC))))) cf)
  (am (bn 3 sc_law_bag.nd (cP (bJ (bJ (ag 2) (gv ak (ag 1))) ak) ak))
  (am (fE PassesOwn.never rfl (DIp.e (bz B.b_range (al (bh (iR rfl) mT B.b_min (aI (bh bb em B.b_len (aI (ag 0) aY) (hv:=by kernel_rfl)) (aI ak aY)) (hv:=by kernel_rfl)) aC))) (aM 4 sc_law_bag.nd) (aD (bn 3 sc_law_bag.nd (cP (bJ (bJ (gq (ag 3) ak) (cP (aP aE aO (ag 0) (ag 4) (λ_ _=>rfl)) ak)) (gv ak (ag 4))) ak))))
  (aD (bu (jN (al (ag 3) (al ak aC)))))))))
theorem sc_law_take:FnScope ["_law_bag_here","_law_many","_law_digit"] ["_law_bag_here","_law_many"] (aq cU):=⟨rfl,rfl,rfl,by decide+kernel,rfl,by decide+kernel,by decide+kernel⟩
def pR:FS:=
 ay (dQ (be (ai fF (ai aK (eD 0) (ao (.int 1))) (ao (.int 0)))) (ay (aT 2 (ai ba (ai aK (eD 0) (ao (.int 0))) (af 1)))
 (ay (dv (cN 0 (ao (.int 0))) (pu (ai da (ai aK (eD 0) (ao (.int 0))) (af 1))))
 (aX (af 2)))) (skip))
 (ay (dv (cN 0 (ao (.int 0))) (pu (ai ba (ai aL (ai aL (ai cE (ai aK (eD 0) (ao (.int 0))) (ao (.int 5))) (ai cA (ao (.int 48271)) (ai aK (eD 0) (ao (.int 1))))) (ao (.int 11))) (ao (.int 2147483647)))))
 (ay (dv (cN 0 (ao (.int 1))) (pu (ai aL (ai aK (eD 0) (ao (.int 1))) (ao (.int 1)))))
 (aX (ai ba (ai da (ai ba (ai cA (ai aK (eD 0) (ao (.int 0))) (ao (.int 69621))) (ao (.int 2147483629))) (ao (.int 8))) (af 1)))))
def aJ:List D->List D->Option (D×List D):=oK .s 3 pR
theorem pQ(B:Bt mg)(F:Df K mg "_law_take" cU ["_law_bag_here","_law_many"])(ET:Et K mg kx0 kx1 kx2 kx3 kx4 kx5 kx6 kx7 kx8 kx9):Cl P w K mg base 1 "_law_take" ["_law_bag_here","_law_many"] (oI K .s 1 aJ):=by
 refine mM (k:=0) F sc_law_take (by decide) rfl λ_ cdv A outer s H hid a E hr=>?_
 exact(am (eC (bT (eT hr.units) gm (aP aE aO (fm 0) ak (λ_ _=>rfl)) ak (bj _)) (am (bn 2 sc_law_take.nd (cP (aP aE aO (fm 0) ak (λ_ _=>rfl)) (ag 1)))
  (am (jS (DP.ef (iz (aP aE aO (fm 0) ak (λ_ _=>rfl)) (ag 1))) (gJ 0 ak))
  (aD (bu (ag 2))))) cf)
  (am (jS (DP.ef (cP (bJ (bJ (gq (aP aE aO (fm 0) ak (λ_ _=>rfl)) ak) (gv ak (aP aE aO (fm 0) ak (λ_ _=>rfl)))) ak) ak)) (gJ 0 ak))
  (am (jS (DP.ef (bJ (aP aE aO (fm 0) ak (λ_ _=>rfl)) ak)) (gJ 0 ak))
  (aD (bu (cP (iz (cP (gv (aP aE aO (fm 0) ak (λ_ _=>rfl)) ak) ak) ak) (ag 1)))))))
theorem sc_law_order:FnScope ["_law_bag_here","_law_n","_law_left","_law_found"] ["_law_bag_here","_law_n"] (aq cH):=⟨rfl,rfl,rfl,by decide+kernel,rfl,by decide+kernel,by decide+kernel⟩
def nY:FS:=
 ay (fj 2 (kH (af 1)))
 (ay (fj 3 (fh (ah)))
 (ay (sI (be (ai ge (eD 2) (fh (ah)))) (kY (aN 3 1 nS (cB (aN 2 1 kQ (cB (aN 0 1 aJ (bZ (aa (aj cb (aa (eD 2) (ah))) (ah)))) (bZ (ah)))) (bZ (ah))))) 16)
 (va 3)))
def fz:List D->List D->Option (D×List D):=oK .n 4 nY
theorem oh(B:Bt mg)(F:Df K mg "_law_order" cH ["_law_bag_here","_law_n"])(ET:Et K mg kx0 kx1 kx2 kx3 kx4 kx5 kx6 kx7 kx8 kx9)(aR:Cl P w K mg base 1 "_law_take" ["_law_bag_here","_law_many"] (oI K .s 1 aJ)):Cl P w K mg base 2 "_law_order" ["_law_bag_here","_law_n"] (oI K .n 1 fz):=by
 refine mM (k:=1) F sc_law_order (by decide) rfl λ_ cdv A outer s H hid a E hr=>?_
 exact(am (mV 2 sc_law_order.nd (fB rfl B.b_list B.b_range (ag 1)))
  (am (mV 3 sc_law_order.nd (jN aC))
  (am (vc 16 PassesOwn.never (bT (gE hr.units) jq (fm 2) (jN aC) (bj _)) (aD (vF (qP 3 rJ iP PySem.F.slot_list_append PySem.F.type_list_append (fA (qP 2 yT uH PySem.F.slot_list_pop PySem.F.type_list_pop (fA (eS 0 aR (hr.mono (by decide)) (DA.gf (al (bh bb em B.b_len (aI (fm 2) aY) (hv:=by kernel_rfl)) aC))) (DA.gf aC))) (DA.gf aC))))))
  (aD (wJ 3)))))
theorem sc_law_square:FnScope ["_law_bag_here","_law_n","_law_plain","_law_by","_law_rings","_law_crosses","_law_c","_law_d"] ["_law_bag_here","_law_n"] (aq cj):=⟨rfl,rfl,rfl,by decide+kernel,rfl,by decide+kernel,by decide+kernel⟩
def lT:FS:=
 ay (eo 2 (aN 0 1 aJ (bZ (aa (ao (.int 4)) (ah)))))
 (ay (eo 3 (hZ aL (pu (ao (.int 1))) (aN 0 1 aJ (bZ (aa (ai bS (af 1) (ao (.int 1))) (ah))))))
 (ay (eo 4 (aN 0 1 fz (bZ (aa (af 1) (ah)))))
 (ay (pA 5 (aN 0 1 fz (bZ (aa (af 1) (ah)))))
 (ay (dQ (be (ai fF (af 2) (ao (.int 1)))) (ay (aT 4 (kH (af 1)))
 (fj 5 (aV 1 (fL (af 4)) (gN 8) (cx) (ai ba (ai aL (af 8) (af 3)) (af 1))))) (skip))
 (ay (cY (bZ (aW (aa (af 1) (ah)))) (gN 6) (ay (aT 7 (ai ba (ai aL (af 6) (ao (.int 1))) (af 1)))
 (dQ (be (ai fF (ai aK (eD 5) (af 6)) (ai aK (af 4) (af 6)))) (dv (gT 2 (gO (cN 5 (af 6)) (gO (cN 5 (af 7)) (lU)))) (pu (di (aa (ai aK (eD 5) (af 7)) (aa (ai aK (eD 5) (af 6)) (ah)))))) (skip))))
 (aX (di (aa (aj bH (aa (af 4) (ah))) (aa (aj bH (aa (eD 5) (ah))) (ah))))))))))
def cK:List D->List D->Option (D×List D):=oK .s 8 lT
theorem mz(B:Bt mg)(F:Df K mg "_law_square" cj ["_law_bag_here","_law_n"])(ET:Et K mg kx0 kx1 kx2 kx3 kx4 kx5 kx6 kx7 kx8 kx9)(aR:Cl P w K mg base 1 "_law_take" ["_law_bag_here","_law_many"] (oI K .s 1 aJ))(fx:Cl P w K mg base 2 "_law_order" ["_law_bag_here","_law_n"] (oI K .n 1 fz)):Cl P w K mg base 3 "_law_square" ["_law_bag_here","_law_n"] (oI K .s 1 cK):=by
 refine mM (k:=2) F sc_law_square (by decide) rfl λ_ cdv A outer s H hid a E hr=>?_
 exact(am (eJ 2 sc_law_square.nd (eS 0 aR (hr.mono (by decide)) (DA.gf (al ak aC))))
  (am (eJ 3 sc_law_square.nd (mj (DP.ef ak) (eS 0 aR (hr.mono (by decide)) (DA.gf (al (du (ag 1) ak) aC)))))
  (am (eJ 4 sc_law_square.nd (DE.toS (eS 0 fx (hr.mono (by decide)) (DA.gf (al (ag 1) aC)))))
  (am (wS 5 sc_law_square.nd (eS 0 fx (hr.mono (by decide)) (DA.gf (al (ag 1) aC))))
  (am (eC (bT (eT hr.units) gm (ag 2) ak (bj _)) (am (bn 4 sc_law_square.nd (DP.toS (fB rfl B.b_list B.b_range (ag 1))))
  (aD (qQ 5 (N':=["_law_bag_here","_law_n","_law_plain","_law_by","_law_rings","_law_crosses","_law_c","_law_d","_law_row"]) rfl sc_law_square.nd (fD (Nat.le_of_ble_eq_true rfl)) (DIp.b (iG (ag 4))) (λ_ _ _ _=>(aM 8 Bg)) (λ_ _ _ _=>fq) (λ_ _ _ _=>(cP (bJ (ag 8) (ag 3)) (ag 1)))))) cf)
  (am (fE PassesOwn.never rfl (DIp.e (bz B.b_range (al (ag 1) aC))) (aM 6 sc_law_square.nd) (am (bn 7 sc_law_square.nd (cP (bJ (ag 6) ak) (ag 1)))
  (aD (eC (bT (eT hr.units) gm (aP aE aO (fm 5) (ag 6) (λ_ _=>rfl)) (aP aE aO (ag 4) (ag 6) (λ_ _=>rfl)) (bj _)) (aD (jS (DP.ef (fX (al (aP aE aO (fm 5) (ag 7) (λ_ _=>rfl)) (al (aP aE aO (fm 5) (ag 6) (λ_ _=>rfl)) aC)))) (vx (n:=2) rfl (oe (gJ 5 (ag 6)) (oe (gJ 5 (ag 7)) wA))))) cf))))
  (aD (bu (fX (al (bV bx dh B.b_tuple (aI (ag 4) aY) (hv:=by kernel_rfl)) (al (bV bx dh B.b_tuple (aI (fm 5) aY) (hv:=by kernel_rfl)) aC)))))))))))
theorem sc_law_put:FnScope ["_law_square_here","_law_c","_law_way","_law_n","_law_r","_law_empty","_law_marks","_law_which","_law_column","_law_row","_law_here","_law_across"] ["_law_square_here","_law_c","_law_way"] (aq dO):=⟨rfl,rfl,rfl,by decide+kernel,rfl,by decide+kernel,by decide+kernel⟩
def rS:FS:=
 ay (aT 3 (aj cb (aa (ai aK (af 0) (ao (.int 0))) (ah))))
 (ay (aT 4 (ai aK (ai aK (af 0) (ao (.int 1))) (af 1)))
 (ay (aT 5 (di (aa (ai aL (af 1) (ai ba (af 2) (ao (.int 2)))) (aa (ai aL (af 4) (ai da (af 2) (ao (.int 2)))) (ah)))))
 (ay (w6 6)
 (ay (cY (bZ (aW (aa (ao (.int 2)) (ah)))) (gN 7) (cY (bZ (aW (aa (af 3) (ah)))) (gN 8) (ay (aT 9 (ai aK (ai aK (af 0) (af 7)) (af 8)))
 (dQ (ky (be (ai fF (af 7) (ao (.int 0)))) (be (ai ge (af 8) (af 1)))) (ay (aT 10 (oH (be (ai fF (af 8) (af 1))) (ai aK (af 5) (ao (.int 0))) (ai aL (af 8) (aj gU (aa (ai kG (af 8) (af 1)) (ah))))))
 (dA 6 (af 7) (af 10) (oH (be (ai fF (af 9) (af 4))) (ai aK (af 5) (ao (.int 1))) (ai aL (af 9) (aj gU (aa (ai kG (af 9) (af 4)) (ah))))))) (skip)))))
 (ay (aT 11 (di (aa (ai bS (ai aL (ai cA (ao (.int 2)) (af 1)) (ao (.int 1))) (ai aK (af 5) (ao (.int 0)))) (aa (ai bS (ai aL (ai cA (ao (.int 2)) (af 4)) (ao (.int 1))) (ai aK (af 5) (ao (.int 1)))) (ah)))))
 (ay (dA 6 (ao (.int 0)) (ai aK (af 11) (ao (.int 0))) (ai aK (af 11) (ao (.int 1))))
 (ay (dA 6 (ao (.int 1)) (ai aK (af 5) (ao (.int 0))) (ai aK (af 11) (ao (.int 1))))
 (ay (dA 6 (ao (.int 1)) (ai aK (af 11) (ao (.int 0))) (ai aK (af 5) (ao (.int 1))))
 (sH 6 (aX (aj bH (aa (aV 1 (lm 6) (gR 12) (cx) (aj bH (aa (aV 1 (aW (aa (ai aL (af 3) (ao (.int 1))) (ah))) (gN 13) (cx) (rL 12 (af 13))) (ah)))) (ah)))))))))))))
def bU:List D->Option D:=iw .s 12 rS
theorem sE(B:Bt mg)(F:Df K mg "_law_put" dO ["_law_square_here","_law_c","_law_way"])(ET:Et K mg kx0 kx1 kx2 kx3 kx4 kx5 kx6 kx7 kx8 kx9):Cl P w K mg base 1 "_law_put" ["_law_square_here","_law_c","_law_way"] (gV K .s 3 bU):=by
 refine dm (k:=0) F sc_law_put (by decide) rfl λ_ cdv A outer s H hid E hr=>?_
 exact(am (bn 3 sc_law_put.nd (bh bb em B.b_len (aI (aP aE aO (ag 0) ak (λ_ _=>rfl)) aY) (hv:=by kernel_rfl)))
  (am (bn 4 sc_law_put.nd (aP aE aO (aP aE aO (ag 0) ak (λ_ _=>rfl)) (ag 1) (λ_ _=>rfl)))
  (am (bn 5 sc_law_put.nd (fX (al (bJ (ag 1) (cP (ag 2) ak)) (al (bJ (ag 4) (iz (ag 2) ak)) aC))))
  (am (zn 6 sc_law_put.nd)
  (am (fE PassesOwn.never rfl (DIp.e (bz B.b_range (al ak aC))) (aM 7 sc_law_put.nd) (aD (fE PassesOwn.never rfl (DIp.e (bz B.b_range (al (ag 3) aC))) (aM 8 sc_law_put.nd) (am (bn 9 sc_law_put.nd (aP aE aO (aP aE aO (ag 0) (ag 7) (λ_ _=>rfl)) (ag 8) (λ_ _=>rfl)))
  (aD (eC (DW.dt (ln (bT (eT hr.units) gm (ag 7) ak (bj _)) (j3 (bT (gE hr.units) jq (ag 8) (ag 1) (bj _))))) (am (bn 10 sc_law_put.nd (qe (by decide) (bT (eT hr.units) gm (ag 8) (ag 1) (bj _)) (aP aE aO (ag 5) ak (λ_ _=>rfl)) (bJ (ag 8) (bV iQ oO B.b_int (aI (ie lK fH (ag 8) (ag 1) (bj _)) aY) (hv:=by kernel_rfl)))))
  (aD (iF 6 (kS hr) (ag 7) (ag 10) (qe (by decide) (bT (eT hr.units) gm (ag 9) (ag 4) (bj _)) (aP aE aO (ag 5) ak (λ_ _=>rfl)) (bJ (ag 9) (bV iQ oO B.b_int (aI (ie lK fH (ag 9) (ag 4) (bj _)) aY) (hv:=by kernel_rfl))))))) cf))))))
  (am (bn 11 sc_law_put.nd (fX (al (du (bJ (gv ak (ag 1)) ak) (aP aE aO (ag 5) ak (λ_ _=>rfl))) (al (du (bJ (gv ak (ag 4)) ak) (aP aE aO (ag 5) ak (λ_ _=>rfl))) aC))))
  (am (iF 6 (kS hr) ak (aP aE aO (ag 11) ak (λ_ _=>rfl)) (aP aE aO (ag 11) ak (λ_ _=>rfl)))
  (am (iF 6 (kS hr) ak (aP aE aO (ag 5) ak (λ_ _=>rfl)) (aP aE aO (ag 11) ak (λ_ _=>rfl)))
  (am (iF 6 (kS hr) ak (aP aE aO (ag 11) ak (λ_ _=>rfl)) (aP aE aO (ag 5) ak (λ_ _=>rfl)))
  (aD (yI 6 (bu (bV bx dh B.b_tuple (aI (fo (N':=["_law_square_here","_law_c","_law_way","_law_n","_law_r","_law_empty","_law_marks","_law_which","_law_column","_law_row","_law_here","_law_across","_law_some"]) rfl (yk (Nat.le_of_ble_eq_true rfl)) (wl 6) (λ_ _ _ _=>(xZ 12 Bd)) (λ_ _ _ _=>fq) (λ_ _ _ _=>(bV bx dh B.b_tuple (aI (fo (N':=["_law_square_here","_law_c","_law_way","_law_n","_law_r","_law_empty","_law_marks","_law_which","?_law_column","_law_row","_law_here","_law_across","_law_some","_law_column"]) rfl (fD (Nat.le_of_ble_eq_true rfl)) (DIp.b (bz B.b_range (al (bJ (ag 3) ak) aC))) (λ_ _ _ _=>(aM 13 BP)) (λ_ _ _ _=>fq) (λ_ _ _ _=>(we 12 (kS hr) (ag 13) (λ_ _=>rfl)))) aY) (hv:=by kernel_rfl)))) aY) (hv:=by kernel_rfl))))))))))))))
theorem mJ:FnScope ["_law_e"] ["_law_e"] (aq cF):=⟨rfl,rfl,rfl,by decide+kernel,rfl,by decide+kernel,by decide+kernel⟩
def n9:FS:=
 aX (oM (ky (be (oQ 0 Am ["NoSquare","NoPart","NotOne","NoPaper","NoText","NoRow","NoStep"])) (be (oM (gz (be (yR 0 Am)))))))
def ft:Ex->Option D:=BN 1 n9
theorem ol(B:Bt mg)(F:Df K mg "_law_other" cF ["_law_e"])(ET:Et K mg kx0 kx1 kx2 kx3 kx4 kx5 kx6 kx7 kx8 kx9):ClU P w K mg base 1 "_law_other" ["_law_e"] (AI K .s ft):=by
 refine wZ (k:=0) F mJ λ_ cdv A outer s H hid E hr=>?_
 exact(aD (bu (Ah (wG ET.t 0 (qs:=[("NoSquare",kx1),("NoPart",kx4),("NotOne",kx5),("NoPaper",kx6),("NoText",kx7),("NoRow",kx8),("NoStep",kx9)]) rfl (mem_cons (List.Mem.tail _ (List.Mem.head _)) (mem_cons (List.Mem.tail _ (List.Mem.tail _ (List.Mem.tail _ (List.Mem.tail _ (List.Mem.head _))))) (mem_cons (List.Mem.tail _ (List.Mem.tail _ (List.Mem.tail _ (List.Mem.tail _ (List.Mem.tail _ (List.Mem.head _)))))) (mem_cons (List.Mem.tail _ (List.Mem.tail _ (List.Mem.tail _ (List.Mem.tail _ (List.Mem.tail _ (List.Mem.tail _ (List.Mem.head _))))))) (mem_cons (List.Mem.tail _ (List.Mem.tail _ (List.Mem.tail _ (List.Mem.tail _ (List.Mem.tail _ (List.Mem.tail _ (List.Mem.tail _ (List.Mem.head _)))))))) (mem_cons (List.Mem.tail _ (List.Mem.tail _ (List.Mem.tail _ (List.Mem.tail _ (List.Mem.tail _ (List.Mem.tail _ (List.Mem.tail _ (List.Mem.tail _ (List.Mem.head _))))))))) (mem_cons (List.Mem.tail _ (List.Mem.tail _ (List.Mem.tail _ (List.Mem.tail _ (List.Mem.tail _ (List.Mem.tail _ (List.Mem.tail _ (List.Mem.tail _ (List.Mem.tail _ (List.Mem.head _)))))))))) (wb)))))))) (eV (ET.t.row _ (List.Mem.tail _ (List.Mem.head _))).mg (eV (ET.t.row _ (List.Mem.tail _ (List.Mem.tail _ (List.Mem.tail _ (List.Mem.tail _ (List.Mem.head _)))))).mg (eV (ET.t.row _ (List.Mem.tail _ (List.Mem.tail _ (List.Mem.tail _ (List.Mem.tail _ (List.Mem.tail _ (List.Mem.head _))))))).mg (eV (ET.t.row _ (List.Mem.tail _ (List.Mem.tail _ (List.Mem.tail _ (List.Mem.tail _ (List.Mem.tail _ (List.Mem.tail _ (List.Mem.head _)))))))).mg (eV (ET.t.row _ (List.Mem.tail _ (List.Mem.tail _ (List.Mem.tail _ (List.Mem.tail _ (List.Mem.tail _ (List.Mem.tail _ (List.Mem.tail _ (List.Mem.head _))))))))).mg (eV (ET.t.row _ (List.Mem.tail _ (List.Mem.tail _ (List.Mem.tail _ (List.Mem.tail _ (List.Mem.tail _ (List.Mem.tail _ (List.Mem.tail _ (List.Mem.tail _ (List.Mem.head _)))))))))).mg (eV (ET.t.row _ (List.Mem.tail _ (List.Mem.tail _ (List.Mem.tail _ (List.Mem.tail _ (List.Mem.tail _ (List.Mem.tail _ (List.Mem.tail _ (List.Mem.tail _ (List.Mem.tail _ (List.Mem.head _))))))))))).mg vU))))))) (Nat.le_of_ble_eq_true rfl) B.b_isinstance) (tO (uv (wq ET.t 0 rfl B.b_isinstance B.b_ValueError))))))
theorem sc_law_less:FnScope ["_law_square_here","_law_c","_law_r","_law_way","_law_column","_law_row","_law_found","_law_which","_law_marks"] ["_law_square_here","_law_c","_law_r","_law_way"] (aq cW):=⟨rfl,rfl,rfl,by decide+kernel,rfl,by decide+kernel,by decide+kernel⟩
def pX:FS:=
 ay (aT 4 (ai bS (ai aL (af 1) (ao (.int 1))) (ai ba (af 3) (ao (.int 2)))))
 (ay (aT 5 (ai bS (ai aL (af 2) (ao (.int 1))) (ai da (af 3) (ao (.int 2)))))
 (ay (qb 6)
 (ay (cY (bZ (aW (aa (ao (.int 2)) (ah)))) (gN 7) (ay (fj 8 (aV 1 (aW (aa (aj cb (aa (ai aK (af 0) (ao (.int 0))) (ah))) (ah))) (gN 9) (be (ai ge (af 9) (af 4))) (ai aK (ai aK (af 0) (af 7)) (af 9))))
 (ay (dQ (be (ai fF (af 7) (ao (.int 1)))) (dv (cN 8 (af 1)) (pu (af 2))) (skip))
 (kX 6 (aV 1 (mR (eD 8)) (gN 9) (cx) (ai bS (af 9) (aj gU (aa (ai kG (af 9) (aj eW (aa (af 5) (aa (af 2) (ah))))) (ah)))))))))
 (ay (dA 6 (ao (.int 1)) (af 1) (af 2))
 (oF 6 (aX (di (aa (aj bH (aa (ai aK (af 6) (ao (.int 0))) (ah))) (aa (aj bH (aa (ai aK (af 6) (ao (.int 1))) (ah))) (ah))))))))))
def cZ:List D->Option D:=iw .s 9 pX
theorem pV(B:Bt mg)(F:Df K mg "_law_less" cW ["_law_square_here","_law_c","_law_r","_law_way"])(ET:Et K mg kx0 kx1 kx2 kx3 kx4 kx5 kx6 kx7 kx8 kx9):Cl P w K mg base 1 "_law_less" ["_law_square_here","_law_c","_law_r","_law_way"] (gV K .s 4 cZ):=by
 refine dm (k:=0) F sc_law_less (by decide) rfl λ_ cdv A outer s H hid E hr=>?_
 exact(am (bn 4 sc_law_less.nd (du (bJ (ag 1) ak) (cP (ag 3) ak)))
  (am (bn 5 sc_law_less.nd (du (bJ (ag 2) ak) (iz (ag 3) ak)))
  (am (vf 6 sc_law_less.nd)
  (am (fE PassesOwn.never rfl (DIp.e (bz B.b_range (al ak aC))) (aM 7 sc_law_less.nd) (am (qQ 8 (N':=["_law_square_here","_law_c","_law_r","_law_way","_law_column","_law_row","_law_found","_law_which","_law_marks","_law_other_here"]) rfl sc_law_less.nd (fD (Nat.le_of_ble_eq_true rfl)) (DIp.b (bz B.b_range (al (bh bb em B.b_len (aI (aP aE aO (ag 0) ak (λ_ _=>rfl)) aY) (hv:=by kernel_rfl)) aC))) (λ_ _ _ _=>(aM 9 zY)) (λ_ _ _ _=>(qM (bT (gE hr.units) jq (ag 9) (ag 4) (bj _)))) (λ_ _ _ _=>(aP aE aO (aP aE aO (ag 0) (ag 7) (λ_ _=>rfl)) (ag 9) (λ_ _=>rfl))))
  (am (eC (bT (eT hr.units) gm (ag 7) ak (bj _)) (aD (jS (DP.ef (ag 2)) (gJ 8 (ag 1)))) cf)
  (aD (vZ 6 PySem.F.slot_list_append PySem.F.type_list_append (fo (N':=["_law_square_here","_law_c","_law_r","_law_way","_law_column","_law_row","_law_found","_law_which","_law_marks","_law_other_here"]) rfl (fD (Nat.le_of_ble_eq_true rfl)) (tL (fm 8)) (λ_ _ _ _=>(aM 9 zY)) (λ_ _ _ _=>fq) (λ_ _ _ _=>(du (ag 9) (bV iQ oO B.b_int (aI (ie lK fH (ag 9) (bh (iR rfl) mT B.b_min (aI (ag 5) (aI (ag 2) aY)) (hv:=by kernel_rfl)) (bj _)) aY) (hv:=by kernel_rfl))))))))))
  (am (iF 6 (kS hr) ak (ag 1) (ag 2))
  (aD (wM 6 (bu (fX (al (bV bx dh B.b_tuple (aI (aP aE aO (ag 6) ak (λ_ _=>rfl)) aY) (hv:=by kernel_rfl)) (al (bV bx dh B.b_tuple (aI (aP aE aO (ag 6) ak (λ_ _=>rfl)) aY) (hv:=by kernel_rfl)) aC)))))))))))
theorem sc_law_is_square:FnScope ["_law_square_here","_law_n"] ["_law_square_here"] (aq bC):=⟨rfl,rfl,rfl,by decide+kernel,rfl,by decide+kernel,by decide+kernel⟩
def jx:FS:=
 ay (aT 1 (aj cb (aa (ai aK (af 0) (ao (.int 0))) (ah))))
 (ay (dQ (ky (fI (aj mq (aa (aV 1 (fL (af 0)) (gN 2) (cx) (ai ge (aj ck (aa (af 2) (ah))) (kH (af 1)))) (ah)))) (be (ai zF (af 1) (ao (.int 2))))) (aX (ao (.bl false))) (skip))
 (aX (oM (gz (be (aj mq (aa (aV 1 (aW (aa (af 1) (ah))) (gN 2) (cx) (ai fF (ai aK (ai aK (af 0) (ao (.int 0))) (af 2)) (ai aK (ai aK (af 0) (ao (.int 1))) (af 2)))) (ah))))))))
def bB:List D->Option D:=iw .s 2 jx
theorem jv(B:Bt mg)(F:Df K mg "_law_is_square" bC ["_law_square_here"])(ET:Et K mg kx0 kx1 kx2 kx3 kx4 kx5 kx6 kx7 kx8 kx9):Cl P w K mg base 1 "_law_is_square" ["_law_square_here"] (gV K .s 1 bB):=by
 refine dm (k:=0) F sc_law_is_square (by decide) rfl λ_ cdv A outer s H hid E hr=>?_
 exact(am (bn 1 sc_law_is_square.nd (bh bb em B.b_len (aI (aP aE aO (ag 0) ak (λ_ _=>rfl)) aY) (hv:=by kernel_rfl)))
  (am (eC (DW.dt (ln (jm (bh (nl rfl) uf B.b_any (aI (fo (N':=["_law_square_here","_law_n","_law_marks"]) rfl (fD (Nat.le_of_ble_eq_true rfl)) (DIp.b (iG (ag 0))) (λ_ _ _ _=>(aM 2 Bz)) (λ_ _ _ _=>fq) (λ_ _ _ _=>(ie (gE hr.units) jq (bh om rj B.b_sorted (aI (ag 2) aY) (hv:=by kernel_rfl)) (fB rfl B.b_list B.b_range (ag 1)) (bj _)))) aY) (hv:=by kernel_rfl))) (j3 (bT xx fH (ag 1) ak (bj _))))) (aD (bu qX)) cf)
  (aD (bu (uv (bh (nl rfl) uf B.b_any (aI (fo (N':=["_law_square_here","_law_n","_law_column"]) rfl (fD (Nat.le_of_ble_eq_true rfl)) (DIp.b (bz B.b_range (al (ag 1) aC))) (λ_ _ _ _=>(aM 2 Bc)) (λ_ _ _ _=>fq) (λ_ _ _ _=>(ie (eT hr.units) gm (aP aE aO (aP aE aO (ag 0) ak (λ_ _=>rfl)) (ag 2) (λ_ _=>rfl)) (aP aE aO (aP aE aO (ag 0) ak (λ_ _=>rfl)) (ag 2) (λ_ _=>rfl)) (bj _)))) aY) (hv:=by kernel_rfl)))))))
theorem sc_law_due:FnScope ["_law_square_here","_law_c","_law_r","_law_n","_law_way","_law_ahead"] ["_law_square_here","_law_c","_law_r"] (aq dD):=⟨rfl,rfl,rfl,by decide+kernel,rfl,by decide+kernel,by decide+kernel⟩
def iV:FS:=
 ay (aT 3 (aj cb (aa (ai aK (af 0) (ao (.int 0))) (ah))))
 (ay (dQ (ky (be (ai (nv true) (af 1) (ai bS (af 3) (ao (.int 1))))) (be (ai (nv true) (af 2) (ai bS (af 3) (ao (.int 1)))))) (aX (ao .non)) (skip))
 (ay (cY (bZ (aW (aa (ao (.int 4)) (ah)))) (gN 4) (ay (aT 5 (aj (nF 4 cZ) (aa (af 0) (aa (af 1) (aa (af 2) (aa (af 4) (ah)))))))
 (dQ (eE (fI (aj (nF 1 bB) (aa (af 5) (ah)))) (eE (be (ai fF (ai aK (ai aK (af 5) (ao (.int 1))) (af 1)) (af 2))) (be (ai fF (aj (nF 3 bU) (aa (af 5) (aa (af 1) (aa (af 4) (ah))))) (af 0))))) (aX (af 5)) (skip))))
 (aX (ao .non))))
def eM:List D->Option D:=iw .s 6 iV
theorem rh(B:Bt mg)(F:Df K mg "_law_due" dD ["_law_square_here","_law_c","_law_r"])(ET:Et K mg kx0 kx1 kx2 kx3 kx4 kx5 kx6 kx7 kx8 kx9)(ir:Cl P w K mg base 1 "_law_less" ["_law_square_here","_law_c","_law_r","_law_way"] (gV K .s 4 cZ))(en:Cl P w K mg base 1 "_law_is_square" ["_law_square_here"] (gV K .s 1 bB))(eL:Cl P w K mg base 1 "_law_put" ["_law_square_here","_law_c","_law_way"] (gV K .s 3 bU)):Cl P w K mg base 2 "_law_due" ["_law_square_here","_law_c","_law_r"] (gV K .s 3 eM):=by
 refine dm (k:=1) F sc_law_due (by decide) rfl λ_ cdv A outer s H hid E hr=>?_
 exact(am (bn 3 sc_law_due.nd (bh bb em B.b_len (aI (aP aE aO (ag 0) ak (λ_ _=>rfl)) aY) (hv:=by kernel_rfl)))
  (am (eC (DW.dt (ln (oz jo B.b_range (ag 1) (du (ag 3) ak) (by with_unfolding_all rfl)) (j3 (oz jo B.b_range (ag 2) (du (ag 3) ak) (by with_unfolding_all rfl))))) (aD (bu i5)) cf)
  (am (fE PassesOwn.never rfl (DIp.e (bz B.b_range (al ak aC))) (aM 4 sc_law_due.nd) (am (bn 5 sc_law_due.nd (fO ir (hr.mono (by decide)) (al (ag 0) (al (ag 1) (al (ag 2) (al (ag 4) aC))))))
  (aD (eC (DW.dt (uV (jm (fO en (hr.mono (by decide)) (al (ag 5) aC))) (uV (bT (eT hr.units) gm (aP aE aO (aP aE aO (ag 5) ak (λ_ _=>rfl)) (ag 1) (λ_ _=>rfl)) (ag 2) (bj _)) (vt (bT (eT hr.units) gm (fO eL (hr.mono (by decide)) (al (ag 5) (al (ag 1) (al (ag 4) aC)))) (ag 0) (bj _)))))) (aD (bu (ag 5))) cf))))
  (aD (bu i5)))))
theorem sc_law_told:FnScope ["_law_square_here","_law_c","_law_r","_law_e"] ["_law_square_here","_law_c","_law_r"] (aq cX):=⟨rfl,rfl,rfl,by decide+kernel,rfl,by decide+kernel,by decide+kernel⟩
def o7:FS:=
 pK 3 Am ["NoMove"] (pi (lL 3 cD (su (aa (af 0) (aa (af 1) (aa (af 2) (ah))))))) (aX (oH (ky (fI (xv 3 ft)) (ky (fI (oQ 3 Am ["TooMany"])) (gz (fI (oQ 3 Am ["RookError"]))))) (ao (.str "another")) (ao .non)))
def dJ:List D->Option D:=iw .s 4 o7
theorem pS(B:Bt mg)(F:Df K mg "_law_told" cX ["_law_square_here","_law_c","_law_r"])(ET:Et K mg kx0 kx1 kx2 kx3 kx4 kx5 kx6 kx7 kx8 kx9)(eY:ClX P w K mg base 4 "corner_taken" ["square","c","r"] (AN K .s 3 cD))(gG:ClU P w K mg base 1 "_law_other" ["_law_e"] (AI K .s ft)):Cl P w K mg base 5 "_law_told" ["_law_square_here","_law_c","_law_r"] (gV K .s 3 dJ):=by
 refine dm (k:=4) F sc_law_told (by decide) rfl λ_ cdv A outer s H hid E hr=>?_
 exact(aD (sU 3 sc_law_told.nd ⟨rfl,rfl⟩ (λ_ _=>(oq (v5 (AC eY (hr.mono (by decide)) (DA.rr (DA.nox (al (ag 0) (al (ag 1) (al (ag 2) aC))))))))) (vC ET.t rfl (List.Mem.tail _ (List.Mem.tail _ (List.Mem.head _)))) (λ_=>(aD (bu (qe (by decide) (DW.dt (ln (jm (xW 3 gG ((hr.u.mono (by decide)).mark _))) (ln (jm (qH ET.t 3 rfl (List.Mem.tail _ (List.Mem.tail _ (List.Mem.tail _ (List.Mem.head _)))) B.b_isinstance)) (j3 (pq (jm (qH ET.t 3 rfl (List.Mem.head _) B.b_isinstance))))))) tF i5))))))
theorem sc_law_drawn:FnScope ["_law_bag_here","_law_way","_law_by","_law_square_here","_law_n"] ["_law_bag_here"] (aq cG):=⟨rfl,rfl,rfl,by decide+kernel,rfl,by decide+kernel,by decide+kernel⟩
def fu:FS:=
 ay (eo 1 (aN 0 1 aJ (bZ (aa (ao (.int 16)) (ah)))))
 (ay (eo 2 (pZ (cB (aN 0 1 aJ (bZ (aa (ao (.int 6)) (ah)))) (cB (aN 0 1 aJ (bZ (aa (ao (.int 6)) (ah)))) (bZ (ah))))))
 (ay (dQ (be (ai kG (af 1) (ao (.int 11)))) (rg (aN 0 1 cK (cB (hZ aL (pu (ao (.int 2))) (aN 0 1 aJ (bZ (aa (ao (.int 5)) (ah))))) (bZ (ah))))) (skip))
 (ay (eo 3 (aN 0 1 cK (cB (hZ aL (pu (ao (.int 2))) (aN 0 1 aJ (bZ (aa (ao (.int 4)) (ah))))) (bZ (ah)))))
 (ay (eo 3 (jL (nF 3 bU) (cB (pu (af 3)) (cB (aN 0 1 aJ (bZ (aa (aj cb (aa (ai aK (af 3) (ao (.int 0))) (ah))) (ah)))) (bZ (aa (ai ba (af 1) (ao (.int 4))) (ah)))))))
 (ay (aT 4 (aj cb (aa (ai aK (af 3) (ao (.int 0))) (ah))))
 (ay (dQ (be (ai kG (af 1) (ao (.int 5)))) (aT 3 (aj bH (aa (aV 1 (fL (af 3)) (gN 5) (cx) (aj bH (aa (aV 1 (aW (aa (af 4) (ah))) (gN 6) (cx) (ai ba (ai aL (ai aK (af 5) (ai ba (ai bS (af 6) (ai aK (af 2) (ao (.int 0)))) (af 4))) (ai aK (af 2) (ao (.int 1)))) (af 4))) (ah)))) (ah)))) (skip))
 (aX (af 3))))))))
def eg:List D->List D->Option (D×List D):=oK .s 5 fu
theorem m9(B:Bt mg)(F:Df K mg "_law_drawn" cG ["_law_bag_here"])(ET:Et K mg kx0 kx1 kx2 kx3 kx4 kx5 kx6 kx7 kx8 kx9)(aR:Cl P w K mg base 1 "_law_take" ["_law_bag_here","_law_many"] (oI K .s 1 aJ))(eK:Cl P w K mg base 3 "_law_square" ["_law_bag_here","_law_n"] (oI K .s 1 cK))(eL:Cl P w K mg base 1 "_law_put" ["_law_square_here","_law_c","_law_way"] (gV K .s 3 bU)):Cl P w K mg base 4 "_law_drawn" ["_law_bag_here"] (oI K .s 0 eg):=by
 refine mM (k:=3) F sc_law_drawn (by decide) rfl λ_ cdv A outer s H hid a E hr=>?_
 exact(am (eJ 1 sc_law_drawn.nd (eS 0 aR (hr.mono (by decide)) (DA.gf (al ak aC))))
  (am (eJ 2 sc_law_drawn.nd (DE.toS (yw (fA (eS 0 aR (hr.mono (by decide)) (DA.gf (al ak aC))) (fA (eS 0 aR (hr.mono (by decide)) (DA.gf (al ak aC))) (DA.gf aC))))))
  (am (eC (bT lK fH (ag 1) ak (bj _)) (aD (vz (eS 0 eK (hr.mono (by decide)) (fA (mj (DP.ef ak) (eS 0 aR (hr.mono (by decide)) (DA.gf (al ak aC)))) (DA.gf aC))))) cf)
  (am (eJ 3 sc_law_drawn.nd (eS 0 eK (hr.mono (by decide)) (fA (mj (DP.ef ak) (eS 0 aR (hr.mono (by decide)) (DA.gf (al ak aC)))) (DA.gf aC))))
  (am (eJ 3 sc_law_drawn.nd (zt eL (hr.mono (by decide)) (fA (DP.ef (ag 3)) (fA (eS 0 aR (hr.mono (by decide)) (DA.gf (al (bh bb em B.b_len (aI (aP aE aO (ag 3) ak (λ_ _=>rfl)) aY) (hv:=by kernel_rfl)) aC))) (DA.gf (al (cP (ag 1) ak) aC))))))
  (am (bn 4 sc_law_drawn.nd (bh bb em B.b_len (aI (aP aE aO (ag 3) ak (λ_ _=>rfl)) aY) (hv:=by kernel_rfl)))
  (am (eC (bT lK fH (ag 1) ak (bj _)) (aD (bn 3 sc_law_drawn.nd (bV bx dh B.b_tuple (aI (fo (N':=["_law_bag_here","_law_way","_law_by","_law_square_here","_law_n","_law_marks"]) rfl (fD (Nat.le_of_ble_eq_true rfl)) (DIp.b (iG (ag 3))) (λ_ _ _ _=>(aM 5 BD)) (λ_ _ _ _=>fq) (λ_ _ _ _=>(bV bx dh B.b_tuple (aI (fo (N':=["_law_bag_here","_law_way","_law_by","_law_square_here","_law_n","_law_marks","_law_c"]) rfl (fD (Nat.le_of_ble_eq_true rfl)) (DIp.b (bz B.b_range (al (ag 4) aC))) (λ_ _ _ _=>(aM 6 Bi)) (λ_ _ _ _=>fq) (λ_ _ _ _=>(cP (bJ (aP aE aO (ag 5) (cP (du (ag 6) (aP aE aO (ag 2) ak (λ_ _=>rfl))) (ag 4)) (λ_ _=>rfl)) (aP aE aO (ag 2) ak (λ_ _=>rfl))) (ag 4)))) aY) (hv:=by kernel_rfl)))) aY) (hv:=by kernel_rfl)))) cf)
  (aD (bu (ag 3))))))))))
theorem sc_law:FnScope ["_law_script","_law_k","_law_bag_here","_law_square_here","_law_far","_law_places","_law_c","_law_r"] ["_law_script"] (aq gX):=⟨rfl,rfl,rfl,by decide+kernel,rfl,by decide+kernel,by decide+kernel⟩
def sZ:FS:=
 ay (cY (bZ (aW (aa (aj qd (aa (ao (.int 1)) (aa (aj eW (aa (ao (.int 6)) (aa (aj cb (aa (af 0) (ah))) (ah)))) (ah)))) (ah)))) (gN 1) (ay (fj 2 (aj (nF 2 gL) (aa (af 0) (aa (af 1) (ah)))))
 (ay (eo 3 (aN 2 0 eg (bZ (ah))))
 (ay (eo 4 (hZ aL (pu (ai cE (ao (.int 10)) (ao (.int 10)))) (aN 2 1 aJ (bZ (aa (ai cE (ao (.int 10)) (ao (.int 9))) (ah))))))
 (ay (aT 5 (ai nZ (AW (ut (ao (.int 2))) (ai aL (aj cb (aa (ai aK (af 3) (ao (.int 0))) (ah))) (ao (.int 2)))) (fh (aa (af 4) (aa (ai bS (ao (.int 0)) (af 4)) (ah))))))
 (cY (bZ (fL (af 5))) (gN 6) (cY (bZ (fL (af 5))) (gN 7) (dQ (be (ai ge (aj (nF 3 dJ) (aa (af 3) (aa (af 6) (aa (af 7) (ah))))) (aj (nF 3 eM) (aa (af 3) (aa (af 6) (aa (af 7) (ah))))))) (aX (ao (.bl false))) (skip)))))))))
 (aX (ao (.bl true)))
def xD:List D->Option D:=iw .s 8 sZ
theorem yU {f:Addr}{fd:FuncData}(B:Bt mg)(F:Fun K "law" "law" gX f fd)(ET:Et K mg kx0 kx1 kx2 kx3 kx4 kx5 kx6 kx7 kx8 kx9)(jd:Cl P w K mg base 2 "_law_bag" ["_law_script","_law_at"] (gV K .n 2 gL))(gD:Cl P w K mg base 4 "_law_drawn" ["_law_bag_here"] (oI K .s 0 eg))(aR:Cl P w K mg base 1 "_law_take" ["_law_bag_here","_law_many"] (oI K .s 1 aJ))(h8:Cl P w K mg base 5 "_law_told" ["_law_square_here","_law_c","_law_r"] (gV K .s 3 dJ))(i6:Cl P w K mg base 2 "_law_due" ["_law_square_here","_law_c","_law_r"] (gV K .s 3 eM)):FnOk P w K mg base lG 6 f fd ["_law_script"] (gV K .s 1 xD):=by
 refine qU (k:=5) F sc_law (by decide) λcdv A outer s H hid E hr=>?_
 exact(am (fE PassesOwn.never rfl (DIp.e (bz B.b_range (al (bh (rq rfl) vJ B.b_max (aI ak (aI (bh (iR rfl) mT B.b_min (aI ak (aI (bh bb em B.b_len (aI (ag 0) aY) (hv:=by kernel_rfl)) aY)) (hv:=by kernel_rfl)) aY)) (hv:=by kernel_rfl)) aC))) (aM 1 sc_law.nd) (am (mV 2 sc_law.nd (fO jd (hr.mono (by decide)) (al (ag 0) (al (ag 1) aC))))
  (am (eJ 3 sc_law.nd (eS 2 gD (hr.mono (by decide)) (DA.gf aC)))
  (am (eJ 4 sc_law.nd (mj (DP.ef (gq ak ak)) (eS 2 aR (hr.mono (by decide)) (DA.gf (al (gq ak ak) aC)))))
  (am (bn 5 sc_law.nd (DP.toS (vG (kK rfl B.b_list B.b_range (wP ak) (bJ (bh bb em B.b_len (aI (aP aE aO (ag 3) ak (λ_ _=>rfl)) aY) (hv:=by kernel_rfl)) ak)) (jN (al (ag 4) (al (du ak (ag 4)) aC))))))
  (aD (fE PassesOwn.never rfl (DIp.e (iG (ag 5))) (aM 6 sc_law.nd) (aD (fE PassesOwn.never rfl (DIp.e (iG (ag 5))) (aM 7 sc_law.nd) (aD (eC (bT (gE hr.units) jq (fO h8 (hr.mono (by decide)) (al (ag 3) (al (ag 6) (al (ag 7) aC)))) (fO i6 (hr.mono (by decide)) (al (ag 3) (al (ag 6) (al (ag 7) aC)))) (bj _)) (aD (bu qX)) cf)))))))))))
  (aD (bu qX)))
end
def gg(xs:List Nat)(k:Int):List Nat:=(List.range xs.length).map λ(i:Nat)=>xs.getD (((i:Int) -k) % xs.length).toNat 0
def gd(xs:List Nat)(k:Int):List Nat:=xs.map λ(v:Nat)=>(((v:Int)+k) % xs.length).toNat
theorem tD(xs:List Nat)(k:Int):(gg xs k).length=xs.length:=by simp[gg]
theorem uC(xs:List Nat)(k:Int):(gd xs k).length=xs.length:=by simp[gd]
theorem jQ(xs:List Nat)(k:Int){i:Nat}(h:i<xs.length):(gg xs k).getD i 0=xs.getD (((i:Int) -k) % xs.length).toNat 0:=by
 simp[gg,List.getD,h]
theorem t5(xs:List Nat)(k:Int){i:Nat}(h:i<xs.length):(gd xs k).getD i 0=((((xs.getD i 0:Nat):Int)+k) % xs.length).toNat:=by
 simp[gd,List.getD,h]
theorem nW {xs ys:List Nat}(hl:xs.length=ys.length)(h: ∀i,i<xs.length->xs.getD i 0=ys.getD i 0):xs=ys:=by
 refine List.ext_getElem hl λi h1 h2=>?_
 have:=h i h1
 simpa [List.getD,h1,h2] using this
theorem pB {n:Nat}(h:0<n)(a:Int):((List.range n).map λ(i:Nat)=>(((i:Int)+a) % n).toNat).Perm (List.range n):=by
 refine(List.perm_ext_iff_of_nodup ?_ List.nodup_range).mpr λj=>?_
 ·show List.Pairwise (·≠ ·) _
  rw[List.pairwise_map];refine List.Pairwise.imp_of_mem (λ{i j} hi hj hlt e=>?_) List.pairwise_lt_range
  rw[List.mem_range] at hi hj;have m1:=wF ((i:Int)+a) h
  have m2:=wF ((j:Int)+a) h
  have:((i:Int)+a) % n=((j:Int)+a) % n:=by omega
  rw[Int.emod_add_cancel_right,Int.emod_eq_of_lt (by omega) (by omega),Int.emod_eq_of_lt (by omega) (by omega)] at this
  omega
 ·rw[List.mem_map,List.mem_range]
  constructor
  ·rintro⟨i,_,rfl⟩;exact(wF _ h).1
  ·intro hj
   have m:=wF ((j:Int) -a) h
   refine⟨(((j:Int) -a) % n).toNat,by rw[List.mem_range];exact m.1,?_⟩
   rw[m.2,Int.emod_add_emod,show(j:Int) -a+a=j by omega,Int.emod_eq_of_lt (by omega) (by omega)]
   rfl
def xF(n:Nat)(k:Int)(v:Nat):Nat:=(((v:Int)+k) % n).toNat
structure Mv(n:Nat)(t:Nat->Nat):Prop where
 lt: ∀c,c<n->t c<n
 inj: ∀c d,c<n->d<n->t c=t d->c=d
 sur: ∀c,c<n-> ∃d,d<n/\t d=c
 inb: ∀s e v,s<n->e<n->v<n->Bl n (t s) (t e) (t v)=Bl n s e v
theorem xG(n:Nat):Mv n id:=⟨λ_ h=>h,λ_ _ _ _ h=>h,λc h=>⟨c,h,rfl⟩,λ_ _ _ _ _ _=>rfl⟩
theorem tR {n:Nat}(h:0<n)(k:Int):Mv n (xF n k):=by
 have cast: ∀v:Nat,((xF n k v:Nat):Int)=((v:Int)+k) % n:=λv=>(wF _ h).2
 have df: ∀u v:Nat,((xF n k u:Int) -xF n k v) % n=((u:Int) -v) % n:=λu v=>by
  rw[cast,cast,<-Int.sub_emod,show(u:Int)+k- (v+k)=u-v by omega]
 refine⟨λc _=>(wF _ h).1,λc d hc hd e=>?_,λc hc=>?_,λs e v _ _ _=>?_⟩
 ·have:=df c d
  rw[e,Int.sub_self,Int.zero_emod] at this;obtain⟨m,hm⟩:=Int.dvd_of_emod_eq_zero this.symm
  have:m=0:=by
   rcases Int.lt_trichotomy m 0 with q|q|q
   ·have:(n:Int)*m<=n*(-1):=Int.mul_le_mul_of_nonneg_left (by omega) (by omega)
    omega
   ·exact q
   ·have:(n:Int)*1<=n*m:=Int.mul_le_mul_of_nonneg_left (by omega) (by omega)
    omega
  rw[this] at hm;omega
 ·have:=(pB h k).mem_iff.mpr (List.mem_range.mpr hc)
  obtain⟨d,hd,e⟩:=List.mem_map.mp this
  exact⟨d,List.mem_range.mp hd,e⟩
 ·unfold Bl
  rw[df,df]
theorem yz {n:Nat}{o:List Nat}(hl:o.length=n)(lt: ∀c,c<n->o.getD c 0<n)(inj: ∀c d,c<n->d<n->o.getD c 0=o.getD d 0->c=d)(sur: ∀v,v<n-> ∃c,c<n/\o.getD c 0=v):Ord n o:=by
 refine⟨(List.perm_ext_iff_of_nodup ?_ List.nodup_range).mpr λv=>?_⟩
 ·rw[List.Nodup,List.pairwise_iff_getElem]
  intro i j hi hj ij e;have:=inj i j (by omega) (by omega) (by rw[List.getD_eq_getElem?_getD,List.getElem?_eq_getElem hi,List.getD_eq_getElem?_getD,List.getElem?_eq_getElem hj];exact e)
  omega
 ·rw[List.mem_range]
  constructor
  ·intro h
   obtain⟨i,hi,rfl⟩:=List.getElem_of_mem h
   have:=lt i (by omega)
   rw[List.getD_eq_getElem?_getD,List.getElem?_eq_getElem hi] at this;exact this
  ·intro h
   obtain⟨c,hc,e⟩:=sur v h
   rw[List.getD_eq_getElem?_getD,List.getElem?_eq_getElem (by omega)] at e
   have e:o[c]=v:=e
   exact e▸List.getElem_mem _
theorem yO {n:Nat}{o:List Nat}(hl:o.length=n)(h:0<n)(k:Int){c:Nat}(hc:c<n):(gg o k).getD (xF n k c) 0=o.getD c 0:=by
 rw[jQ o k (by rw[hl];exact(wF _ h).1),hl]
 have:(((xF n k c:Nat):Int) -k) % n=c:=by
  rw[show((xF n k c:Nat):Int)=((c:Int)+k) % n from(wF _ h).2,Int.sub_emod,Int.emod_emod,<-Int.sub_emod,show(c:Int)+k-k=c by omega]
  exact Int.emod_eq_of_lt (by omega) (by omega)
 rw[this];rfl
theorem pJ {n:Nat}{o:List Nat}(hl:o.length=n)(k:Int){c:Nat}(hc:c<n):(gd o k).getD c 0=xF n k (o.getD c 0):=by
 rw[t5 o k (by omega),hl];rfl
theorem Ord.mv {n:Nat}{o o':List Nat}{t u:Nat->Nat}(O:Ord n o)(T:Mv n t)(U:Mv n u)(hl:o'.length=n)(h: ∀c,c<n->o'.getD (t c) 0=u (o.getD c 0)):Ord n o':=by
 refine yz hl (λc hc=>?_) (λc d hc hd e=>?_) λv hv=>?_
 ·obtain⟨c',hc',rfl⟩:=T.sur c hc
  rw[h c' hc'];exact U.lt _ (O.get hc')
 ·obtain⟨c',hc',rfl⟩:=T.sur c hc
  obtain⟨d',hd',rfl⟩:=T.sur d hd
  rw[h c' hc',h d' hd'] at e;rw[O.inj hc' hd' (U.inj _ _ (O.get hc') (O.get hd') e)]
 ·obtain⟨w,hw,rfl⟩:=U.sur v hv
  obtain⟨c,hc,e⟩: ∃c,c<n/\o.getD c 0=w:=by
   obtain⟨i,hi,e⟩:=List.getElem_of_mem (O.has hw)
   exact⟨i,by rw[<-O.len];exact hi,by rw[List.getD_eq_getElem?_getD,List.getElem?_eq_getElem hi];exact e⟩
  exact⟨t c,T.lt c hc,by rw[h c hc,e]⟩
theorem vM {n:Nat}{o:List Nat}(O:Ord n o){v:Nat}(hv:v<n):o.idxOf v<n/\o.getD (o.idxOf v) 0=v:=by
 have hi:=List.idxOf_lt_length_of_mem (O.has hv)
 refine⟨by rw[<-O.len];exact hi,?_⟩
 rw[List.getD_eq_getElem?_getD,List.getElem?_eq_getElem hi,List.getElem_idxOf];rfl
def dB:FS:=
 ay (uW 3 4 (aa (ai ba (af 2) (ao (.int 2))) (aa (ai da (af 2) (ao (.int 2))) (ah))))
 (aX (di (aa (ai aL (af 0) (af 3)) (aa (ai aL (af 1) (af 4)) (aa (ai bS (ai aL (af 0) (ao (.int 1))) (af 3)) (aa (ai bS (ai aL (af 1) (ao (.int 1))) (af 4)) (ah)))))))
def cJ:List D->Option D:=iw .s 5 dB
def iU:FS:=
 ay (dv (gT 2 (gO (gN 4) (gO (gN 5) (lU)))) (pu (af 0)))
 (ay (dv (gT 4 (gO (gN 6) (gO (gN 7) (gO (gN 8) (gO (gN 9) (lU)))))) (pu (aj (nF 3 cJ) (aa (af 1) (aa (af 2) (aa (af 3) (ah)))))))
 (ay (dQ (be (ai ge (di (aa (ai aK (af 4) (af 8)) (aa (ai aK (af 5) (af 8)) (ah)))) (di (aa (af 9) (aa (af 7) (ah)))))) (aX (ao (.bl false))) (skip))
 (aX (oM (eE (be (ai fF (ai aK (af 5) (af 6)) (af 9))) (be (ai ge (ai aK (af 4) (af 6)) (af 7))))))))
def fQ:List D->Option D:=iw .s 10 iU
def ib:FS:=
 ay (aT 3 (ai bS (aj cb (aa (ai aK (af 0) (ao (.int 0))) (ah))) (ao (.int 2))))
 (ay (dQ (ky (gz (be (uG sK sK (ao (.int 0)) (af 1) (af 3)))) (gz (be (uG sK sK (ao (.int 0)) (af 2) (af 3))))) (aX (ao .non)) (skip))
 (ay (cY (bZ (aW (aa (ao (.int 4)) (ah)))) (gN 4) (dQ (fI (aj (nF 4 fQ) (aa (af 0) (aa (af 1) (aa (af 2) (aa (af 4) (ah))))))) (aX (af 4)) (skip)))
 (aX (ao .non))))
def ig:List D->Option D:=iw .s 5 ib
def eQ:FS:=
 aX (aj bH (aa (aV 2 (vy (af 0)) (gT 2 (gO (gN 3) (gO (gN 4) (lU)))) (be (ai ge (af 3) (af 2))) (oH (be (ai kG (af 4) (af 1))) (ai bS (af 4) (ao (.int 1))) (af 4))) (ah)))
def eR:List D->Option D:=iw .s 3 eQ
def cu:FX:=
 kI (sj (aT 3 (aj (nF 3 ig) (aa (af 0) (aa (af 1) (aa (af 2) (ah)))))))
 (kI (vd (be (ai (AZ false) (af 3) (ao .non))) (vS ⟨"NoMove",0⟩ (aa (ao (.str "there is no corner to be taken out")) (ah))) (sj skip))
 (sj (ay (dv (gT 2 (gO (gN 4) (gO (gN 5) (lU)))) (pu (af 0)))
 (ay (aT 6 (ai aK (aj (nF 3 cJ) (aa (af 1) (aa (af 2) (aa (af 3) (ah))))) (ao (.int 2))))
 (aX (di (aa (aj (nF 3 eR) (aa (af 4) (aa (af 2) (aa (af 6) (ah))))) (aa (aj (nF 3 eR) (aa (af 5) (aa (af 2) (aa (af 6) (ah))))) (ah)))))))))
def jt:List D->Option (Except Ex D):=xh .s 7 cu
theorem mU {t u:FX}{ρ ρ':aB}(h:t ρ=.ok (.nx ρ')):kI t u ρ=u ρ':=by unfold kI;rw[h]
theorem vE {t u:FX}{ρ:aB}{z:Ex×aB}(h:t ρ=.error z):kI t u ρ=.error z:=by unfold kI;rw[h]
theorem tM {t:FS}{ρ:aB}{o:Out}(h:t ρ=o):sj t ρ=.ok o:=by unfold sj;rw[h]
theorem zS {p:FT}{t u:FX}{ρ:aB}(h:p ρ=some true):vd p t u ρ=t ρ:=by unfold vd;rw[h]
theorem Ax {p:FT}{t u:FX}{ρ:aB}(h:p ρ=some false):vd p t u ρ=u ρ:=by unfold vd;rw[h]
theorem zD {p:FT}{t:FX}{ρ:aB}(h:p ρ=some false):vd p t (sj skip) ρ=.ok (.nx ρ):=(Ax h).trans rfl
theorem vN {f:RE}{ρ:aB}{d:D}(h:f ρ=some (.ok d)):pi f ρ=.ok (.rt d ρ):=by unfold pi;rw[h]
theorem v8 {f:RE}{ρ:aB}{z:Ex}(h:f ρ=some (.error z)):pi f ρ=.error (z,ρ):=by unfold pi;rw[h]
theorem yb {kd:Kd}{n:Nat}{t:FX}{ds:List D}{ρ:aB}{d:D}(h:t (eG n ds)=.ok (.rt d ρ)):xh kd n t ds=some (.ok d):=by unfold xh;rw[h]
theorem xS {kd:Kd}{n:Nat}{t:FX}{ds:List D}{z:Ex×aB}(h:t (eG n ds)=.error z):xh kd n t ds=some (.error z.1):=by unfold xh;rw[h]
theorem xQ {kd:Kd}{n:Nat}{t:FX}{ds:List D}{z:Ex}(h: ∃ρ,t (eG n ds)=.error (z,ρ)):xh kd n t ds=some (.error z):=by obtain⟨ρ,h⟩:=h;exact xS h
theorem tS {n:Nat}{P:List D->Option (Except Ex D)}{fs:RA}{ρ:aB}{ds:List D}(h:fs ρ=some (.ok ds))(hl:ds.length=n):lL n P fs ρ=P ds:=by unfold lL;rw[h];exact if_pos hl
theorem vT {f:FA}{ρ:aB}{ds:List D}(h:f ρ=some ds):su f ρ=some (.ok ds):=by unfold su;rw[h];rfl
theorem dM {p:FT}{t:FS}{ρ:aB}(h:p ρ=some false):dQ p t skip ρ=.nx ρ:=(zV h).trans rfl
theorem uQ {F G:D->D->Option D}{f g h:FE}{ρ:aB}{x y z:D}{p q:Bool}(h1:f ρ=some x)(h2:g ρ=some y)(h3:F x y=some (.bl p))(h4:h ρ=some z)(h5:G y z=some (.bl q)):uG F G f g h ρ=some (.bl (p&&q)):=by
 unfold uG;rw[h1,Option.bind_some,h2,Option.bind_some,h3];show(if p=true then _ else _)=_
 cases p with
 |true=>rw[if_pos rfl,h4];exact h5
 |false=>rfl
theorem kE {p q:FT}{ρ:aB}{a b:Bool}(h1:p ρ=some a)(h2:q ρ=some b):ky p q ρ=some (a||b):=by
 cases a with
 |true=>exact AJ h1
 |false=>exact yB h1 h2
theorem xA {p:FT}{f g:FE}{ρ:aB}(h:p ρ=some true):oH p f g ρ=f ρ:=by unfold oH;rw[h];rfl
theorem um {p:FT}{f g:FE}{ρ:aB}(h:p ρ=some false):oH p f g ρ=g ρ:=by unfold oH;rw[h];rfl
theorem ux {f:FE}{ρ:aB}{ds:List D}(h:f ρ=some (.tup ds)):fL f ρ=some ds:=by unfold fL;rw[h];rfl
theorem ud {f:FE}{ρ:aB}{ds:List D}(h:f ρ=some (.lst ds)):fL f ρ=some ds:=by unfold fL;rw[h];rfl
theorem Ord.rot {n:Nat}{o:List Nat}(O:Ord n o)(h:0<n)(k:Int):Ord n (gg o k):=O.mv (tR h k) (xG n) (by rw[tD,O.len]) λc hc=>yO O.len h k hc
theorem Ord.rai {n:Nat}{o:List Nat}(O:Ord n o)(h:0<n)(k:Int):Ord n (gd o k):=O.mv (xG n) (tR h k) (by rw[uC,O.len]) λc hc=>pJ O.len k hc
structure Gd(n:Nat)(r x:List Nat):Prop where
 R:Ord n r
 X:Ord n x
 lo:2<=n
 hi:n<=6
section
variable {n:Nat}{r x:List Nat}(G:Gd n r x)
include G
theorem Gd.rot(k:Int):Gd n (gg r k) (gg x k):=⟨G.R.rot (by have:=G.lo;omega) k,G.X.rot (by have:=G.lo;omega) k,G.lo,G.hi⟩
theorem Gd.rai(k:Int):Gd n (gd r k) (gd x k):=⟨G.R.rai (by have:=G.lo;omega) k,G.X.rai (by have:=G.lo;omega) k,G.lo,G.hi⟩
end
section
variable {n:Nat}{r x:List Nat}(G:Gd n r x)
include G
abbrev noM:Ex:=⟨"NoMove",0⟩
end
def cm(c w:Nat):Nat:=c+w % 2
def cp(r w:Nat):Nat:=r+w / 2
def aG(c w:Nat):Nat:=c+1-w % 2
def ci(r w:Nat):Nat:=r+1-w / 2
theorem uo(c r:Nat){w:Nat}(hw:w<4):cJ [nI c,nI r,nI w]=some (.tup [nI (cm c w),nI (cp r w),nI (aG c w),nI (ci r w)]):=by
 apply mS (kd:=.s) (n:=5) (t:=dB)
 unfold dB;have hd:da (nI w) (.int 2)=some (nI (w / 2)):=by
  rw[jc (by decide) (by decide)];rfl
 have hm:ba (nI w) (.int 2)=some (nI (w % 2)):=zu (n:=2) (by decide)
 have sb: ∀(f:FE) (ρ:aB) (a b:Nat),f ρ=some (nI b)->b<=a-> ∀g:FE,g ρ=some (nI a)->ai bS g f ρ=some (nI (a-b)):=λf ρ a b hf hb g hg=>(au hg hf).trans (by rw[BL];show some (D.int _)=some (D.int _);congr 2;omega)
 have m2:w % 2<2:=Nat.mod_lt _ (by decide)
 have d2:w / 2<2:=by omega
 refine(av (ρ':=[.v (nI c),.v (nI r),.v (nI w),.v (nI (w % 2)),.v (nI (w / 2))]) ?_).trans (bP (eI (az ((au (x:=nI c) (y:=nI (w % 2)) rfl rfl).trans (y6 _ _)) (az ((au (x:=nI r) (y:=nI (w / 2)) rfl rfl).trans (y6 _ _)) (az (sb _ _ (c+1) (w % 2) rfl (by omega) _ ((au (x:=nI c) (y:=.int 1) rfl rfl).trans (vk c))) (az (sb _ _ (r+1) (w / 2) rfl (by omega) _ ((au (x:=nI r) (y:=.int 1) rfl rfl).trans (vk r))) rfl)))) (by simp)))
 unfold uW;rw[az ((au (x:=nI w) (y:=.int 2) rfl rfl).trans hm) (az ((au (x:=nI w) (y:=.int 2) rfl rfl).trans hd) (rfl:ah _=some []))];rfl
def iO(row to m:Nat):Nat:=if m=row then to else if row<m then m+1 else m
def sv(l:List Nat)(i v:Nat):List Nat:=l.take i++v::l.drop i
theorem vb(l:List Nat)(i v:Nat):(sv l i v).length=l.length+1:=by unfold sv;rw[List.length_append,List.length_cons,List.length_take,List.length_drop];omega
def eU(l:List Nat)(row to col v:Nat):List Nat:=sv (l.map (iO row to)) col v
theorem Ord.put {n:Nat}{l:List Nat}(O:Ord n l){row to col v:Nat}(hr:row<n)(h:(to=row/\v=row+1)\/(to=row+1/\v=row)):Ord (n+1) (eU l row to col v):=by
 refine⟨?_⟩
 unfold eU sv;refine(List.perm_middle.trans ?_)
 rw[List.take_append_drop];refine((O.perm.map (iO row to)).cons v).trans ?_
 refine(List.perm_ext_iff_of_nodup ?_ List.nodup_range).mpr λk=>?_
 ·rw[List.nodup_cons]
  constructor
  ·intro hm
   obtain⟨i,_,e⟩:=List.mem_map.mp hm
   unfold iO at e;split at e<;>(try split at e)<;>omega
  ·show List.Pairwise (·≠ ·) _
   rw[List.pairwise_map];refine List.Pairwise.imp (λ{i j} hij e=>?_) (List.pairwise_lt_range (n:=n))
   unfold iO at e;split at e<;>(try split at e)<;>(try split at e)<;>(try split at e)<;>omega
 ·rw[List.mem_cons,List.mem_map,List.mem_range]
  constructor
  ·rintro(rfl|⟨i,hi,rfl⟩)
   ·omega
   ·rw[List.mem_range] at hi
    unfold iO;split<;>(try split)<;>omega
  ·intro hk
   by_cases h1:k=v
   ·exact .inl h1
   ·refine .inr ⟨if k<=row then k else k-1,List.mem_range.mpr (by split<;>omega),?_⟩
    unfold iO;split<;>(try split)<;>(try split)<;>omega
section
variable {n:Nat}{r x:List Nat}(G:Gd n r x)
include G
theorem Gd.put {c w:Nat}(hc:c<n)(hw:w<4)(h6:n<6):Gd (n+1) (eU r (x.getD c 0) (cp (x.getD c 0) w) (aG c w) (ci (x.getD c 0) w)) (eU x (x.getD c 0) (ci (x.getD c 0) w) (aG c w) (cp (x.getD c 0) w)):=by
 have h:=G.X.get hc
 have d:w / 2=0\/w / 2=1:=by omega
 refine⟨G.R.put h ?_,G.X.put h ?_,by have:=G.lo;omega,by omega⟩
 ·unfold cp ci;rcases d with d|d<;>rw[d]<;>omega
 ·unfold cp ci;rcases d with d|d<;>rw[d]<;>omega
end
def cg(r x:List Nat)(c q w:Nat):Bool:=(decide (r.getD (aG c w) 0=ci q w)&&decide (x.getD (aG c w) 0=cp q w))&&(decide (x.getD (cm c w) 0=ci q w)&& !decide (r.getD (cm c w) 0=cp q w))
theorem BF(a b c d:Nat):dg (.tup [nI a,nI b]) (.tup [nI c,nI d])=(decide (a=c)&&decide (b=d)):=by
 have:=xf [(a:Int),(b:Int)] [(c:Int),(d:Int)]
 refine this.trans ?_
 rw[Bool.eq_iff_iff];simp only[decide_eq_true_eq,Bool.and_eq_true,List.cons.injEq,and_true];omega
theorem zv(a b:Nat):dw (.tup [nI a,nI b])<=32:=ui [a,b]
def aA(l:List Nat)(row col:Nat):List Nat:=((List.range l.length).filter λi=> !decide (i=col)).map λi=>if row<l.getD i 0 then l.getD i 0-1 else l.getD i 0
theorem A7(q:List Nat):pP (q.map nI)=(List.range q.length).map λ(i:Nat)=>D.tup [nI i,nI (q.getD i 0)]:=by
 unfold pP;rw[List.length_map];refine List.map_congr_left λi hi=>?_
 rw[List.mem_range] at hi;congr 3
 rw[List.getD_eq_getElem?_getD,List.getElem?_map,List.getElem?_eq_getElem hi,List.getD_eq_getElem?_getD,List.getElem?_eq_getElem hi];rfl
theorem lE(l:List Nat)(row col:Nat)(hl:l.length<=900):eR [bi l,nI row,nI col]=some (bi (aA l row col)):=by
 apply mS (kd:=.s) (n:=3) (t:=eQ)
 unfold eQ;refine bP ((br (ds:=[.lst ((aA l row col).map nI)]) (az (dc (ds:=(List.range l.length).map λ(i:Nat)=>D.tup [nI i,nI (l.getD i 0)]) ?_ (by rw[List.length_map,List.length_range];omega) ?_) rfl)).trans rfl)
 ·rw[<-A7];rfl
 ·unfold aA
  rw[List.map_map];refine iX (h:=λ(i:Nat)=>D.tup [nI i,nI (l.getD i 0)]) (q:=λi=> !decide (i=col)) _ λi hi=>⟨_,rfl,?_,λ_=>?_⟩
  ·exact cz ((au (x:=nI i) (y:=nI col) rfl rfl).trans (by rw[h9 (by rw[dX];omega),gl]))
  ·have p:be (ai kG (af 4) (af 1)) [.v (bi l),.v (nI row),.v (nI col),.v (nI i),.v (nI (l.getD i 0))]=some (decide (row<l.getD i 0)):=cz ((au (x:=nI (l.getD i 0)) (y:=nI row) rfl rfl).trans (by show some (D.bl (decide ((row:Int)<(l.getD i 0:Nat))))=_;congr 2;rw[Bool.eq_iff_iff,decide_eq_true_eq,decide_eq_true_eq];omega))
   show _=some (nI (if row<l.getD i 0 then l.getD i 0-1 else l.getD i 0))
   by_cases h:row<l.getD i 0
   ·rw[if_pos h]
    rw[decide_eq_true h] at p;refine(xA p).trans ((au (x:=nI (l.getD i 0)) (y:=.int 1) rfl rfl).trans ((dq _ _).trans ?_))
    show some (D.int _)=some (D.int _);congr 2
    omega
   ·rw[if_neg h]
    rw[decide_eq_false h] at p;exact(um p).trans rfl
theorem Ord.join {n:Nat}{l:List Nat}(O:Ord n l){row col:Nat}(hr:row+1<n)(hc:col<n)(h:l.getD col 0=row\/l.getD col 0=row+1):Ord (n-1) (aA l row col):=by
 have hl:=O.len
 refine⟨(List.perm_ext_iff_of_nodup ?_ List.nodup_range).mpr λk=>?_⟩
 ·unfold aA
  show List.Pairwise (·≠ ·) _
  rw[List.pairwise_map,hl];refine List.Pairwise.imp_of_mem (λ{i j} hi hj hij e=>?_) (List.Pairwise.filter _ (List.pairwise_lt_range (n:=n)))
  rw[List.mem_filter,List.mem_range] at hi hj;have i1:i≠col:=by simpa using hi.2
  have j1:j≠col:=by simpa using hj.2
  have n1:l.getD i 0≠l.getD j 0:=λz=>by have:=O.inj hi.1 hj.1 z;omega
  have n2:l.getD i 0≠l.getD col 0:=λz=>i1 (O.inj hi.1 hc z)
  have n3:l.getD j 0≠l.getD col 0:=λz=>j1 (O.inj hj.1 hc z)
  split at e<;>split at e<;>omega
 ·unfold aA
  rw[List.mem_map,List.mem_range,hl];constructor
  ·rintro⟨i,hi,rfl⟩
   rw[List.mem_filter,List.mem_range] at hi;have i1:i≠col:=by simpa using hi.2
   have:=O.get hi.1
   have n2:l.getD i 0≠l.getD col 0:=λz=>i1 (O.inj hi.1 hc z)
   split<;>omega
  ·intro hk
   have key: ∀v,v<n->v≠l.getD col 0-> ∃i,i∈(List.range n).filter (λi=> !decide (i=col))/\l.getD i 0=v:=λv hv hv2=>by
    obtain⟨i1,i2⟩:=vM O hv
    refine⟨l.idxOf v,?_,i2⟩
    rw[List.mem_filter,List.mem_range];refine⟨i1,?_⟩
    simp only[Bool.not_eq_true',decide_eq_false_iff_not];intro z;rw[z] at i2;exact hv2 i2.symm
   by_cases h1:k<row
   ·obtain⟨i,hi,e⟩:=key k (by omega) (by omega)
    exact⟨i,hi,by rw[e,if_neg (by omega)]⟩
   ·by_cases h2:k=row
    ·by_cases h3:l.getD col 0=row
     ·obtain⟨i,hi,e⟩:=key (row+1) (by omega) (by omega)
      exact⟨i,hi,by rw[e,if_pos (by omega)];omega⟩
     ·obtain⟨i,hi,e⟩:=key row (by omega) (by omega)
      exact⟨i,hi,by rw[e,if_neg (by omega)];omega⟩
    ·obtain⟨i,hi,e⟩:=key (k+1) (by omega) (by omega)
     exact⟨i,hi,by rw[e,if_pos (by omega)];omega⟩
theorem qE {g:FG}{b:FS}{d e:D}{r:List D}{ρ ρ1 ρ2:aB}(h1:g d ρ=some ρ1)(h2:b ρ1=.rt e ρ2):dE g b (d::r) ρ=.rt e ρ2:=by
 show(match g d ρ with
  |none=>Out.no
  |some ρ1=>match b ρ1 with
   | .nx ρ2=>dE g b r ρ2
   | .ct ρ2=>dE g b r ρ2
   | .bk ρ2=>.nx ρ2
   | .rt d ρ2=>.rt d ρ2
   | .no=>.no)=_
 rw[h1];dsimp only;rw[h2]
def yH(r x:List Nat)(c q:Nat):Option Nat:=(List.range 4).find? (cg r x c q)
def je(r x:List Nat)(c q:Int):Option Nat:=if(decide (0<=c)&&decide (c<=(r.length:Int) -2))=true/\(decide (0<=q)&&decide (q<=(r.length:Int) -2))=true then yH r x c.toNat q.toNat else none
def wD:Option Nat->D
 |none=>.non
 |some w=>nI w
theorem xK {a b d e:D}{bd:FS}{q:Nat->Bool}: ∀(l:List Nat) (s:Sl),(∀w∈l,bd [.v a,.v b,.v d,.v e,.v (nI w)]=if q w=true then .rt (nI w) [.v a,.v b,.v d,.v e,.v (nI w)] else .nx [.v a,.v b,.v d,.v e,.v (nI w)])->
 (match l.find? q with
 |some w=> ∃ρ,dE (gN 4) bd (l.map nI) [.v a,.v b,.v d,.v e,s]=.rt (nI w) ρ
 |none=> ∃s',dE (gN 4) bd (l.map nI) [.v a,.v b,.v d,.v e,s]=.nx [.v a,.v b,.v d,.v e,s'])
 | [],s,_=>⟨s,rfl⟩
 |w::l,s,h=>by
  have h0:=h w (List.mem_cons_self ..)
  rw[List.map_cons,List.find?_cons];cases e1:q w with
  |true=>
   rw[e1,if_pos rfl] at h0;exact⟨_,qE (ρ1:=[.v a,.v b,.v d,.v e,.v (nI w)]) rfl h0⟩
  |false=>
   rw[e1,if_neg (by simp)] at h0
   have:=xK l (.v (nI w)) λv hv=>h v (List.mem_cons_of_mem _ hv)
   rw[db (ρ1:=[.v a,.v b,.v d,.v e,.v (nI w)]) rfl h0];exact this
section
variable {n:Nat}{r x:List Nat}(G:Gd n r x)
include G
theorem uK {c q w:Nat}(hc:c+1<n)(hw:w<4):fQ [aZ r x,nI c,nI q,nI w]=some (.bl (cg r x c q w)):=by
 have h1:=G.R.len;have h2:=G.X.len;have h3:=G.lo;have h4:=G.hi
 have f1:cm c w<n:=by unfold cm;omega
 have f2:aG c w<n:=by unfold aG;omega
 apply fC (kd:=.s) (n:=10) (t:=iU)
 unfold iU;rw[av (ρ':=[.v (aZ r x),.v (nI c),.v (nI q),.v (nI w),.v (bi r),.v (bi x),.no,.no,.no,.no]) (mw (hX rfl) rfl)];have s2:dv (gT 4 (gO (gN 6) (gO (gN 7) (gO (gN 8) (gO (gN 9) (lU)))))) (pu (aj (nF 3 cJ) (aa (af 1) (aa (af 2) (aa (af 3) (ah)))))) [.v (aZ r x),.v (nI c),.v (nI q),.v (nI w),.v (bi r),.v (bi x),.no,.no,.no,.no]=.nx [.v (aZ r x),.v (nI c),.v (nI q),.v (nI w),.v (bi r),.v (bi x),.v (nI (cm c w)),.v (nI (cp q w)),.v (nI (aG c w)),.v (nI (ci q w))]:=mw (hX ((fZ (ds:=[nI c,nI q,nI w]) rfl rfl).trans (uo c q hw))) rfl
 rw[av s2];have p1:be (ai ge (di (aa (ai aK (af 4) (af 8)) (aa (ai aK (af 5) (af 8)) (ah)))) (di (aa (af 9) (aa (af 7) (ah))))) [.v (aZ r x),.v (nI c),.v (nI q),.v (nI w),.v (bi r),.v (bi x),.v (nI (cm c w)),.v (nI (cp q w)),.v (nI (aG c w)),.v (nI (ci q w))]=some (!(decide (r.getD (aG c w) 0=ci q w)&&decide (x.getD (aG c w) 0=cp q w))):=
  cz ((au (eI (az ((au (x:=bi r) (y:=nI (aG c w)) rfl rfl).trans (lz (by omega))) (az ((au (x:=bi x) (y:=nI (aG c w)) rfl rfl).trans (lz (by omega))) rfl)) (by simp)) (y:=.tup [nI (ci q w),nI (cp q w)]) (eI rfl (by simp))).trans (by rw[h9 (zv _ _),BF]))
 have p2:oM (eE (be (ai fF (ai aK (af 5) (af 6)) (af 9))) (be (ai ge (ai aK (af 4) (af 6)) (af 7)))) [.v (aZ r x),.v (nI c),.v (nI q),.v (nI w),.v (bi r),.v (bi x),.v (nI (cm c w)),.v (nI (cp q w)),.v (nI (aG c w)),.v (nI (ci q w))]=some (.bl (decide (x.getD (cm c w) 0=ci q w)&& !decide (r.getD (cm c w) 0=cp q w))):=by
  refine yo (vh (a:=decide (x.getD (cm c w) 0=ci q w)) (cz ((au ((au (x:=bi x) (y:=nI (cm c w)) rfl rfl).trans (lz (by omega))) (y:=nI (ci q w)) rfl).trans (by rw[gF (by rw[dX];omega),gl]))) (λz=>?_) λz=>by rw[z];rfl)
  rw[z,Bool.true_and];exact cz ((au ((au (x:=bi r) (y:=nI (cm c w)) rfl rfl).trans (lz (by omega))) (y:=nI (cp q w)) rfl).trans (by rw[h9 (by rw[dX];omega),gl]))
 unfold cg;revert p1
 generalize (decide (r.getD (aG c w) 0=ci q w)&&decide (x.getD (aG c w) 0=cp q w))=pb
 intro p1;cases pb with
 |true=>exact⟨_,(av (dM p1)).trans (bP p2)⟩
 |false=>exact⟨_,ic ((hV p1).trans (bP rfl))⟩
theorem vD(c q:Int):ig [aZ r x,.int c,.int q]=some (wD (je r x c q)):=by
 have h1:=G.R.len;have h2:=G.X.len;have h3:=G.lo;have h4:=G.hi
 apply fC (kd:=.s) (n:=5) (t:=ib)
 unfold ib;rw[av (ρ':=[.v (aZ r x),.v (.int c),.v (.int q),.v (.int ((r.length:Int) -2)),.no]) ((bI ((au (dY r _ _ rfl) (y:=.int 2) rfl).trans (dq _ _))).trans rfl)];have p1:ky (gz (be (uG sK sK (ao (.int 0)) (af 1) (af 3)))) (gz (be (uG sK sK (ao (.int 0)) (af 2) (af 3)))) [.v (aZ r x),.v (.int c),.v (.int q),.v (.int ((r.length:Int) -2)),.no]=some (!(decide (0<=c)&&decide (c<=(r.length:Int) -2))|| !(decide (0<=q)&&decide (q<=(r.length:Int) -2))):=
  kE (uP (cz (uQ (x:=.int 0) (y:=.int c) (z:=.int ((r.length:Int) -2)) rfl rfl rfl rfl rfl))) (uP (cz (uQ (x:=.int 0) (y:=.int q) (z:=.int ((r.length:Int) -2)) rfl rfl rfl rfl rfl)))
 unfold je
 by_cases hg:(decide (0<=c)&&decide (c<=(r.length:Int) -2))=true/\(decide (0<=q)&&decide (q<=(r.length:Int) -2))=true
 ·rw[if_pos hg]
  rw[hg.1,hg.2] at p1;rw[Bool.and_eq_true,Bool.and_eq_true,decide_eq_true_eq,decide_eq_true_eq,decide_eq_true_eq,decide_eq_true_eq] at hg;rw[av (dM p1)];obtain⟨c,rfl⟩: ∃m:Nat,c=m:=⟨c.toNat,by omega⟩
  obtain⟨q,rfl⟩: ∃m:Nat,q=m:=⟨q.toNat,by omega⟩
  rw[Int.toNat_natCast,Int.toNat_natCast];have fw:=xK (a:=aZ r x) (b:=nI c) (d:=nI q) (e:=.int ((r.length:Int) -2)) (bd:=dQ (fI (aj (nF 4 fQ) (aa (af 0) (aa (af 1) (aa (af 2) (aa (af 4) (ah))))))) (aX (af 4)) (skip)) (q:=cg r x c q) (List.range 4) .no λw hw=>by
   rw[List.mem_range] at hw;have:=ml ((fZ (ds:=[aZ r x,nI c,nI q,nI w]) (fs:=aa (af 0) (aa (af 1) (aa (af 2) (aa (af 4) (ah))))) (ρ:=[.v (aZ r x),.v (nI c),.v (nI q),.v (.int ((r.length:Int) -2)),.v (nI w)]) rfl rfl).trans (uK G (c:=c) (q:=q) (w:=w) (by omega) hw))
   cases e:cg r x c q w with
   |true=>rw[e] at this;rw[if_pos rfl];exact(hV this).trans (bP rfl)
   |false=>rw[e] at this;rw[if_neg (by simp)];exact dM this
  unfold yH;have fs:cY (bZ (aW (aa (ao (.int 4)) (ah)))) (gN 4) (dQ (fI (aj (nF 4 fQ) (aa (af 0) (aa (af 1) (aa (af 2) (aa (af 4) (ah))))))) (aX (af 4)) (skip)) [.v (aZ r x),.v (nI c),.v (nI q),.v (.int ((r.length:Int) -2)),.no]=dE (gN 4) (dQ (fI (aj (nF 4 fQ) (aa (af 0) (aa (af 1) (aa (af 2) (aa (af 4) (ah))))))) (aX (af 4)) (skip)) ((List.range 4).map nI) [.v (aZ r x),.v (nI c),.v (nI q),.v (.int ((r.length:Int) -2)),.no]:=gP (bR (cI (n:=4) rfl (by omega)))
  cases e:(List.range 4).find? (cg r x c q) with
  |some w=>
   rw[e] at fw;obtain⟨ρ,h⟩:=fw
   exact⟨_,ic (fs.trans h)⟩
  |none=>
   rw[e] at fw;obtain⟨s,h⟩:=fw
   exact⟨_,(av (fs.trans h)).trans (bP rfl)⟩
 ·rw[if_neg hg]
  have:(!(decide (0<=c)&&decide (c<=(r.length:Int) -2))|| !(decide (0<=q)&&decide (q<=(r.length:Int) -2)))=true:=by
   cases e1:(decide (0<=c)&&decide (c<=(r.length:Int) -2))<;>cases e2:(decide (0<=q)&&decide (q<=(r.length:Int) -2))<;>first|rfl|exact absurd ⟨e1,e2⟩ hg
  rw[this] at p1;exact⟨_,ic ((hV p1).trans (bP rfl))⟩
theorem rH {c q:Int}{w:Nat}(h:je r x c q=some w): ∃c' q':Nat,c=c'/\q=q'/\c'+1<n/\q'+1<n/\w<4/\cg r x c' q' w=true:=by
 have h1:=G.R.len
 unfold je at h;split at h
 ·rename_i hg
  rw[Bool.and_eq_true,Bool.and_eq_true,decide_eq_true_eq,decide_eq_true_eq,decide_eq_true_eq,decide_eq_true_eq] at hg;unfold yH at h;have m:=List.mem_of_find?_eq_some h
  rw[List.mem_range] at m;exact⟨c.toNat,q.toNat,by omega,by omega,by omega,by omega,m,List.find?_some h⟩
 ·cases h
def tZ(r x:List Nat)(c q:Int):Except Ex D:=match je r x c q with
 |none=>.error noM
 |some w=>.ok (aZ (aA r q.toNat (aG c.toNat w)) (aA x q.toNat (aG c.toNat w)))
theorem v4(c q:Int):jt [aZ r x,.int c,.int q]=some (tZ r x c q):=by
 have h1:=G.R.len;have h2:=G.X.len;have h3:=G.lo;have h4:=G.hi
 have s1:sj (aT 3 (aj (nF 3 ig) (aa (af 0) (aa (af 1) (aa (af 2) (ah)))))) (eG 7 [aZ r x,.int c,.int q])=.ok (.nx [.v (aZ r x),.v (.int c),.v (.int q),.v (wD (je r x c q)),.no,.no,.no]):=tM ((bI ((fZ (ds:=[aZ r x,.int c,.int q]) rfl rfl).trans (vD G c q))).trans rfl)
 unfold tZ;cases e:je r x c q with
 |none=>
  rw[e] at s1;refine xQ (kd:=.s) (n:=7) (t:=cu) ?_
  unfold cu;rw[mU s1];exact⟨_,vE ((zS (cz (b:=true) ((au (x:=.non) (y:=.non) rfl rfl).trans rfl))).trans rfl)⟩
 |some w=>
  rw[e] at s1;obtain⟨c,q,rfl,rfl,hc,hq,hw,_⟩:=rH G e
  rw[Int.toNat_natCast,Int.toNat_natCast];refine yb (kd:=.s) (n:=7) (t:=cu) (ρ:=[.v (aZ r x),.v (nI c),.v (nI q),.v (nI w),.v (bi r),.v (bi x),.v (nI (aG c w))]) ?_
  unfold cu;rw[mU s1,mU (zD (cz (b:=false) ((au (x:=nI w) (y:=.non) rfl rfl).trans rfl)))];refine tM ?_
  refine(av (ρ':=[.v (aZ r x),.v (nI c),.v (nI q),.v (nI w),.v (bi r),.v (bi x),.no]) (mw (hX rfl) rfl)).trans ?_
  refine(av (ρ':=[.v (aZ r x),.v (nI c),.v (nI q),.v (nI w),.v (bi r),.v (bi x),.v (nI (aG c w))]) ((bI ((au ((fZ (ds:=[nI c,nI q,nI w]) rfl rfl).trans (uo c q hw)) (y:=.int 2) rfl).trans rfl)).trans rfl)).trans ?_
  exact bP (eI (az ((fZ (ds:=[bi r,nI q,nI (aG c w)]) rfl rfl).trans (lE r q _ (by omega))) (az ((fZ (ds:=[bi x,nI q,nI (aG c w)]) rfl rfl).trans (lE x q _ (by omega))) rfl)) (by simp))
theorem Gd.tkn {c q w:Nat}(hc:c+1<n)(hq:q+1<n)(hw:w<4)(h:cg r x c q w=true):Gd (n-1) (aA r q (aG c w)) (aA x q (aG c w)):=by
 unfold cg at h;simp only[Bool.and_eq_true,decide_eq_true_eq,Bool.not_eq_true',decide_eq_false_iff_not] at h;obtain⟨⟨a1,a2⟩,a3,a4⟩:=h
 have d:w / 2=0\/w / 2=1:=by omega
 have hf:aG c w<n:=by unfold aG;omega
 have hf2:cm c w<n:=by unfold cm;omega
 have hne:aG c w≠cm c w:=by unfold aG cm;omega
 refine⟨G.R.join hq hf ?_,G.X.join hq hf ?_,?_,by have:=G.hi;omega⟩
 ·rw[a1];unfold ci;rcases d with d|d<;>rw[d]<;>omega
 ·rw[a2];unfold cp;rcases d with d|d<;>rw[d]<;>omega
 ·have h3:=G.lo
  refine Nat.le_sub_of_add_le ?_
  by_cases e:n=2
  ·exfalso
   subst e;have g1:=G.R.get hf2
   have g2:r.getD (cm c w) 0≠r.getD (aG c w) 0:=λz=>hne (G.R.inj hf2 hf z).symm
   apply a4
   rw[a1] at g2;unfold ci at g2;unfold cp;rcases d with d|d<;>rw[d] at g2⊢ <;>omega
  ·omega
end
theorem v9 {i:Nat}{ns ys:List Str}{t:FX}{u:FS}{ρ:aB}{o:Out}(h:t ρ=.ok o):pK i ns ys t u ρ=o:=by unfold pK;rw[h]
theorem xi {i:Nat}{ns ys:List Str}{t:FX}{u:FS}{ρ ρ' ρ2:aB}{z:Ex}{d:D}(h:t ρ=.error (z,ρ'))(h1:ns.contains z.x=true)(h2:(ys.any λy=>ii z.x y)=true)(h3:u (ρ'.set i (.ob (.exc z.x z.n)))=.rt d ρ2):pK i ns ys t u ρ=.rt d ρ2:=by
 unfold pK;rw[h];dsimp only;rw[if_pos ⟨h1,h2⟩,h3]
structure Gn(n:Nat)(r x:List Nat):Prop where
 g:Gd n r x
 ne: ∀i,i<n->r.getD i 0≠x.getD i 0
theorem nQ(l:List Nat)(f:Nat->Nat)(i:Nat)(h:i<l.length):(l.map f).getD i 0=f (l.getD i 0):=by
 rw[List.getD_eq_getElem?_getD,List.getD_eq_getElem?_getD,List.getElem?_map,List.getElem?_eq_getElem h];rfl
theorem uj(l:List Nat)(i v j:Nat)(hi:i<=l.length):(sv l i v).getD j 0=if j<i then l.getD j 0 else if j=i then v else l.getD (j-1) 0:=by
 unfold sv;rw[List.getD_eq_getElem?_getD,List.getElem?_append,List.length_take,Nat.min_eq_left hi]
 by_cases h:j<i
 ·rw[if_pos h,if_pos h,List.getElem?_take_of_lt h,<-List.getD_eq_getElem?_getD]
 ·rw[if_neg h,if_neg h]
  by_cases e:j=i
  ·subst e;rw[if_pos rfl,Nat.sub_self];rfl
  ·rw[if_neg e,show j-i=(j-i-1)+1 by omega,List.getElem?_cons_succ,List.getElem?_drop,<-List.getD_eq_getElem?_getD,show i+(j-i-1)=j-1 by omega]
theorem de {n:Nat}{l:List Nat}(hl:l.length=n)(row to col v j:Nat)(hc:col<=n)(hj:j<=n):(eU l row to col v).getD j 0=if j=col then v else iO row to (l.getD (if j<col then j else j-1) 0):=by
 unfold eU;rw[uj _ _ _ _ (by rw[List.length_map];omega)]
 by_cases h:j<col
 ·rw[if_pos h,if_neg (by omega),if_pos h,nQ _ _ _ (by omega)]
 ·rw[if_neg h]
  by_cases e:j=col
  ·rw[if_pos e,if_pos e]
  ·rw[if_neg e,if_neg e,if_neg h,nQ _ _ _ (by omega)]
theorem iy(l:List Nat)(row to col v:Nat):(eU l row to col v).length=l.length+1:=by unfold eU;rw[vb,List.length_map]
def dn(row v:Nat):Nat:=if row<v then v-1 else v
theorem vB: ∀n,n<=7-> ∀col,col<n->((List.range n).filter λi=> !decide (i=col))=(List.range (n-1)).map λi=>if i<col then i else i+1:=by decide
theorem nA {n:Nat}{l:List Nat}(hl:l.length=n)(hn:n<=7){row col:Nat}(hc:col<n):aA l row col=(List.range (n-1)).map λi=>dn row (l.getD (if i<col then i else i+1) 0):=by
 unfold aA;rw[hl,vB n hn col hc,List.map_map];rfl
theorem eO {n:Nat}{l:List Nat}(hl:l.length=n)(hn:n<=7){row col:Nat}(hc:col<n):(aA l row col).length=n-1:=by rw[nA hl hn hc,List.length_map,List.length_range]
theorem gH {n:Nat}{l:List Nat}(hl:l.length=n)(hn:n<=7){row col i:Nat}(hc:col<n)(hi:i<n-1):(aA l row col).getD i 0=dn row (l.getD (if i<col then i else i+1) 0):=by
 rw[nA hl hn hc,List.getD_eq_getElem?_getD,List.getElem?_map,List.getElem?_range hi];rfl
theorem oC {n:Nat}{l:List Nat}(O:Ord n l)(hn:n<=6){row to col v:Nat}(hc:col<n)(h:(to=row/\v=row+1)\/(to=row+1/\v=row))(hv:l.getD col 0=v):eU (aA l row col) row to col v=l:=by
 have hl:=O.len
 have hj:=eO hl (show n<=7 by omega) (row:=row) hc
 refine nW (by rw[iy,hj,hl];omega) λi hi=>?_
 rw[iy,hj] at hi;rw[de hj _ _ _ _ _ (by omega) (by omega)]
 by_cases e:i=col
 ·rw[if_pos e,e,hv]
 ·rw[if_neg e]
  have hne:l.getD i 0≠v:=λz=>e (O.inj (by omega) hc (z.trans hv.symm))
  have key:l.getD (if(if i<col then i else i-1)<col then(if i<col then i else i-1) else(if i<col then i else i-1)+1) 0=l.getD i 0:=by
   by_cases e2:i<col
   ·rw[if_pos e2,if_pos e2]
   ·rw[if_neg e2,if_neg (by omega),show i-1+1=i by omega]
  rw[gH hl (by omega) hc (by split<;>omega),key]
  unfold dn iO;split<;>split<;>(try split)<;>omega
theorem gM(r x:List Nat)(c q w:Nat):cg r x c q w=true↔(r.getD (aG c w) 0=ci q w/\x.getD (aG c w) 0=cp q w)/\x.getD (cm c w) 0=ci q w/\r.getD (cm c w) 0≠cp q w:=by
 unfold cg;simp only[Bool.and_eq_true,decide_eq_true_eq,Bool.not_eq_true',decide_eq_false_iff_not]
theorem Gn.put {n:Nat}{r x:List Nat}(G:Gn n r x){c w:Nat}(hc:c<n)(hw:w<4)(h6:n<6):Gn (n+1) (eU r (x.getD c 0) (cp (x.getD c 0) w) (aG c w) (ci (x.getD c 0) w)) (eU x (x.getD c 0) (ci (x.getD c 0) w) (aG c w) (cp (x.getD c 0) w)):=by
 refine⟨G.g.put hc hw h6,λi hi=>?_⟩
 have hf:aG c w<=n:=by unfold aG;omega
 rw[de G.g.R.len _ _ _ _ _ hf (by omega),de G.g.X.len _ _ _ _ _ hf (by omega)]
 have d:(cp (x.getD c 0) w=x.getD c 0/\ci (x.getD c 0) w=x.getD c 0+1)\/(cp (x.getD c 0) w=x.getD c 0+1/\ci (x.getD c 0) w=x.getD c 0):=by
  unfold cp ci;have:w / 2=0\/w / 2=1:=by omega
  omega
 by_cases e:i=aG c w
 ·rw[if_pos e,if_pos e];omega
 ·rw[if_neg e,if_neg e]
  have hj:(if i<aG c w then i else i-1)<n:=by split<;>omega
  have q:=G.ne _ hj
  generalize (if i<aG c w then i else i-1)=j at hj q⊢
  unfold iO;split<;>split<;>(try split)<;>(try split)<;>omega
theorem ss {n:Nat}{r x:List Nat}(G:Gn n r x){c w:Nat}(hc:c<n)(hw:w<4):cg (eU r (x.getD c 0) (cp (x.getD c 0) w) (aG c w) (ci (x.getD c 0) w)) (eU x (x.getD c 0) (ci (x.getD c 0) w) (aG c w) (cp (x.getD c 0) w)) c (x.getD c 0) w=true:=by
 have hf:aG c w<=n:=by unfold aG;omega
 have hg:cm c w<=n:=by unfold cm;omega
 have hne:cm c w≠aG c w:=by unfold aG cm;omega
 have hback:(if cm c w<aG c w then cm c w else cm c w-1)=c:=by unfold aG cm;split<;>omega
 have d:(cp (x.getD c 0) w=x.getD c 0/\ci (x.getD c 0) w=x.getD c 0+1)\/(cp (x.getD c 0) w=x.getD c 0+1/\ci (x.getD c 0) w=x.getD c 0):=by
  unfold cp ci;have:w / 2=0\/w / 2=1:=by omega
  omega
 rw[gM,de G.g.R.len _ _ _ _ _ hf hf,de G.g.X.len _ _ _ _ _ hf hf,de G.g.R.len _ _ _ _ _ hf hg,de G.g.X.len _ _ _ _ _ hf hg,if_pos rfl,if_pos rfl,if_neg hne,if_neg hne,hback];have q:=G.ne c hc
 refine⟨⟨rfl,rfl⟩,?_,?_⟩
 ·unfold iO;rw[if_pos rfl]
 ·unfold iO
  split<;>(try split)<;>omega
theorem Gn.tkn {n:Nat}{r x:List Nat}(G:Gn n r x){c q w:Nat}(hc:c+1<n)(hq:q+1<n)(hw:w<4)(h:cg r x c q w=true):Gn (n-1) (aA r q (aG c w)) (aA x q (aG c w)):=by
 refine⟨G.g.tkn hc hq hw h,λi hi=>?_⟩
 have hn:=G.g.hi
 have hf:aG c w<n:=by unfold aG;omega
 have hg:cm c w<n:=by unfold cm;omega
 have hne:cm c w≠aG c w:=by unfold aG cm;omega
 rw[gM] at h;obtain⟨⟨a1,a2⟩,a3,a4⟩:=h
 rw[gH G.g.R.len (by omega) hf hi,gH G.g.X.len (by omega) hf hi]
 have hj:(if i<aG c w then i else i+1)<n:=by split<;>omega
 have hjn:(if i<aG c w then i else i+1)≠aG c w:=by split<;>omega
 generalize (if i<aG c w then i else i+1)=j at hj hjn
 have q0:=G.ne j hj
 have x1:x.getD j 0≠cp q w:=λz=>hjn (G.g.X.inj hj hf (z.trans a2.symm))
 have r1:r.getD j 0≠ci q w:=λz=>hjn (G.g.R.inj hj hf (z.trans a1.symm))
 have d:(cp q w=q/\ci q w=q+1)\/(cp q w=q+1/\ci q w=q):=by
  unfold cp ci;have:w / 2=0\/w / 2=1:=by omega
  omega
 by_cases e:j=cm c w
 ·subst e
  unfold dn;split<;>split<;>omega
 ·have x2:x.getD j 0≠ci q w:=λz=>e (G.g.X.inj hj hg (z.trans a3.symm))
  unfold dn;split<;>split<;>omega
theorem Gn.rot {n:Nat}{r x:List Nat}(G:Gn n r x)(k:Int):Gn n (gg r k) (gg x k):=⟨G.g.rot k,λi hi=>by
 have h0:0<n:=by omega
 rw[jQ _ _ (by rw[G.g.R.len];exact hi),jQ _ _ (by rw[G.g.X.len];exact hi),G.g.R.len,G.g.X.len]
 exact G.ne _ (wF _ h0).1⟩
theorem Gn.rai {n:Nat}{r x:List Nat}(G:Gn n r x)(k:Int):Gn n (gd r k) (gd x k):=⟨G.g.rai k,λi hi e=>by
 have h0:0<n:=by omega
 rw[pJ G.g.R.len k hi,pJ G.g.X.len k hi] at e;exact G.ne i hi ((tR h0 k).inj _ _ (G.g.R.get hi) (G.g.X.get hi) e)⟩
set_option maxHeartbeats 1000000
def kU:FS:=
 ay (eo 2 (aN 0 1 cS (bZ (aa (ao (.int 4)) (ah)))))
 (ay (eo 3 (hZ aL (pu (ao (.int 1))) (aN 0 1 cS (bZ (aa (ai bS (af 1) (ao (.int 1))) (ah))))))
 (ay (eo 4 (aN 0 1 fM (bZ (aa (af 1) (ah)))))
 (ay (pA 5 (aN 0 1 fM (bZ (aa (af 1) (ah)))))
 (ay (dQ (be (ai fF (af 2) (ao (.int 1)))) (ay (aT 4 (kH (af 1)))
 (fj 5 (aV 1 (fL (af 4)) (gN 8) (cx) (ai ba (ai aL (af 8) (af 3)) (af 1))))) (skip))
 (ay (cY (bZ (aW (aa (af 1) (ah)))) (gN 6) (ay (aT 7 (ai ba (ai aL (af 6) (ao (.int 1))) (af 1)))
 (dQ (be (ai fF (ai aK (eD 5) (af 6)) (ai aK (af 4) (af 6)))) (dv (gT 2 (gO (cN 5 (af 6)) (gO (cN 5 (af 7)) (lU)))) (pu (di (aa (ai aK (eD 5) (af 7)) (aa (ai aK (eD 5) (af 6)) (ah)))))) (skip))))
 (aX (di (aa (aj bH (aa (af 4) (ah))) (aa (aj bH (aa (eD 5) (ah))) (ah))))))))))
def lq:List D->List D->Option (D×List D):=oK .s 8 kU
theorem kD {N:Nat}{a b:Int}(B:Bag N a b){n:Nat}(h2:2<=n)(h6:n<=6)(hN:N<=800000000): ∃(r x:List Nat) (a' b':Int),lq (aH a b) [nI n]=some (aZ r x,aH a' b')/\Sq n r x/\Bag (N+2*n+2) a' b':=by
 obtain⟨p,a1,b1,e1,B1,p0,p1⟩:=dS (m:=4) B (by omega) (by decide) (by decide)
 obtain⟨q,a2,b2,e2,B2,q0,q1⟩:=dS (m:=(n:Int) -1) B1 (by omega) (by omega) (Nat.lt_of_lt_of_le (show((n:Int) -1).natAbs<10^10 by omega) (by decide))
 obtain⟨r,a3,b3,e3,or,B3⟩:=nK B2 (n:=n) (by omega) (by omega)
 obtain⟨x,a4,b4,e4,ox,B4⟩:=nK B3 (n:=n) (by omega) (by omega)
 obtain⟨q',rfl⟩: ∃j:Nat,q=(j:Int):=⟨q.toNat,by omega⟩
 have r0:jY 8 (aH a b) [nI n]=[.arg (aH a b),.v (nI n),.no,.no,.no,.no,.no,.no]:=rfl
 have s1:eo 2 (aN 0 1 cS (bZ (aa (ao (.int 4)) (ah)))) [.arg (aH a b),.v (nI n),.no,.no,.no,.no,.no,.no]=.nx [.arg (aH a1 b1),.v (nI n),.v (.int p),.no,.no,.no,.no,.no]:=
  (eF (bG (i:=0) (n:=1) (b0:=aH a b) (ds:=[.int 4]) rfl (bR rfl) rfl rfl e1)).trans rfl
 have s2:eo 3 (hZ aL (pu (ao (.int 1))) (aN 0 1 cS (bZ (aa (ai bS (af 1) (ao (.int 1))) (ah))))) [.arg (aH a1 b1),.v (nI n),.v (.int p),.no,.no,.no,.no,.no]=.nx [.arg (aH a2 b2),.v (nI n),.v (.int p),.v (nI (q'+1)),.no,.no,.no,.no]:=
  (eF (jC (hX rfl) (bG (i:=0) (n:=1) (b0:=aH a1 b1) (ds:=[.int ((n:Int) -1)]) rfl (bR rfl) rfl rfl e2) (show aL (.int 1) (nI q')=some (nI (q'+1)) by rw[bD];simp;omega))).trans rfl
 have s3:eo 4 (aN 0 1 fM (bZ (aa (af 1) (ah)))) [.arg (aH a2 b2),.v (nI n),.v (.int p),.v (nI (q'+1)),.no,.no,.no,.no]=.nx [.arg (aH a3 b3),.v (nI n),.v (.int p),.v (nI (q'+1)),.v (.lst (r.map nI)),.no,.no,.no]:=
  (eF (bG (i:=0) (n:=1) (b0:=aH a2 b2) (ds:=[nI n]) rfl (bR rfl) rfl rfl e3)).trans rfl
 have s4:pA 5 (aN 0 1 fM (bZ (aa (af 1) (ah)))) [.arg (aH a3 b3),.v (nI n),.v (.int p),.v (nI (q'+1)),.v (.lst (r.map nI)),.no,.no,.no]=.nx [.arg (aH a4 b4),.v (nI n),.v (.int p),.v (nI (q'+1)),.v (.lst (r.map nI)),.own (x.map nI),.no,.no]:=
  (vq (bG (i:=0) (n:=1) (b0:=aH a3 b3) (ds:=[nI n]) rfl (bR rfl) rfl rfl e4)).trans rfl
 have s5: ∃(r' x':List Nat),dQ (be (ai fF (af 2) (ao (.int 1)))) (ay (aT 4 (kH (af 1)))
  (fj 5 (aV 1 (fL (af 4)) (gN 8) (cx) (ai ba (ai aL (af 8) (af 3)) (af 1))))) (skip) [.arg (aH a4 b4),.v (nI n),.v (.int p),.v (nI (q'+1)),.v (.lst (r.map nI)),.own (x.map nI),.no,.no]=.nx [.arg (aH a4 b4),.v (nI n),.v (.int p),.v (nI (q'+1)),.v (.lst (r'.map nI)),.own (x'.map nI),.no,.no]/\Ord n r'/\Ord n x':=by
  unfold dQ be;rw[au (x:=.int p) (y:=.int 1) rfl rfl,gF (by rw[dX];omega),iB]
  by_cases hp:p=1
  ·refine⟨List.range n,(List.range n).map λi=>(i+(q'+1)) % n,?_,⟨.refl _⟩,vP n h2 h6 (q'+1) (by omega) (by omega)⟩
   rw[decide_eq_true hp];simp only[n4];rw[av ((bI (xn (n:=n) (by omega) (af 1) _ rfl)).trans rfl)]
   refine(lZ (dc (ds:=(List.range n).map nI) (ys:=(List.range n).map λi=>nI ((i+(q'+1)) % n)) rfl (by simp;omega) (dL _ λi hi=>⟨_,rfl,?_⟩))).trans ?_
   ·exact(au ((au (x:=nI i) (y:=nI (q'+1)) rfl rfl).trans (y6 _ _)) (y:=nI n) rfl).trans (zu (by omega))
   ·rw[List.map_map];rfl
  ·refine⟨r,x,?_,or,ox⟩
   rw[decide_eq_false hp];simp only[n4,skip]
 obtain⟨r',x',s5,or',ox'⟩:=s5
 obtain⟨x2,t6,t7,lp,ox2,hne⟩:=xq (aH a4 b4) (.int p) (nI (q'+1)) or' h2 n 0 x' .no .no (by omega) ox' (λi h=>absurd h (Nat.not_lt_zero _))
 have s6:cY (bZ (aW (aa (af 1) (ah)))) (gN 6) qR [.arg (aH a4 b4),.v (nI n),.v (.int p),.v (nI (q'+1)),.v (.lst (r'.map nI)),.own (x'.map nI),.no,.no]=.nx [.arg (aH a4 b4),.v (nI n),.v (.int p),.v (nI (q'+1)),.v (.lst (r'.map nI)),.own (x2.map nI),t6,t7]:=by
  unfold cY;rw[bR (cI (n:=n) rfl (by omega))]
  dsimp only;rw[List.range_eq_range'];exact lp
 refine⟨r',x2,a4,b4,?_,⟨or',ox2,hne⟩,by rw[show N+2*n+2=N+1+1+n+n by omega];exact B4⟩
 unfold lq oK kU;rw[r0,av s1,av s2,av s3,av s4,av s5];rw[av s6];have s7:aX (di (aa (aj bH (aa (af 4) (ah))) (aa (aj bH (aa (eD 5) (ah))) (ah)))) [.arg (aH a4 b4),.v (nI n),.v (.int p),.v (nI (q'+1)),.v (.lst (r'.map nI)),.own (x2.map nI),t6,t7]=.rt (aZ r' x2) [.arg (aH a4 b4),.v (nI n),.v (.int p),.v (nI (q'+1)),.v (.lst (r'.map nI)),.own (x2.map nI),t6,t7]:=by
  unfold aX;rw[eI (ds:=[bi r',bi x2]) rfl (by simp)]
 rw[s7];rfl
theorem pY {kd:Kd}{n:Nat}{t:FS}{bs ds b':List D}{d:D}{ρ:aB}(h:t (jY n bs ds)=.rt d ρ)(h2:j5 ρ=some b'):oK kd n t bs ds=some (d,b'):=by unfold oK;rw[h];dsimp only;rw[h2];rfl
theorem uB(r x:List Nat):dw (aZ r x)<=32:=by
 show dw (.tup [.tup (r.map nI),.tup (x.map nI)])<=32;have e: ∀l:List Nat,dw (.tup (l.map nI))=1:=λl=>by unfold dw;rw[lV]
 unfold dw gh gh gh;rw[e,e];omega
set_option maxHeartbeats 4000000
theorem uT(l:List (bq×D))(k:bq)(d:D)(k':bq):fc (l++[(k,d)]) k'=(fc l k').or (if k=k' then some d else none):=by
 unfold fc;rw[List.find?_append];cases e:l.find? λkv=>decide (kv.1=k') with
 |some z=>simp
 |none=>
  by_cases h:k=k'
  ·simp[h]
  ·simp[h]
theorem vp {l:List (bq×D)}{k:bq}(h: ¬(l.any λkv=>decide (kv.1=k))=true):fc l k=none:=by
 unfold fc;have:l.find? (λkv=>decide (kv.1=k))=none:=by
  rw[List.find?_eq_none];intro z hz e;exact h (List.any_eq_true.mpr ⟨z,hz,e⟩)
 rw[this];rfl
theorem nX(k:bq)(d:D)(k':bq): ∀l:List (bq×D),fc (l.map λkv=>if kv.1=k then(kv.1,d) else kv) k'=if k'=k then(if(l.any λkv=>decide (kv.1=k))=true then some d else none) else fc l k'
 | []=>by simp[fc]
 |(k1,d1)::l=>by
  have ih:=nX k d k' l
  have step: ∀(a:bq) (b:D) (t:List (bq×D)),fc ((a,b)::t) k'=if a=k' then some b else fc t k':=λa b t=>by
   unfold fc;rw[List.find?_cons]
   by_cases h:a=k'
   ·simp[h]
   ·simp[h]
  rw[List.map_cons,List.any_cons,step k1 d1 l]
  by_cases h1:k1=k
  ·rw[if_pos h1,step,ih]
   subst h1
   by_cases h2:k'=k1
   ·simp[h2]
   ·simp[h2,Ne.symm h2]
  ·rw[if_neg h1,step,ih]
   by_cases h2:k'=k
   ·subst h2;rw[if_neg h1,if_pos rfl,if_pos rfl,decide_eq_false h1,Bool.false_or]
   ·simp[h1,h2]
theorem tG(l:List (bq×D))(k:bq)(d:D)(k':bq):fc (iT l k d) k'=if k'=k then some d else fc l k':=by
 unfold iT;split
 ·rename_i h
  rw[nX,if_pos h]
 ·rename_i h
  rw[uT]
  by_cases e:k'=k
  ·subst e;rw[if_pos rfl,if_pos rfl,vp h];rfl
  ·rw[if_neg e,if_neg (Ne.symm e),Option.or_none]
theorem uX(l:List (bq×D))(k:bq)(d:D):(iT l k d).length<=l.length+1:=by
 unfold iT;split
 ·rw[List.length_map];omega
 ·rw[List.length_append];exact Nat.le_refl _
structure Dj(kvs:List (bq×D))(f:Nat->Option Nat)(m:Nat):Prop where
 val: ∀j:Nat,fc kvs (.inl (j:Int))=(f j).map nI
 len:kvs.length<=m
theorem Dj.put {kvs:List (bq×D)}{f:Nat->Option Nat}{m:Nat}(h:Dj kvs f m)(j v:Nat):Dj (iT kvs (.inl (j:Int)) (nI v)) (λi=>if i=j then some v else f i) (m+1):=⟨λi=>by
 rw[tG]
 by_cases e:i=j
 ·subst e;rw[if_pos rfl];show _=Option.map nI (if i=i then _ else _);rw[if_pos rfl];rfl
 ·rw[if_neg (λz=>e (by have:=Sum.inl.inj z;omega)),h.val]
  show _=Option.map nI (if i=j then _ else _)
  rw[if_neg e],Nat.le_trans (uX _ _ _) (by have:=h.len;omega)⟩
theorem Dj.nil:Dj [] (λ_=>none) 0:=⟨λ_=>rfl,Nat.le_refl _⟩
def gW(hr vl:Nat->Nat)(ok:Nat->Bool):Nat->Nat->Option Nat
 |0=>λ_=>none
 |k+1=>if ok k=true then λj=>if j=hr k then some (vl k) else gW hr vl ok k j else gW hr vl ok k
theorem mi {hr vl:Nat->Nat}{ok:Nat->Bool}: ∀ {k i:Nat},i<k->ok i=true->(∀a b,a<k->b<k->hr a=hr b->a=b)->gW hr vl ok k (hr i)=some (vl i)
 |0,_,h,_,_=>absurd h (Nat.not_lt_zero _)
 |k+1,i,h,o,inj=>by
  unfold gW
  by_cases e:i=k
  ·subst e;rw[if_pos o];show(if hr i=hr i then _ else _)=_;rw[if_pos rfl]
  ·have ih:=mi (vl:=vl) (k:=k) (i:=i) (by omega) o λa b ha hb=>inj a b (by omega) (by omega)
   split
   ·show(if hr i=hr k then _ else _)=_
    rw[if_neg (λz=>e (inj i k h (by omega) z))];exact ih
   ·exact ih
theorem sS {A B:List (bq×D)}{c v:Nat}(h:A.length<=1000):rZ [.k A,.k B] (nI 0) (nI c) (nI v)=some [.k (iT A (.inl (c:Int)) (nI v)),.k B]:=by
 show(uq (nI c) (nI v) (.k A)).map _=_;show(if A.length<=1000 then some (NO.k _) else none).map _=_
 rw[if_pos h];rfl
theorem pd {A B:List (bq×D)}{c v:Nat}(h:B.length<=1000):rZ [.k A,.k B] (nI 1) (nI c) (nI v)=some [.k A,.k (iT B (.inl (c:Int)) (nI v))]:=by
 show(uq (nI c) (nI v) (.k B)).map _=_;show(if B.length<=1000 then some (NO.k _) else none).map _=_
 rw[if_pos h];rfl
theorem gr {i:Nat}{f1 f2 fv:FE}{ρ:aB}{us us':List NO}{d j k:D}(h0:kj i ρ=some us)(h1:fv ρ=some d)(h2:f1 ρ=some j)(h3:f2 ρ=some k)(h4:rZ us j k d=some us'):dA i f1 f2 fv ρ=.nx (ρ.set i (.ob (.nst us'))):=by
 unfold dA;rw[h0,h1,h2,h3];dsimp only;rw[h4]
def ee(c e0 i:Nat):Nat:=if i=c then e0 else if c<i then i+1 else i
theorem xz {f:FE}{g:FE}{ρ:aB}{a b:Nat}(h1:f ρ=some (nI a))(h2:g ρ=some (nI b)):ai aL f (aj gU (aa (ai kG f g) ah)) ρ=some (nI (if b<a then a+1 else a)):=by
 have e:aj gU (aa (ai kG f g) ah) ρ=some (nI (if b<a then 1 else 0)):=by
  refine(br (az ((au h1 h2).trans (jH _ _)) rfl)).trans ?_
  by_cases h:b<a
  ·rw[decide_eq_true (by omega),if_pos h];rfl
  ·rw[decide_eq_false (by omega),if_neg h];rfl
 refine(au h1 e).trans ((bD _ _).trans ?_)
 show some (D.int _)=some (D.int _);congr 2
 split<;>omega
theorem jP {f g:FE}{ρ:aB}{a b:Nat}(h1:f ρ=some (nI a))(h2:g ρ=some (nI b)):be (ai fF f g) ρ=some (decide (a=b)):=cz ((au h1 h2).trans (by rw[gF (by rw[dX];omega),gl]))
theorem u5 {f g:FE}{ρ:aB}{a b:Nat}(h1:f ρ=some (nI a))(h2:g ρ=some (nI b)):be (ai ge f g) ρ=some (!decide (a=b)):=cz ((au h1 h2).trans (by rw[h9 (by rw[dX];omega),gl]))
theorem tW {p:FT}{f g:FE}{ρ:aB}{b:Bool}{u v:Nat}(hp:p ρ=some b)(h1:f ρ=some (nI u))(h2:g ρ=some (nI v)):oH p f g ρ=some (nI (if b=true then u else v)):=by
 cases b with
 |true=>exact(xA hp).trans h1
 |false=>exact(um hp).trans h2
def oR:FS:=(ay (aT 9 (ai aK (ai aK (af 0) (af 7)) (af 8)))
 (dQ (ky (be (ai fF (af 7) (ao (.int 0)))) (be (ai ge (af 8) (af 1)))) (ay (aT 10 (oH (be (ai fF (af 8) (af 1))) (ai aK (af 5) (ao (.int 0))) (ai aL (af 8) (aj gU (aa (ai kG (af 8) (af 1)) (ah))))))
 (dA 6 (af 7) (af 10) (oH (be (ai fF (af 9) (af 4))) (ai aK (af 5) (ao (.int 1))) (ai aL (af 9) (aj gU (aa (ai kG (af 9) (af 4)) (ah))))))) (skip)))
theorem vi {w n s9 s10 s11:Sl}{S:D}{us:List NO}{c q e0 e1 t i v:Nat}(hS:ai aK (ai aK (af 0) (af 7)) (af 8) [.v S,.v (nI c),w,n,.v (nI q),.v (.tup [nI e0,nI e1]),.ob (.nst us),.v (nI t),.v (nI i),s9,s10,s11]=some (nI v)):
 ∃s10',(t≠0/\i=c->oR [.v S,.v (nI c),w,n,.v (nI q),.v (.tup [nI e0,nI e1]),.ob (.nst us),.v (nI t),.v (nI i),s9,s10,s11]=.nx [.v S,.v (nI c),w,n,.v (nI q),.v (.tup [nI e0,nI e1]),.ob (.nst us),.v (nI t),.v (nI i),.v (nI v),s10',s11])/\
 (¬(t≠0/\i=c)-> ∀us',rZ us (nI t) (nI (ee c e0 i)) (nI (iO q e1 v))=some us'-> ∃s10',oR [.v S,.v (nI c),w,n,.v (nI q),.v (.tup [nI e0,nI e1]),.ob (.nst us),.v (nI t),.v (nI i),s9,s10,s11]=.nx [.v S,.v (nI c),w,n,.v (nI q),.v (.tup [nI e0,nI e1]),.ob (.nst us'),.v (nI t),.v (nI i),.v (nI v),s10',s11]):=by
 have s1:aT 9 (ai aK (ai aK (af 0) (af 7)) (af 8)) [.v S,.v (nI c),w,n,.v (nI q),.v (.tup [nI e0,nI e1]),.ob (.nst us),.v (nI t),.v (nI i),s9,s10,s11]=.nx [.v S,.v (nI c),w,n,.v (nI q),.v (.tup [nI e0,nI e1]),.ob (.nst us),.v (nI t),.v (nI i),.v (nI v),s10,s11]:=(bI hS).trans rfl
 have p1:ky (be (ai fF (af 7) (ao (.int 0)))) (be (ai ge (af 8) (af 1))) [.v S,.v (nI c),w,n,.v (nI q),.v (.tup [nI e0,nI e1]),.ob (.nst us),.v (nI t),.v (nI i),.v (nI v),s10,s11]=some (decide (t=0)|| !decide (i=c)):=kE (jP (a:=t) (b:=0) rfl rfl) (u5 (a:=i) (b:=c) rfl rfl)
 refine⟨s10,λh=>?_,λh us' hn=>?_⟩
 ·rw[decide_eq_false h.1,decide_eq_true h.2] at p1
  exact(av s1).trans (dM p1)
 ·have e:(decide (t=0)|| !decide (i=c))=true:=by
   by_cases h0:t=0
   ·rw[decide_eq_true h0];rfl
   ·rw[decide_eq_false h0,decide_eq_false (λz=>h ⟨h0,z⟩)];rfl
  rw[e] at p1;have v1:oH (be (ai fF (af 8) (af 1))) (ai aK (af 5) (ao (.int 0))) (ai aL (af 8) (aj gU (aa (ai kG (af 8) (af 1)) (ah)))) [.v S,.v (nI c),w,n,.v (nI q),.v (.tup [nI e0,nI e1]),.ob (.nst us),.v (nI t),.v (nI i),.v (nI v),s10,s11]=some (nI (ee c e0 i)):=by
   refine(tW (jP (a:=i) (b:=c) rfl rfl) (u:=e0) rfl (xz (a:=i) (b:=c) rfl rfl)).trans ?_
   unfold ee
   by_cases h1:i=c
   ·rw[decide_eq_true h1,if_pos rfl,if_pos h1]
   ·rw[decide_eq_false h1,if_neg (by decide),if_neg h1]
  have s2:=(bI (i:=10) v1)
  have v2:oH (be (ai fF (af 9) (af 4))) (ai aK (af 5) (ao (.int 1))) (ai aL (af 9) (aj gU (aa (ai kG (af 9) (af 4)) (ah)))) [.v S,.v (nI c),w,n,.v (nI q),.v (.tup [nI e0,nI e1]),.ob (.nst us),.v (nI t),.v (nI i),.v (nI v),.v (nI (ee c e0 i)),s11]=some (nI (iO q e1 v)):=by
   refine(tW (jP (a:=v) (b:=q) rfl rfl) (u:=e1) rfl (xz (a:=v) (b:=q) rfl rfl)).trans ?_
   unfold iO
   by_cases h1:v=q
   ·rw[decide_eq_true h1,if_pos rfl,if_pos h1]
   ·rw[decide_eq_false h1,if_neg (by decide),if_neg h1]
  exact⟨.v (nI (ee c e0 i)),(av s1).trans ((hV p1).trans ((av (s2.trans rfl)).trans ((gr (us:=us) rfl v2 (j:=nI t) rfl (k:=nI (ee c e0 i)) rfl hn).trans rfl)))⟩
def oV:FS:=
 ay (aT 3 (aj cb (aa (ai aK (af 0) (ao (.int 0))) (ah))))
 (ay (aT 4 (ai aK (ai aK (af 0) (ao (.int 1))) (af 1)))
 (ay (aT 5 (di (aa (ai aL (af 1) (ai ba (af 2) (ao (.int 2)))) (aa (ai aL (af 4) (ai da (af 2) (ao (.int 2)))) (ah)))))
 (ay (w6 6)
 (ay (cY (bZ (aW (aa (ao (.int 2)) (ah)))) (gN 7) (cY (bZ (aW (aa (af 3) (ah)))) (gN 8) oR))
 (ay (aT 11 (di (aa (ai bS (ai aL (ai cA (ao (.int 2)) (af 1)) (ao (.int 1))) (ai aK (af 5) (ao (.int 0)))) (aa (ai bS (ai aL (ai cA (ao (.int 2)) (af 4)) (ao (.int 1))) (ai aK (af 5) (ao (.int 1)))) (ah)))))
 (ay (dA 6 (ao (.int 0)) (ai aK (af 11) (ao (.int 0))) (ai aK (af 11) (ao (.int 1))))
 (ay (dA 6 (ao (.int 1)) (ai aK (af 5) (ao (.int 0))) (ai aK (af 11) (ao (.int 1))))
 (ay (dA 6 (ao (.int 1)) (ai aK (af 11) (ao (.int 0))) (ai aK (af 5) (ao (.int 1))))
 (sH 6 (aX (aj bH (aa (aV 1 (lm 6) (gR 12) (cx) (aj bH (aa (aV 1 (aW (aa (ai aL (af 3) (ao (.int 1))) (ah))) (gN 13) (cx) (rL 12 (af 13))) (ah)))) (ah)))))))))))))
def yt:List D->Option D:=iw .s 12 oV
theorem nT {g:FG}{b:FS}{P:Nat->aB->Prop}: ∀(k j:Nat),(∀i ρ,j<=i->i<j+k->P i ρ-> ∃ρ1 ρ2,g (nI i) ρ=some ρ1/\b ρ1=.nx ρ2/\P (i+1) ρ2)-> ∀ρ,P j ρ-> ∃ρ',dE g b ((List.range' j k).map nI) ρ=.nx ρ'/\P (j+k) ρ'
 |0,j,_,ρ,p=>⟨ρ,rfl,p⟩
 |k+1,j,h,ρ,p=>by
  obtain⟨ρ1,ρ2,h1,h2,p2⟩:=h j ρ (Nat.le_refl _) (by omega) p
  obtain⟨ρ',h3,p3⟩:=nT k (j+1) (λi ρ a b=>h i ρ (by omega) (by omega)) ρ2 p2
  refine⟨ρ',?_,by rwa [show j+(k+1)=j+1+k by omega]⟩
  rw[List.range'_succ,List.map_cons,db h1 h2];exact h3
theorem kh {ρ:aB}{r x:List Nat}{n:Nat}(hr:r.length=n)(hx:x.length=n)(f g:FE){t i:Nat}{S:Sl}(h0:af 0 ρ=some (aZ r x))(ht:t<2)(hi:i<n)(hf:f ρ=some (nI t))(hg:g ρ=some (nI i)):ai aK (ai aK (af 0) f) g ρ=some (nI ((if t=0 then r else x).getD i 0)):=by
 have e:ai aK (af 0) f ρ=some (bi (if t=0 then r else x)):=by
  refine(au h0 hf).trans ?_
  rcases(by omega:t=0\/t=1) with rfl|rfl<;>rfl
 refine(au e hg).trans ?_
 show kL ((if t=0 then r else x).map nI) (i:Int)=_
 rw[u9 (by split<;>omega)]
theorem uz {hr vl:Nat->Nat}{ok:Nat->Bool}{k:Nat}(h:ok k=true):gW hr vl ok (k+1)=λj=>if j=hr k then some (vl k) else gW hr vl ok k j:=if_pos h
theorem yv {hr vl:Nat->Nat}{ok:Nat->Bool}{k:Nat}(h:ok k=false):gW hr vl ok (k+1)=gW hr vl ok k:=if_neg (by rw[h];decide)
section
variable {n:Nat}{r x:List Nat}{c w:Nat}
theorem ya {L:List Nat}{m:Nat}(h:L.length=m):((List.range m).map λj=>nI (L.getD j 0))=L.map nI:=by
 subst h;apply List.ext_getElem?
 intro i;rw[List.getElem?_map,List.getElem?_map]
 by_cases hi:i<L.length
 ·rw[List.getElem?_range hi,List.getElem?_eq_getElem hi]
  show some (nI _)=some (nI _);rw[List.getD_eq_getElem?_getD,List.getElem?_eq_getElem hi];rfl
 ·rw[List.getElem?_eq_none (by simpa using hi),List.getElem?_eq_none (by simpa using hi)];rfl
theorem BY {A:List (bq×D)}{f:Nat->Option Nat}{m n:Nat}{L:List Nat}(J:Dj A f m)(hL:L.length=n+1)(hn:n<=10)(hf: ∀j,j<=n->f j=some (L.getD j 0))(ρ:aB)(hl:ρ.length=12)(h3:af 3 ρ=some (nI n)):
 aj bH (aa (aV 1 (aW (aa (ai aL (af 3) (ao (.int 1))) (ah))) (gN 13) (cx) (rL 12 (af 13))) (ah)) (ρ++[.ob (.dR A)])=some (bi L):=by
 have e3:af 3 (ρ++[.ob (.dR A)])=some (nI n):=by
  unfold af at h3⊢;rw[List.getElem?_append_left (by omega)];exact h3
 have key:aV 1 (aW (aa (ai aL (af 3) (ao (.int 1))) (ah))) (gN 13) (cx) (rL 12 (af 13)) (ρ++[.ob (.dR A)])=some (.lst ((List.range (n+1)).map λj=>nI (L.getD j 0))):=by
  refine dc (ds:=(List.range (n+1)).map nI) (cI (n:=n+1) (az ((au e3 (y:=.int 1) rfl).trans (vk n)) rfl) (by omega)) (by simp;omega) (dL (h:=nI) (o:=λj=>nI (L.getD j 0)) (List.range (n+1)) λj hj=>⟨_,rfl,?_⟩)
  rw[List.mem_range] at hj;have l13:(ρ++[Sl.ob (.dR A)]).length=13:=by simp[hl]
  have g12:tE 12 (((ρ++[Sl.ob (.dR A)])++List.replicate 1 Sl.no).set 13 (.v (nI j)))=some A:=by
   unfold tE;rw[List.getElem?_set_ne (by omega),List.getElem?_append_left (by omega),List.getElem?_append_right (by omega),hl];rfl
  have g13:af 13 (((ρ++[Sl.ob (.dR A)])++List.replicate 1 Sl.no).set 13 (.v (nI j)))=some (nI j):=by
   unfold af;rw[List.getElem?_set_self (by simp[hl])]
  unfold rL;rw[g12,g13];show fc A (.inl (j:Int))=_;rw[J.val,hf j (by omega)];rfl
 rw[br (az key rfl)];show some (D.tup _)=some (D.tup _);rw[ya hL]
theorem uk {g:List (bq×D)->aB->Option aB}{f:FE}{gi:aB->Option (List (List (bq×D)))}{ρ ρ1 ρ2:aB}{A B:List (bq×D)}{d1 d2:D}(h:gi ρ=some [A,B])(h1:g A (ρ++List.replicate 1 .no)=some ρ1)(e1:f ρ1=some d1)(h2:g B (ρ++List.replicate 1 .no)=some ρ2)(e2:f ρ2=some d2):aV 1 gi g cx f ρ=some (.lst [d1,d2]):=by
 have c1:bF g cx f (ρ++List.replicate 1 .no) [B]=some [d2]:=by
  unfold bF;rw[h2];show((f ρ2).bind λy=>(bF g cx f (ρ++List.replicate 1 .no) []).map (y:: ·))=_
  rw[e2];rfl
 have c2:bF g cx f (ρ++List.replicate 1 .no) [A,B]=some [d1,d2]:=by
  unfold bF;rw[h1];show((f ρ1).bind λy=>(bF g cx f (ρ++List.replicate 1 .no) [B]).map (y:: ·))=_
  rw[e1,c1];rfl
 unfold aV;rw[h,Option.bind_some,if_pos (Nat.le_of_ble_eq_true rfl),c2];rfl
theorem wj {i:Nat}{t:FS}{ρ ρ':aB}(h:AA i ρ=some ρ'):sH i t ρ=t ρ':=by unfold sH;rw[h]
def fb(r x:List Nat)(c w q e0 e1 n:Nat)(A B:List (bq×D))(s7 s8 s9 s10 s11:Sl):aB:=[.v (aZ r x),.v (nI c),.v (nI w),.v (nI n),.v (nI q),.v (.tup [nI e0,nI e1]),.ob (.nst [.k A,.k B]),s7,s8,s9,s10,s11]
theorem qt(hr:r.length=n)(hx:x.length=n)(hn:n<=10){q e0 e1 t:Nat}(ht:t<2){A B:List (bq×D)}(hA:t=0->A=[])(hB:t=1->B=[])(s8 s9 s10:Sl)(s11:Sl):
 ∃A' B' s8' s9' s10',cY (bZ (aW (aa (af 3) (ah)))) (gN 8) oR (fb r x c w q e0 e1 n A B (.v (nI t)) s8 s9 s10 s11)=.nx (fb r x c w q e0 e1 n A' B' (.v (nI t)) s8' s9' s10' s11)/\
  (t=0->Dj A' (gW (ee c e0) (λi=>iO q e1 (r.getD i 0)) (λ_=>true) n) n/\B'=B)/\(t=1->Dj B' (gW (ee c e0) (λi=>iO q e1 (x.getD i 0)) (λi=> !decide (i=c)) n) n/\A'=A):=by
 obtain⟨ρ',h1,A',B',s8',s9',s10',rfl,h2,h3⟩:=jA (f:=bZ (aW (aa (af 3) (ah)))) (g:=gN 8) (b:=oR) (ρ:=fb r x c w q e0 e1 n A B (.v (nI t)) s8 s9 s10 s11) (ds:=(List.range' 0 n).map nI)
  (P:=λρ=> ∃A' B' s8' s9' s10',ρ=fb r x c w q e0 e1 n A' B' (.v (nI t)) s8' s9' s10' s11/\(t=0->Dj A' (gW (ee c e0) (λi=>iO q e1 (r.getD i 0)) (λ_=>true) n) n/\B'=B)/\(t=1->Dj B' (gW (ee c e0) (λi=>iO q e1 (x.getD i 0)) (λi=> !decide (i=c)) n) n/\A'=A))
  (bR (by rw[<-List.range_eq_range'];exact cI (n:=n) rfl (by omega))) (by
    have:=nT (g:=gN 8) (b:=oR) (P:=λk ρ=> ∃A' B' s8' s9' s10',ρ=fb r x c w q e0 e1 n A' B' (.v (nI t)) s8' s9' s10' s11/\(t=0->Dj A' (gW (ee c e0) (λi=>iO q e1 (r.getD i 0)) (λ_=>true) k) k/\B'=B)/\(t=1->Dj B' (gW (ee c e0) (λi=>iO q e1 (x.getD i 0)) (λi=> !decide (i=c)) k) k/\A'=A)) n 0 (λi ρ _ hi hρ=>?_) (fb r x c w q e0 e1 n A B (.v (nI t)) s8 s9 s10 s11) ⟨A,B,s8,s9,s10,rfl,λh=>⟨by rw[hA h];exact Dj.nil,rfl⟩,λh=>⟨by rw[hB h];exact Dj.nil,rfl⟩⟩
    ·rwa [Nat.zero_add] at this
    obtain⟨A',B',s8',s9',s10',rfl,g0,g1⟩:=hρ
    rw[Nat.zero_add] at hi;have hS:ai aK (ai aK (af 0) (af 7)) (af 8) (fb r x c w q e0 e1 n A' B' (.v (nI t)) (.v (nI i)) s9' s10' s11)=some (nI ((if t=0 then r else x).getD i 0)):=kh (S:=.no) hr hx _ _ rfl ht hi rfl rfl
    obtain⟨s10'',k1,k2⟩:=vi (w:=.v (nI w)) (n:=.v (nI n)) (us:=[.k A',.k B']) hS
    refine⟨fb r x c w q e0 e1 n A' B' (.v (nI t)) (.v (nI i)) s9' s10' s11,?_⟩
    rcases(by omega:t=0\/t=1) with rfl|rfl
    ·obtain⟨J,eB⟩:=g0 rfl
     obtain⟨z,hz⟩:=k2 (λh=>h.1 rfl) _ (sS (by have:=J.len;omega))
     refine⟨_,rfl,hz,_,_,_,_,_,rfl,λ_=>⟨?_,eB⟩,λh=>by cases h⟩
     have:=J.put (ee c e0 i) (iO q e1 (r.getD i 0))
     rw[uz rfl];exact this
    ·obtain⟨J,eA⟩:=g1 rfl
     by_cases hic:i=c
     ·refine⟨_,rfl,k1 ⟨by decide,hic⟩,_,_,_,_,_,rfl,λh=>(by cases h),λ_=>⟨?_,eA⟩⟩
      rw[yv (by rw[decide_eq_true hic];rfl)]
      exact⟨J.val,by have:=J.len;omega⟩
     ·obtain⟨z,hz⟩:=k2 (λh=>hic h.2) _ (pd (by have:=J.len;omega))
      refine⟨_,rfl,hz,_,_,_,_,_,rfl,λh=>(by cases h),λ_=>⟨?_,eA⟩⟩
      have:=J.put (ee c e0 i) (iO q e1 (x.getD i 0))
      rw[uz (by rw[decide_eq_false hic];rfl)]
      exact this)
 exact⟨A',B',s8',s9',s10',h1,h2,h3⟩
theorem qV {c w:Nat}{n:Nat}: ∀a b,a<n->b<n->ee c (cm c w) a=ee c (cm c w) b->a=b:=by
 intro a b _ _ h;unfold ee cm at h;have:=Nat.mod_lt w (show 0<2 by decide)
 split at h<;>split at h<;>(try split at h)<;>(try split at h)<;>omega
theorem qI(R:Ord n r)(X:Ord n x)(h2:2<=n)(hn:n<=6)(hc:c<n)(hw:w<4):yt [aZ r x,nI c,nI w]=some (aZ (eU r (x.getD c 0) (cp (x.getD c 0) w) (aG c w) (ci (x.getD c 0) w)) (eU x (x.getD c 0) (ci (x.getD c 0) w) (aG c w) (cp (x.getD c 0) w))):=by
 have hr:=R.len
 have hx:=X.len
 have hw2:=Nat.mod_lt w (show 0<2 by decide)
 apply fC (kd:=.s) (n:=12) (t:=oV)
 unfold oV;have hqn:x.getD c 0<n:=X.lt (by rw[List.getD_eq_getElem?_getD,List.getElem?_eq_getElem (by omega)];exact List.getElem_mem _)
 generalize hq:x.getD c 0=q at hqn⊢
 have s1:aT 3 (aj cb (aa (ai aK (af 0) (ao (.int 0))) (ah))) (eG 12 [aZ r x,nI c,nI w])=.nx [.v (aZ r x),.v (nI c),.v (nI w),.v (nI n),.no,.no,.no,.no,.no,.no,.no,.no]:=(bI (hr▸dY r _ _ rfl)).trans rfl
 have s2:aT 4 (ai aK (ai aK (af 0) (ao (.int 1))) (af 1)) [.v (aZ r x),.v (nI c),.v (nI w),.v (nI n),.no,.no,.no,.no,.no,.no,.no,.no]=.nx [.v (aZ r x),.v (nI c),.v (nI w),.v (nI n),.v (nI q),.no,.no,.no,.no,.no,.no,.no]:=(bI ((kh (S:=.no) hr hx _ _ (t:=1) rfl (by omega) hc rfl rfl).trans (by rw[if_neg (by decide),hq]))).trans rfl
 have md:ba (nI w) (.int 2)=some (nI (w % 2)):=by
  rcases(by omega:w=0\/w=1\/w=2\/w=3) with rfl|rfl|rfl|rfl<;>rfl
 have fd:da (nI w) (.int 2)=some (nI (w / 2)):=by
  rcases(by omega:w=0\/w=1\/w=2\/w=3) with rfl|rfl|rfl|rfl<;>kernel_rfl
 have s3:aT 5 (di (aa (ai aL (af 1) (ai ba (af 2) (ao (.int 2)))) (aa (ai aL (af 4) (ai da (af 2) (ao (.int 2)))) (ah)))) [.v (aZ r x),.v (nI c),.v (nI w),.v (nI n),.v (nI q),.no,.no,.no,.no,.no,.no,.no]=.nx [.v (aZ r x),.v (nI c),.v (nI w),.v (nI n),.v (nI q),.v (.tup [nI (cm c w),nI (cp q w)]),.no,.no,.no,.no,.no,.no]:=
  (bI (eI (az ((au (x:=nI c) (y:=nI (w % 2)) rfl ((au (x:=nI w) (y:=.int 2) rfl rfl).trans md)).trans (bD _ _)) (az ((au (x:=nI q) (y:=nI (w / 2)) rfl ((au (x:=nI w) (y:=.int 2) rfl rfl).trans fd)).trans (bD _ _)) rfl)) (by show 2<=1000;omega))).trans rfl
 have s4:w6 6 [.v (aZ r x),.v (nI c),.v (nI w),.v (nI n),.v (nI q),.v (.tup [nI (cm c w),nI (cp q w)]),.no,.no,.no,.no,.no,.no]=.nx (fb r x c w q (cm c w) (cp q w) n [] [] .no .no .no .no .no):=rfl
 obtain⟨A0,B0,a8,a9,a10,l0,j0,_⟩:=qt (r:=r) (x:=x) (c:=c) (w:=w) hr hx (by omega) (q:=q) (e0:=cm c w) (e1:=cp q w) (t:=0) (by omega) (A:=[]) (B:=[]) (λ_=>rfl) (λ_=>rfl) .no .no .no .no
 obtain⟨J0,eB0⟩:=j0 rfl
 subst eB0;obtain⟨A1,B1,b8,b9,b10,l1,_,j1⟩:=qt (r:=r) (x:=x) (c:=c) (w:=w) hr hx (by omega) (q:=q) (e0:=cm c w) (e1:=cp q w) (t:=1) (by omega) (A:=A0) (B:=[]) (λh=>by cases h) (λ_=>rfl) a8 a9 a10 .no
 obtain⟨J1,eA1⟩:=j1 rfl
 subst eA1;have s5:cY (bZ (aW (aa (ao (.int 2)) (ah)))) (gN 7) (cY (bZ (aW (aa (af 3) (ah)))) (gN 8) oR) (fb r x c w q (cm c w) (cp q w) n [] [] .no .no .no .no .no)=.nx (fb r x c w q (cm c w) (cp q w) n A1 B1 (.v (nI 1)) b8 b9 b10 .no):=by
  rw[gP (ds:=[nI 0,nI 1]) (ρ1:=fb r x c w q (cm c w) (cp q w) n [] [] .no .no .no .no .no) (bR ((cI (n:=2) rfl (by omega)).trans rfl))]
  rw[db (ρ1:=fb r x c w q (cm c w) (cp q w) n [] [] (.v (nI 0)) .no .no .no .no) rfl l0,db (ρ1:=fb r x c w q (cm c w) (cp q w) n A1 [] (.v (nI 1)) a8 a9 a10 .no) rfl l1];rfl
 have f0:2*c+1-cm c w=aG c w:=by unfold cm aG;omega
 have f1:2*q+1-cp q w=ci q w:=by unfold cp ci;omega
 have ac: ∀(a e f:Nat) (F G:FE) (ρ:aB),F ρ=some (nI a)->G ρ=some (nI e)->2*a+1-e=f->e<=2*a+1->a<100->ai bS (ai aL (ai cA (ao (.int 2)) F) (ao (.int 1))) G ρ=some (nI f):=λa e f F G ρ h1 h2 h3 h4 h5=>by
  have m2:ai cA (ao (.int 2)) F ρ=some (.int (2*a)):=(au (x:=.int 2) rfl h1).trans (eX (by decide) (Nat.lt_of_lt_of_le (show((a:Int)).natAbs<100 by omega) (by decide)))
  refine(au ((au m2 (y:=.int 1) rfl).trans (bD _ _)) h2).trans ((dq _ _).trans ?_)
  show some (D.int _)=some (D.int _);congr 2
  omega
 have s6:aT 11 (di (aa (ai bS (ai aL (ai cA (ao (.int 2)) (af 1)) (ao (.int 1))) (ai aK (af 5) (ao (.int 0)))) (aa (ai bS (ai aL (ai cA (ao (.int 2)) (af 4)) (ao (.int 1))) (ai aK (af 5) (ao (.int 1)))) (ah)))) (fb r x c w q (cm c w) (cp q w) n A1 B1 (.v (nI 1)) b8 b9 b10 .no)=.nx (fb r x c w q (cm c w) (cp q w) n A1 B1 (.v (nI 1)) b8 b9 b10 (.v (.tup [nI (aG c w),nI (ci q w)]))):=
  (bI (eI (az (ac c _ _ _ _ _ rfl rfl f0 (by unfold cm;omega) (by omega)) (az (ac q _ _ _ _ _ rfl rfl f1 (by unfold cp;omega) (by omega)) rfl)) (by show 2<=1000;omega))).trans rfl
 have J0':=J0.put (aG c w) (ci q w)
 have J1':=(J1.put (cm c w) (ci q w)).put (aG c w) (cp q w)
 have la:=J0.len
 have lb:=J1.len
 have lb1:=(J1.put (cm c w) (ci q w)).len
 generalize hA2:iT A1 (.inl ((aG c w:Nat):Int)) (nI (ci q w))=A2 at J0'
 generalize hB2:iT B1 (.inl ((cm c w:Nat):Int)) (nI (ci q w))=B2 at J1' lb1
 generalize hB3:iT B2 (.inl ((aG c w:Nat):Int)) (nI (cp q w))=B3 at J1'
 have s7:dA 6 (ao (.int 0)) (ai aK (af 11) (ao (.int 0))) (ai aK (af 11) (ao (.int 1))) (fb r x c w q (cm c w) (cp q w) n A1 B1 (.v (nI 1)) b8 b9 b10 (.v (.tup [nI (aG c w),nI (ci q w)])))=.nx (fb r x c w q (cm c w) (cp q w) n A2 B1 (.v (nI 1)) b8 b9 b10 (.v (.tup [nI (aG c w),nI (ci q w)]))):=by
  rw[<-hA2];exact(gr (d:=nI (ci q w)) (j:=nI 0) (k:=nI (aG c w)) rfl rfl rfl rfl (sS (by omega))).trans rfl
 have s8:dA 6 (ao (.int 1)) (ai aK (af 5) (ao (.int 0))) (ai aK (af 11) (ao (.int 1))) (fb r x c w q (cm c w) (cp q w) n A2 B1 (.v (nI 1)) b8 b9 b10 (.v (.tup [nI (aG c w),nI (ci q w)])))=.nx (fb r x c w q (cm c w) (cp q w) n A2 B2 (.v (nI 1)) b8 b9 b10 (.v (.tup [nI (aG c w),nI (ci q w)]))):=by
  rw[<-hB2];exact(gr (d:=nI (ci q w)) (j:=nI 1) (k:=nI (cm c w)) rfl rfl rfl rfl (pd (by omega))).trans rfl
 have s9:dA 6 (ao (.int 1)) (ai aK (af 11) (ao (.int 0))) (ai aK (af 5) (ao (.int 1))) (fb r x c w q (cm c w) (cp q w) n A2 B2 (.v (nI 1)) b8 b9 b10 (.v (.tup [nI (aG c w),nI (ci q w)])))=.nx (fb r x c w q (cm c w) (cp q w) n A2 B3 (.v (nI 1)) b8 b9 b10 (.v (.tup [nI (aG c w),nI (ci q w)]))):=by
  rw[<-hB3];exact(gr (d:=nI (cp q w)) (j:=nI 1) (k:=nI (aG c w)) rfl rfl rfl rfl (pd (by omega))).trans rfl
 have hf:aG c w<=n:=by unfold aG;omega
 have v0: ∀j,j<=n->(if j=aG c w then some (ci q w) else gW (ee c (cm c w)) (λi=>iO q (cp q w) (r.getD i 0)) (λ_=>true) n j)=some ((eU r q (cp q w) (aG c w) (ci q w)).getD j 0):=λj hj=>by
  rw[de hr _ _ _ _ _ hf hj]
  by_cases e:j=aG c w
  ·rw[if_pos e,if_pos e]
  ·rw[if_neg e,if_neg e]
   have hh:ee c (cm c w) (if j<aG c w then j else j-1)=j:=by
    unfold ee cm;unfold aG at e⊢;split<;>split<;>(try split)<;>omega
   have:=mi (hr:=ee c (cm c w)) (vl:=λi=>iO q (cp q w) (r.getD i 0)) (ok:=λ_=>true) (k:=n) (i:=if j<aG c w then j else j-1) (by unfold aG at e⊢;split<;>omega) rfl qV
   rw[hh] at this;exact this
 have v1: ∀j,j<=n->(if j=aG c w then some (cp q w) else if j=cm c w then some (ci q w) else gW (ee c (cm c w)) (λi=>iO q (cp q w) (x.getD i 0)) (λi=> !decide (i=c)) n j)=some ((eU x q (ci q w) (aG c w) (cp q w)).getD j 0):=λj hj=>by
  rw[de hx _ _ _ _ _ hf hj]
  by_cases e:j=aG c w
  ·rw[if_pos e,if_pos e]
  ·rw[if_neg e,if_neg e]
   by_cases e2:j=cm c w
   ·rw[if_pos e2]
    have:(if j<aG c w then j else j-1)=c:=by unfold aG cm at*;split<;>omega
    rw[this,hq];unfold iO;rw[if_pos rfl]
   ·rw[if_neg e2]
    have hh:ee c (cm c w) (if j<aG c w then j else j-1)=j:=by
     unfold ee cm;unfold aG at e⊢;unfold cm at e2;split<;>split<;>(try split)<;>omega
    have ni:(if j<aG c w then j else j-1)≠c:=λz=>by rw[z] at hh;unfold ee at hh;rw[if_pos rfl] at hh;exact e2 hh.symm
    have li:(if j<aG c w then j else j-1)<n:=by unfold aG at e⊢;split<;>omega
    have:=mi (hr:=ee c (cm c w)) (vl:=λi=>iO q (cp q w) (x.getD i 0)) (ok:=λi=> !decide (i=c)) (k:=n) (i:=if j<aG c w then j else j-1) li (by rw[decide_eq_false ni];rfl) qV
    rw[hh] at this;rw[this];have nq:x.getD (if j<aG c w then j else j-1) 0≠q:=λz=>ni (X.inj li hc (by rw[z,hq]))
    unfold iO;rw[if_neg nq,if_neg nq]
 have fin:=uk (g:=gR 12) (gi:=lm 6) (ρ:=[.v (aZ r x),.v (nI c),.v (nI w),.v (nI n),.v (nI q),.v (.tup [nI (cm c w),nI (cp q w)]),.ob (.dRs [A2,B3]),.v (nI 1),b8,b9,b10,.v (.tup [nI (aG c w),nI (ci q w)])]) (ρ1:=[.v (aZ r x),.v (nI c),.v (nI w),.v (nI n),.v (nI q),.v (.tup [nI (cm c w),nI (cp q w)]),.ob (.dRs [A2,B3]),.v (nI 1),b8,b9,b10,.v (.tup [nI (aG c w),nI (ci q w)])]++[.ob (.dR A2)]) (ρ2:=[.v (aZ r x),.v (nI c),.v (nI w),.v (nI n),.v (nI q),.v (.tup [nI (cm c w),nI (cp q w)]),.ob (.dRs [A2,B3]),.v (nI 1),b8,b9,b10,.v (.tup [nI (aG c w),nI (ci q w)])]++[.ob (.dR B3)]) (A:=A2) (B:=B3) rfl rfl (BY J0' (L:=eU r q (cp q w) (aG c w) (ci q w)) (by rw[iy,hr]) (by omega) v0 _ rfl rfl) rfl (BY J1' (L:=eU x q (ci q w) (aG c w) (cp q w)) (by rw[iy,hx]) (by omega) v1 _ rfl rfl)
 refine⟨[.v (aZ r x),.v (nI c),.v (nI w),.v (nI n),.v (nI q),.v (.tup [nI (cm c w),nI (cp q w)]),.ob (.dRs [A2,B3]),.v (nI 1),b8,b9,b10,.v (.tup [nI (aG c w),nI (ci q w)])],(av s1).trans ((av s2).trans ((av s3).trans ((av s4).trans ((av s5).trans ((av s6).trans ((av s7).trans ((av s8).trans ((av s9).trans ?_))))))))⟩
 refine(wj (ρ':=_) rfl).trans (bP ((br (az fin rfl)).trans rfl))
end
def xV:FS:=(ay (fj 8 (aV 1 (aW (aa (aj cb (aa (ai aK (af 0) (ao (.int 0))) (ah))) (ah))) (gN 9) (be (ai ge (af 9) (af 4))) (ai aK (ai aK (af 0) (af 7)) (af 9))))
 (ay (dQ (be (ai fF (af 7) (ao (.int 1)))) (dv (cN 8 (af 1)) (pu (af 2))) (skip))
 (kX 6 (aV 1 (mR (eD 8)) (gN 9) (cx) (ai bS (af 9) (aj gU (aa (ai kG (af 9) (aj eW (aa (af 5) (aa (af 2) (ah))))) (ah))))))))
def mX:FS:=
 ay (aT 4 (ai bS (ai aL (af 1) (ao (.int 1))) (ai ba (af 3) (ao (.int 2)))))
 (ay (aT 5 (ai bS (ai aL (af 2) (ao (.int 1))) (ai da (af 3) (ao (.int 2)))))
 (ay (qb 6)
 (ay (cY (bZ (aW (aa (ao (.int 2)) (ah)))) (gN 7) xV)
 (ay (dA 6 (ao (.int 1)) (af 1) (af 2))
 (oF 6 (aX (di (aa (aj bH (aa (ai aK (af 6) (ao (.int 0))) (ah))) (aa (aj bH (aa (ai aK (af 6) (ao (.int 1))) (ah))) (ah))))))))))
def wR:List D->Option D:=iw .s 9 mX
def pM:FS:=
 ay (aT 1 (aj cb (aa (ai aK (af 0) (ao (.int 0))) (ah))))
 (ay (dQ (ky (fI (aj mq (aa (aV 1 (fL (af 0)) (gN 2) (cx) (ai ge (aj ck (aa (af 2) (ah))) (kH (af 1)))) (ah)))) (be (ai zF (af 1) (ao (.int 2))))) (aX (ao (.bl false))) (skip))
 (aX (oM (gz (be (aj mq (aa (aV 1 (aW (aa (af 1) (ah))) (gN 2) (cx) (ai fF (ai aK (ai aK (af 0) (ao (.int 0))) (af 2)) (ai aK (ai aK (af 0) (ao (.int 1))) (af 2)))) (ah))))))))
def yS:List D->Option D:=iw .s 2 pM
theorem si {n:Nat}{o:List Nat}(O:Ord n o)(hn:n<=6):ck [bi o]=some (.lst ((List.range n).map nI)):=by
 show(gc (o.map nI)).map D.lst=_;unfold gc;rw[if_pos (by rw[List.length_map,O.len];omega)]
 have e:o.map nI=(o.map λ(v:Nat)=>(v:Int)).map D.int:=by rw[List.map_map];rfl
 rw[e,n8];have:(List.range n).map (λ(v:Nat)=>(v:Int))=eP tY (o.map λ(v:Nat)=>(v:Int)):=by
  refine lO ze (O.perm.symm.map _) ?_
  rw[List.pairwise_map];refine List.Pairwise.imp (λ{a b} h=>?_) List.pairwise_lt_range
  simp only[tY,decide_eq_false_iff_not];omega
 show some (D.lst ((eP tY (o.map λ(v:Nat)=>(v:Int))).map D.int))=_
 rw[<-this,List.map_map];rfl
theorem AE {f:FE}{ρ:aB}{m:Nat}(h:f ρ=some (nI m))(hm:m<=1000):kH f ρ=some (.lst ((List.range m).map nI)):=by
 unfold kH;rw[h];show(if((m:Int)).natAbs<=1000000 then some (D.lst (oJ 0 ((m:Int)).toNat)) else none)=_
 rw[if_pos (by omega),Int.toNat_natCast,qW]
def xb(q m:Nat):Nat:=if q<m then m-1 else m
def gA(l:List Nat)(col:Nat):List Nat:=((List.range l.length).filter λi=> !decide (i=col)).map λi=>l.getD i 0
theorem ko(l:List Nat)(q col:Nat):aA l q col=(gA l col).map (xb q):=by unfold aA gA;rw[List.map_map];rfl
theorem sM {f:Nat->Nat}(l:List Nat)(c v:Nat):(l.set c v).map f=(l.map f).set c (f v):=by rw[List.map_set]
def e7(r x:List Nat)(c q w:Nat)(us:List NO)(s7 s8:Sl):aB:=[.v (aZ r x),.v (nI c),.v (nI q),.v (nI w),.v (nI (aG c w)),.v (nI (ci q w)),.ob (.nst us),s7,s8]
section
variable {n:Nat}{r x:List Nat}{c q w:Nat}
theorem zc {f g:FE}{ρ:aB}{m a b:Nat}(h1:f ρ=some (nI m))(h2:g ρ=some (nI a)):ai bS f (aj gU (aa (ai kG f g) ah)) ρ=some (nI (xb a m)):=by
 have e:aj gU (aa (ai kG f g) ah) ρ=some (nI (if a<m then 1 else 0)):=by
  refine(br (az ((au h1 h2).trans (jH _ _)) rfl)).trans ?_
  by_cases h:a<m
  ·rw[decide_eq_true (by omega),if_pos h];rfl
  ·rw[decide_eq_false (by omega),if_neg h];rfl
 refine(au h1 e).trans ((dq _ _).trans ?_)
 show some (D.int _)=some (D.int _);congr 2
 unfold xb;split<;>omega
theorem qr(hr:r.length=n)(hx:x.length=n)(hn:n<=7)(hc:c+1<n)(hw:w<4){t:Nat}(ht:t<2){us:List NO}(hu:us.length<=1000)(s8:Sl):
 ∃s8',xV (e7 r x c q w us (.v (nI t)) s8)=.nx (e7 r x c q w (us++[.l ((if t=0 then aA r q (aG c w) else(aA x q (aG c w)).set c q).map nI)]) (.v (nI t)) s8'):=by
 let l:=if t=0 then r else x
 have hl:l.length=n:=by show(if t=0 then r else x).length=n;split<;>assumption
 have dl:(gA l (aG c w)).length=n-1:=by
  have e:(aA l q (aG c w)).length=n-1:=eO hl (by omega) (by unfold aG;omega)
  rw[ko,List.length_map] at e;exact e
 have c1:aV 1 (aW (aa (aj cb (aa (ai aK (af 0) (ao (.int 0))) (ah))) (ah))) (gN 9) (be (ai ge (af 9) (af 4))) (ai aK (ai aK (af 0) (af 7)) (af 9)) (e7 r x c q w us (.v (nI t)) s8)=some (.lst ((gA l (aG c w)).map nI)):=by
  refine dc (ds:=(List.range n).map nI) (cI (n:=n) (az (hr▸dY r _ _ rfl) rfl) (by omega)) (by simp;omega) ((iX (h:=nI) (o:=λi=>nI (l.getD i 0)) (q:=λi=> !decide (i=aG c w)) (List.range n) λi hi=>⟨_,rfl,u5 (a:=i) (b:=aG c w) rfl rfl,λ_=>?_⟩).trans (by unfold gA;rw[hl,List.map_map];rfl))
  exact kh (S:=.no) hr hx _ _ (t:=t) rfl ht (List.mem_range.mp hi) rfl rfl
 have s1:fj 8 (aV 1 (aW (aa (aj cb (aa (ai aK (af 0) (ao (.int 0))) (ah))) (ah))) (gN 9) (be (ai ge (af 9) (af 4))) (ai aK (ai aK (af 0) (af 7)) (af 9))) (e7 r x c q w us (.v (nI t)) s8)=.nx (e7 r x c q w us (.v (nI t)) (.own ((gA l (aG c w)).map nI))):=(lZ c1).trans rfl
 let l2:=if t=0 then gA r (aG c w) else(gA x (aG c w)).set c q
 have hl2:l2.length<=10:=by
  show(if t=0 then gA r (aG c w) else(gA x (aG c w)).set c q).length<=10
  by_cases e:t=0
  ·rw[if_pos e];rw[show l=r from if_pos e] at dl;omega
  ·rw[if_neg e,List.length_set];rw[show l=x from if_neg e] at dl;omega
 have s2:dQ (be (ai fF (af 7) (ao (.int 1)))) (dv (cN 8 (af 1)) (pu (af 2))) (skip) (e7 r x c q w us (.v (nI t)) (.own ((gA l (aG c w)).map nI)))=.nx (e7 r x c q w us (.v (nI t)) (.own (l2.map nI))):=by
  have p:be (ai fF (af 7) (ao (.int 1))) (e7 r x c q w us (.v (nI t)) (.own ((gA l (aG c w)).map nI)))=some (decide (t=1)):=jP (a:=t) (b:=1) rfl rfl
  rcases(by omega:t=0\/t=1) with e|e
  ·subst e
   exact dM p
  ·subst e
   refine(hV p).trans ((mw (hX rfl) (ki (i:=8) (fi:=af 1) (j:=c) (bs:=(gA x (aG c w)).map nI) rfl rfl ?_)).trans ?_)
   ·rw[List.length_map];rw[show l=x from rfl] at dl;omega
   ·show Out.nx _=Out.nx _
    have:((gA x (aG c w)).map nI).set c (nI q)=((gA x (aG c w)).set c q).map nI:=by rw[List.map_set]
    show Out.nx (e7 r x c q w us (.v (nI 1)) (.own (((gA x (aG c w)).map nI).set c (nI q))))=_;rw[this];rfl
 have mn:aj eW (aa (af 5) (aa (af 2) (ah)))=aj eW (aa (af 5) (aa (af 2) ah)):=rfl
 have c2:aV 1 (mR (eD 8)) (gN 9) (cx) (ai bS (af 9) (aj gU (aa (ai kG (af 9) (aj eW (aa (af 5) (aa (af 2) (ah))))) (ah)))) (e7 r x c q w us (.v (nI t)) (.own (l2.map nI)))=some (.lst ((l2.map (xb q)).map nI)):=by
  refine dc (ds:=l2.map nI) rfl (by simp;omega) ((dL (h:=nI) (o:=λm=>nI (xb q m)) l2 λm _=>⟨_,rfl,?_⟩).trans (by rw[List.map_map];rfl))
  refine zc (b:=0) (a:=q) rfl ((br (ds:=[nI (ci q w),nI q]) rfl).trans ?_)
  show some (D.int (if(q:Int)<(ci q w:Int) then(q:Int) else(ci q w:Int)))=some (D.int (q:Int))
  congr 2
  unfold ci;split<;>omega
 refine⟨.own (l2.map nI),(av s1).trans ((av s2).trans ?_)⟩
 have:kX 6 (aV 1 (mR (eD 8)) (gN 9) (cx) (ai bS (af 9) (aj gU (aa (ai kG (af 9) (aj eW (aa (af 5) (aa (af 2) (ah))))) (ah))))) (e7 r x c q w us (.v (nI t)) (.own (l2.map nI)))=.nx ((e7 r x c q w us (.v (nI t)) (.own (l2.map nI))).set 6 (.ob (.nst (us++[.l ((l2.map (xb q)).map nI)])))):=by
  unfold kX;rw[show kj 6 (e7 r x c q w us (.v (nI t)) (.own (l2.map nI)))=some us from rfl,c2];exact if_pos hu
 refine this.trans ?_
 have e2:l2.map (xb q)=(if t=0 then aA r q (aG c w) else(aA x q (aG c w)).set c q):=by
  rcases(by omega:t=0\/t=1) with e|e
  ·subst e;exact(ko r q _).symm
  ·subst e
   show((gA x (aG c w)).set c q).map (xb q)=(aA x q (aG c w)).set c q;rw[sM,ko];congr 1
   unfold xb;rw[if_neg (Nat.lt_irrefl _)]
 rw[e2];rfl
theorem wI(hr:r.length=n)(hx:x.length=n)(hn:n<=6)(hc:c+1<n)(hw:w<4):wR [aZ r x,nI c,nI q,nI w]=some (aZ (aA r q (aG c w)) ((aA x q (aG c w)).set c q)):=by
 apply fC (kd:=.s) (n:=9) (t:=mX)
 unfold mX;have md:ba (nI w) (.int 2)=some (nI (w % 2)):=by
  rcases(by omega:w=0\/w=1\/w=2\/w=3) with rfl|rfl|rfl|rfl<;>rfl
 have fd:da (nI w) (.int 2)=some (nI (w / 2)):=by
  rcases(by omega:w=0\/w=1\/w=2\/w=3) with rfl|rfl|rfl|rfl<;>kernel_rfl
 have sb: ∀(a b m:Nat) (F G:FE) (ρ:aB),F ρ=some (nI a)->G ρ=some (nI b)->a+1-b=m->b<=a+1->ai bS (ai aL F (ao (.int 1))) G ρ=some (nI m):=λa b m F G ρ h1 h2 h3 h4=>by
  refine(au ((au h1 (y:=.int 1) rfl).trans (bD _ _)) h2).trans ((dq _ _).trans ?_)
  show some (D.int _)=some (D.int _);congr 2
  omega
 have hw2:=Nat.mod_lt w (show 0<2 by decide)
 have s1:aT 4 (ai bS (ai aL (af 1) (ao (.int 1))) (ai ba (af 3) (ao (.int 2)))) (eG 9 [aZ r x,nI c,nI q,nI w])=.nx [.v (aZ r x),.v (nI c),.v (nI q),.v (nI w),.v (nI (aG c w)),.no,.no,.no,.no]:=(bI (sb c (w % 2) (aG c w) _ _ _ rfl ((au (x:=nI w) (y:=.int 2) rfl rfl).trans md) rfl (by omega))).trans rfl
 have s2:aT 5 (ai bS (ai aL (af 2) (ao (.int 1))) (ai da (af 3) (ao (.int 2)))) [.v (aZ r x),.v (nI c),.v (nI q),.v (nI w),.v (nI (aG c w)),.no,.no,.no,.no]=.nx [.v (aZ r x),.v (nI c),.v (nI q),.v (nI w),.v (nI (aG c w)),.v (nI (ci q w)),.no,.no,.no]:=(bI (sb q (w / 2) (ci q w) _ _ _ rfl ((au (x:=nI w) (y:=.int 2) rfl rfl).trans fd) rfl (by omega))).trans rfl
 have s3:qb 6 [.v (aZ r x),.v (nI c),.v (nI q),.v (nI w),.v (nI (aG c w)),.v (nI (ci q w)),.no,.no,.no]=.nx (e7 r x c q w [] .no .no):=rfl
 obtain⟨a8,l0⟩:=qr (q:=q) hr hx (by omega) hc hw (t:=0) (by omega) (us:=[]) (by simp) .no
 obtain⟨b8,l1⟩:=qr (q:=q) hr hx (by omega) hc hw (t:=1) (by omega) (us:=[.l ((aA r q (aG c w)).map nI)]) (by simp) a8
 have s4:cY (bZ (aW (aa (ao (.int 2)) (ah)))) (gN 7) xV (e7 r x c q w [] .no .no)=.nx (e7 r x c q w [.l ((aA r q (aG c w)).map nI),.l (((aA x q (aG c w)).set c q).map nI)] (.v (nI 1)) b8):=by
  rw[gP (ds:=[nI 0,nI 1]) (ρ1:=e7 r x c q w [] .no .no) (bR ((cI (n:=2) rfl (by omega)).trans rfl))]
  rw[db (ρ1:=e7 r x c q w [] (.v (nI 0)) .no) rfl l0,db (ρ1:=e7 r x c q w [.l ((aA r q (aG c w)).map nI)] (.v (nI 1)) a8) rfl l1];rfl
 have jl:(aA x q (aG c w)).length=n-1:=eO hx (by omega) (by unfold aG;omega)
 have s5:dA 6 (ao (.int 1)) (af 1) (af 2) (e7 r x c q w [.l ((aA r q (aG c w)).map nI),.l (((aA x q (aG c w)).set c q).map nI)] (.v (nI 1)) b8)=.nx (e7 r x c q w [.l ((aA r q (aG c w)).map nI),.l (((aA x q (aG c w)).set c q).map nI)] (.v (nI 1)) b8):=by
  refine(gr (us:=[.l ((aA r q (aG c w)).map nI),.l (((aA x q (aG c w)).set c q).map nI)]) (us':=[.l ((aA r q (aG c w)).map nI),.l (((aA x q (aG c w)).set c q).map nI)]) (d:=nI q) (j:=nI 1) (k:=nI c) rfl rfl rfl rfl ?_).trans rfl
  show((kP (((aA x q (aG c w)).set c q).map nI).length (c:Int)).map λz=>NO.l ((((aA x q (aG c w)).set c q).map nI).set z (nI q))).map _=_
  rw[fR (by rw[List.length_map,List.length_set,jl];omega)]
  show some [NO.l _,NO.l ((((aA x q (aG c w)).set c q).map nI).set c (nI q))]=_;rw[List.map_set,List.set_set]
 refine⟨[.v (aZ r x),.v (nI c),.v (nI q),.v (nI w),.v (nI (aG c w)),.v (nI (ci q w)),.v (.lst [.lst ((aA r q (aG c w)).map nI),.lst (((aA x q (aG c w)).set c q).map nI)]),.v (nI 1),b8],(av s1).trans ((av s2).trans ((av s3).trans ((av s4).trans ((av s5).trans ?_))))⟩
 have op:AB 6 (e7 r x c q w [.l ((aA r q (aG c w)).map nI),.l (((aA x q (aG c w)).set c q).map nI)] (.v (nI 1)) b8)=some [.v (aZ r x),.v (nI c),.v (nI q),.v (nI w),.v (nI (aG c w)),.v (nI (ci q w)),.v (.lst [.lst ((aA r q (aG c w)).map nI),.lst (((aA x q (aG c w)).set c q).map nI)]),.v (nI 1),b8]:=rfl
 unfold oF;rw[op];exact bP (eI (az ((br (ds:=[.lst ((aA r q (aG c w)).map nI)]) rfl).trans rfl) (az ((br (ds:=[.lst (((aA x q (aG c w)).set c q).map nI)]) rfl).trans rfl) rfl)) (by show 2<=1000;omega))
end
theorem jz: ∀a b:List Nat,bY (a.map nI) (b.map nI)=decide (a=b)
 | [],[]=>by unfold bY;rfl
 | [],_::_=>by unfold bY;rfl
 |_::_,[]=>by unfold bY;rfl
 |x::a,y::b=>by
  rw[List.map_cons,List.map_cons];unfold bY;rw[gl,jz a b]
  by_cases h1:x=y
  ·subst h1;simp
  ·simp[h1]
theorem tX(l:List Nat)(hl:l.length<=60): ∃s:List Nat,ck [bi l]=some (.lst (s.map nI))/\s.Perm l:=by
 have e:l.map nI=(l.map λ(v:Nat)=>(v:Int)).map D.int:=by rw[List.map_map];rfl
 have p:=gC (lt:=tY) (l.map λ(v:Nat)=>(v:Int))
 refine⟨(eP tY (l.map λ(v:Nat)=>(v:Int))).map Int.toNat,?_,?_⟩
 ·show(gc (l.map nI)).map D.lst=_
  unfold gc;rw[if_pos (by rw[List.length_map];omega),e,n8]
  show some (D.lst _)=some (D.lst _);congr 2
  rw[List.map_map];refine List.map_congr_left λz hz=>?_
  have:z∈l.map λ(v:Nat)=>(v:Int):=p.mem_iff.mp hz
  obtain⟨v,_,rfl⟩:=List.mem_map.mp this
  rfl
 ·have:=p.map Int.toNat
  rwa [List.map_map,show(Int.toNat∘λ(v:Nat)=>(v:Int))=id from rfl,List.map_id] at this
theorem yZ {m:Nat}{a b:List Nat}(ha:a.length=m)(hb:b.length=m)(hm:m<=6): ∃t:Bool,yS [aZ a b]=some (.bl t)/\(t=true↔2<=m/\Ord m a/\Ord m b/\ ∀i,i<m->a.getD i 0≠b.getD i 0):=by
 obtain⟨sa,ea,pa⟩:=tX a (by omega)
 obtain⟨sb,eb,pb⟩:=tX b (by omega)
 have od: ∀ {l s:List Nat},l.length=m->s.Perm l->ck [bi l]=some (.lst (s.map nI))->(s=List.range m↔Ord m l):=λ{l s} hl p e=>by
  constructor
  ·intro h;subst h;exact⟨p.symm⟩
  ·intro O
   have:=si O hm
   rw[e] at this;have h2:s.map nI=(List.range m).map nI:=by injection this with h;injection h
   have h3:=jz s (List.range m)
   rw[h2,fK] at h3;exact of_decide_eq_true h3.symm
 have s1:aT 1 (aj cb (aa (ai aK (af 0) (ao (.int 0))) (ah))) (eG 2 [aZ a b])=.nx [.v (aZ a b),.v (nI m)]:=(bI (ha▸dY a _ _ rfl)).trans rfl
 have lr: ∀z:Sl,kH (af 1) [.v (aZ a b),.v (nI m),z]=some (.lst ((List.range m).map nI)):=λz=>AE rfl (by omega)
 have one: ∀(l s:List Nat),ck [bi l]=some (.lst (s.map nI))->ai ge (aj ck (aa (af 2) (ah))) (kH (af 1)) [.v (aZ a b),.v (nI m),.v (bi l)]=some (.bl (!decide (s=List.range m))):=λl s e=>by
  refine(au ((br (ds:=[bi l]) rfl).trans e) (lr _)).trans ?_
  rw[h9 (nP s)];congr 2
  show(!dg (.lst (s.map nI)) (.lst ((List.range m).map nI)))=_;unfold dg;rw[jz]
 have c1:aV 1 (fL (af 0)) (gN 2) (cx) (ai ge (aj ck (aa (af 2) (ah))) (kH (af 1))) [.v (aZ a b),.v (nI m)]=some (.lst ([!decide (sa=List.range m), !decide (sb=List.range m)].map D.bl)):=by
  refine dc (ds:=[bi a,bi b]) (ux rfl) (by show 2<=1000;omega) ?_
  unfold bF;show((ai ge (aj ck (aa (af 2) (ah))) (kH (af 1)) [.v (aZ a b),.v (nI m),.v (bi a)]).bind λy=>(bF (gN 2) cx (ai ge (aj ck (aa (af 2) (ah))) (kH (af 1))) _ [bi b]).map (y:: ·))=_
  rw[one a sa ea];unfold bF;show(((ai ge (aj ck (aa (af 2) (ah))) (kH (af 1)) [.v (aZ a b),.v (nI m),.v (bi b)]).bind λy=>(bF (gN 2) cx (ai ge (aj ck (aa (af 2) (ah))) (kH (af 1))) _ []).map (y:: ·)).map _)=_
  rw[one b sb eb];rfl
 have p1:ky (fI (aj mq (aa (aV 1 (fL (af 0)) (gN 2) (cx) (ai ge (aj ck (aa (af 2) (ah))) (kH (af 1)))) (ah)))) (be (ai zF (af 1) (ao (.int 2)))) [.v (aZ a b),.v (nI m)]=some ((!decide (sa=List.range m)|| !decide (sb=List.range m))||decide (m<2)):=by
  refine kE (ml ((br (az c1 rfl)).trans ((qg _).trans (by simp)))) (cz ((au (x:=nI m) (y:=.int 2) rfl rfl).trans ?_))
  show some (D.bl (decide ((m:Int)<2)))=_;congr 2
  rw[Bool.eq_iff_iff,decide_eq_true_iff,decide_eq_true_iff];omega
 by_cases h:sa=List.range m/\sb=List.range m/\2<=m
 ·obtain⟨h1,h2,h3⟩:=h
  have Oa:=(od ha pa ea).mp h1
  have Ob:=(od hb pb eb).mp h2
  rw[decide_eq_true h1,decide_eq_true h2,decide_eq_false (by omega)] at p1
  have c2:aV 1 (aW (aa (af 1) (ah))) (gN 2) (cx) (ai fF (ai aK (ai aK (af 0) (ao (.int 0))) (af 2)) (ai aK (ai aK (af 0) (ao (.int 1))) (af 2))) [.v (aZ a b),.v (nI m)]=some (.lst (((List.range m).map λi=>decide (a.getD i 0=b.getD i 0)).map D.bl)):=by
   refine dc (ds:=(List.range m).map nI) (cI (n:=m) rfl (by omega)) (by simp;omega) ((dL (h:=nI) (o:=λi=>D.bl (decide (a.getD i 0=b.getD i 0))) (List.range m) λi hi=>⟨_,rfl,?_⟩).trans (by rw[List.map_map];rfl))
   rw[List.mem_range] at hi;refine(au (kh (S:=.no) ha hb _ _ (t:=0) rfl (by omega) hi rfl rfl) (kh (S:=.no) ha hb _ _ (t:=1) rfl (by omega) hi rfl rfl)).trans ?_
   rw[if_pos rfl,if_neg (by decide),gF (by rw[dX];omega),gl]
  refine⟨!((List.range m).any λi=>decide (a.getD i 0=b.getD i 0)),fC (kd:=.s) (n:=2) (t:=pM) ⟨_,(av s1).trans ((av (dM p1)).trans (bP ?_))⟩,?_⟩
  ·have e:aj mq (aa (aV 1 (aW (aa (af 1) (ah))) (gN 2) (cx) (ai fF (ai aK (ai aK (af 0) (ao (.int 0))) (af 2)) (ai aK (ai aK (af 0) (ao (.int 1))) (af 2)))) (ah)) [.v (aZ a b),.v (nI m)]=some (.bl ((List.range m).any λi=>decide (a.getD i 0=b.getD i 0))):=(br (az c2 rfl)).trans ((qg _).trans (by rw[List.any_map];rfl))
   unfold oM gz be;rw[e];rfl
  ·rw[Bool.not_eq_true',List.any_eq_false]
   constructor
   ·intro hh
    exact⟨h3,Oa,Ob,λi hi z=>hh i (List.mem_range.mpr hi) (decide_eq_true z)⟩
   ·rintro⟨_,_,_,hh⟩ i hi z
    exact hh i (List.mem_range.mp hi) (of_decide_eq_true z)
 ·refine⟨false,fC (kd:=.s) (n:=2) (t:=pM) ⟨_,(av s1).trans (ic ((hV (p1.trans ?_)).trans (bP rfl)))⟩,?_⟩
  ·congr 1
   by_cases h1:sa=List.range m
   ·by_cases h2:sb=List.range m
    ·rw[decide_eq_true (show m<2 from Nat.lt_of_not_le λz=>h ⟨h1,h2,z⟩)];simp
    ·simp[h2]
   ·simp[h1]
  ·constructor
   ·intro z;cases z
   ·rintro⟨h3,Oa,Ob,_⟩
    exact absurd ⟨(od ha pa ea).mpr Oa,(od hb pb eb).mpr Ob,h3⟩ h
theorem zk(ns:List Int)(k:Nat)(hk:1<=k)(ρ:aB)(h:af 0 ρ=some (gb ns)): ∃m:Nat,m<=k/\aj qd (aa (ao (.int 1)) (aa (aj eW (aa (ao (.int k)) (aa (aj cb (aa (af 0) (ah))) (ah)))) (ah))) ρ=some (nI m):=by
 have e1:aj cb (aa (af 0) ah) ρ=some (nI ns.length):=by
  rw[br (az h rfl)];show some (D.int ((ns.map D.int).length:Int))=_;rw[List.length_map]
 refine⟨max 1 (min k ns.length),by omega,?_⟩
 refine(br (az rfl (az ((br (az rfl (az e1 rfl))).trans rfl) rfl))).trans ?_
 show some (D.int _)=some (D.int _);congr 2
 split<;>split<;>omega
theorem zw:ft noM=some (.bl false):=by kernel_rfl
theorem yN(a b c d:List Nat):dg (aZ a b) (aZ c d)=(decide (a=c)&&decide (b=d)):=by
 have e: ∀u v:List Nat,dg (bi u) (bi v)=decide (u=v):=λu v=>by
  show dg (.tup (u.map nI)) (.tup (v.map nI))=_;unfold dg;exact jz u v
 show dg (.tup [bi a,bi b]) (.tup [bi c,bi d])=_;unfold dg;unfold bY;rw[e];unfold bY;rw[e];unfold bY;simp
def oZ(r x:List Nat)(c q:Int):D:=match je r x c q with
 |none=>.non
 |some w=>aZ (aA r q.toNat (aG c.toNat w)) (aA x q.toNat (aG c.toNat w))
section
variable {n:Nat}{r x:List Nat}(G:Gn n r x)
include G
theorem vI(c q:Int):dJ [aZ r x,.int c,.int q]=some (oZ r x c q):=by
 have e:cD [aZ r x,.int c,.int q]=some (tZ r x c q):=v4 G.g c q
 have cr:lL 3 cD (su (aa (af 0) (aa (af 1) (aa (af 2) (ah))))) (eG 4 [aZ r x,.int c,.int q])=some (tZ r x c q):=(tS (ds:=[aZ r x,.int c,.int q]) (vT rfl) rfl).trans e
 unfold tZ at cr;unfold oZ;cases h:je r x c q with
 |some w=>
  rw[h] at cr;exact fC (kd:=.s) (n:=4) ⟨eG 4 [aZ r x,.int c,.int q],v9 (vN cr)⟩
 |none=>
  rw[h] at cr;refine fC (kd:=.s) (n:=4) ⟨[.v (aZ r x),.v (.int c),.v (.int q),.ob (.exc noM.x noM.n)],xi (v8 cr) (by decide+kernel) (by decide+kernel) ?_⟩
  exact bP ((um (kE (a:=false) (b:=false) (ml zw) (by kernel_rfl))).trans rfl)
theorem uy {c q w:Nat}(hc:c+1<n)(hw:w<4)(h:cg r x c q w=true):(aA x q (aG c w)).set c q=aA x q (aG c w):=by
 have hn:=G.g.hi
 have hx:=G.g.X.len
 have hf:aG c w<n:=by unfold aG;omega
 have jl:=eO hx (show n<=7 by omega) (row:=q) hf
 rw[gM] at h;refine nW (by rw[List.length_set]) λi hi=>?_
 rw[List.length_set,jl] at hi
 by_cases e:c=i
 ·subst e
  rw[List.getD_eq_getElem?_getD,List.getElem?_set_self (by rw[jl];exact hi),gH hx (by omega) hf hi]
  have:(if c<aG c w then c else c+1)=cm c w:=by unfold aG cm;split<;>omega
  rw[this,h.2.1];unfold dn ci;show q=_;split<;>omega
 ·rw[List.getD_eq_getElem?_getD,List.getElem?_set_ne e,<-List.getD_eq_getElem?_getD]
theorem wE {c q w:Nat}(hc:c+1<n)(hq:q+1<n)(hw:w<4)(s4:Sl):eE (fI (aj (nF 1 bB) (aa (af 5) (ah)))) (eE (be (ai fF (ai aK (ai aK (af 5) (ao (.int 1))) (af 1)) (af 2))) (be (ai fF (aj (nF 3 bU) (aa (af 5) (aa (af 1) (aa (af 4) (ah))))) (af 0)))) [.v (aZ r x),.v (nI c),.v (nI q),.v (nI n),.v (nI w),.v (aZ (aA r q (aG c w)) ((aA x q (aG c w)).set c q))]=some (cg r x c q w):=by
 have hn:=G.g.hi
 have hr:=G.g.R.len
 have hx:=G.g.X.len
 have hf:aG c w<n:=by unfold aG;omega
 have ja:=eO hr (show n<=7 by omega) (row:=q) hf
 have jb:((aA x q (aG c w)).set c q).length=n-1:=by rw[List.length_set];exact eO hx (show n<=7 by omega) hf
 have bc:((aA x q (aG c w)).set c q).getD c 0=q:=by
  rw[List.length_set] at jb;rw[List.getD_eq_getElem?_getD,List.getElem?_set_self (by omega)];rfl
 obtain⟨t,e1,e2⟩:=yZ ja jb (by omega)
 have p1:fI (aj (nF 1 bB) (aa (af 5) (ah))) [.v (aZ r x),.v (nI c),.v (nI q),.v (nI n),.v (nI w),.v (aZ (aA r q (aG c w)) ((aA x q (aG c w)).set c q))]=some t:=ml ((fZ (ds:=[aZ (aA r q (aG c w)) ((aA x q (aG c w)).set c q)]) rfl rfl).trans e1)
 have d:(cp q w=q/\ci q w=q+1)\/(cp q w=q+1/\ci q w=q):=by
  unfold cp ci;have:w / 2=0\/w / 2=1:=by omega
  omega
 cases t with
 |false=>
  unfold eE;rw[p1];show some false=_;congr 1
  cases h:cg r x c q w with
  |false=>rfl
  |true=>
   have Gt:=G.tkn hc hq hw h
   rw[uy G hc hw h] at e2;exact absurd (e2.mpr ⟨Gt.g.lo,Gt.g.R,Gt.g.X,Gt.ne⟩) (by decide)
 |true=>
  obtain⟨h2,Oa,Ob,ne⟩:=e2.mp rfl
  have Ga:Gn (n-1) (aA r q (aG c w)) ((aA x q (aG c w)).set c q):=⟨⟨Oa,Ob,h2,by omega⟩,ne⟩
  have pe:bU [aZ (aA r q (aG c w)) ((aA x q (aG c w)).set c q),nI c,nI w]=_:=qI Oa Ob h2 (by omega) (c:=c) (w:=w) (by omega) hw
  rw[bc] at pe;have p2:be (ai fF (ai aK (ai aK (af 5) (ao (.int 1))) (af 1)) (af 2)) [.v (aZ r x),.v (nI c),.v (nI q),.v (nI n),.v (nI w),.v (aZ (aA r q (aG c w)) ((aA x q (aG c w)).set c q))]=some true:=by
   have z:=jP (f:=ai aK (ai aK (af 5) (ao (.int 1))) (af 1)) (g:=af 2) (ρ:=[.v (aZ r x),.v (nI c),.v (nI q),.v (nI n),.v (nI w),.v (aZ (aA r q (aG c w)) ((aA x q (aG c w)).set c q))]) (a:=q) (b:=q) ((au (x:=bi ((aA x q (aG c w)).set c q)) (y:=nI c) rfl rfl).trans ((lz (by omega)).trans (by rw[bc]))) rfl
   rwa [decide_eq_true rfl] at z
  have p3:be (ai fF (aj (nF 3 bU) (aa (af 5) (aa (af 1) (aa (af 4) (ah))))) (af 0)) [.v (aZ r x),.v (nI c),.v (nI q),.v (nI n),.v (nI w),.v (aZ (aA r q (aG c w)) ((aA x q (aG c w)).set c q))]=some (decide (eU (aA r q (aG c w)) q (cp q w) (aG c w) (ci q w)=r)&&decide (eU ((aA x q (aG c w)).set c q) q (ci q w) (aG c w) (cp q w)=x)):=by
   refine cz ((au ((fZ (ds:=[aZ (aA r q (aG c w)) ((aA x q (aG c w)).set c q),nI c,nI w]) rfl rfl).trans pe) (y:=aZ r x) rfl).trans ?_)
   rw[gF (uB _ _),yN]
  unfold eE;rw[p1];show eE _ _ _=_;unfold eE;rw[p2];show be _ _=_;rw[p3];congr 1
  rw[Bool.eq_iff_iff,Bool.and_eq_true,decide_eq_true_iff,decide_eq_true_iff];constructor
  ·rintro⟨h1,h2⟩
   have z:=ss Ga (c:=c) (w:=w) (by omega) hw
   rw[bc,h1,h2] at z;exact z
  ·intro h
   have hh:=(gM _ _ _ _ _).mp h
   rw[uy G hc hw h];refine⟨oC G.g.R (by omega) hf (by omega) hh.1.1,oC G.g.X (by omega) hf (by omega) hh.1.2⟩
theorem yg(c q:Int):eM [aZ r x,.int c,.int q]=some (oZ r x c q):=by
 have hn:=G.g.hi
 have lo:=G.g.lo
 have hr:=G.g.R.len
 have hx:=G.g.X.len
 refine fC (kd:=.s) (n:=6) (t:=iV) ?_
 unfold iV;have s1:aT 3 (aj cb (aa (ai aK (af 0) (ao (.int 0))) (ah))) (eG 6 [aZ r x,.int c,.int q])=.nx [.v (aZ r x),.v (.int c),.v (.int q),.v (nI n),.no,.no]:=(bI (hr▸dY r _ _ rfl)).trans rfl
 have nm1:ai bS (af 3) (ao (.int 1)) [.v (aZ r x),.v (.int c),.v (.int q),.v (nI n),.no,.no]=some (.int ((n:Int) -1)):=(au (x:=nI n) (y:=.int 1) rfl rfl).trans (dq _ _)
 have p1:ky (be (ai (nv true) (af 1) (ai bS (af 3) (ao (.int 1))))) (be (ai (nv true) (af 2) (ai bS (af 3) (ao (.int 1))))) [.v (aZ r x),.v (.int c),.v (.int q),.v (nI n),.no,.no]=some (!(decide (0<=c)&&decide (c<(n:Int) -1))|| !(decide (0<=q)&&decide (q<(n:Int) -1))):=
  kE (cz ((au (x:=.int c) rfl nm1).trans rfl)) (cz ((au (x:=.int q) rfl nm1).trans rfl))
 by_cases hg:(0<=c/\c<(n:Int) -1)/\0<=q/\q<(n:Int) -1
 ·obtain⟨⟨c0,c1⟩,q0,q1⟩:=hg
  obtain⟨c,rfl⟩: ∃c':Nat,c=(c':Int):=⟨c.toNat,by omega⟩
  obtain⟨q,rfl⟩: ∃c':Nat,q=(c':Int):=⟨q.toNat,by omega⟩
  rw[decide_eq_true c0,decide_eq_true c1,decide_eq_true q0,decide_eq_true q1] at p1;have hc:c+1<n:=by omega
  have hq:q+1<n:=by omega
  have wy:je r x (c:Int) (q:Int)=(List.range 4).find? (cg r x c q):=by
   unfold je;rw[if_pos ⟨by rw[hr,Bool.and_eq_true,decide_eq_true_eq,decide_eq_true_eq];omega,by rw[hr,Bool.and_eq_true,decide_eq_true_eq,decide_eq_true_eq];omega⟩]
   rfl
  have lp: ∀(l:List Nat) (s4 s5:Sl),(∀w∈l,w<4)->(match l.find? (cg r x c q) with
   |some w=> ∃ρ,dE (gN 4) (ay (aT 5 (aj (nF 4 cZ) (aa (af 0) (aa (af 1) (aa (af 2) (aa (af 4) (ah))))))) (dQ (eE (fI (aj (nF 1 bB) (aa (af 5) (ah)))) (eE (be (ai fF (ai aK (ai aK (af 5) (ao (.int 1))) (af 1)) (af 2))) (be (ai fF (aj (nF 3 bU) (aa (af 5) (aa (af 1) (aa (af 4) (ah))))) (af 0))))) (aX (af 5)) (skip))) (l.map nI) [.v (aZ r x),.v (nI c),.v (nI q),.v (nI n),s4,s5]=.rt (aZ (aA r q (aG c w)) (aA x q (aG c w))) ρ
   |none=> ∃ρ,dE (gN 4) (ay (aT 5 (aj (nF 4 cZ) (aa (af 0) (aa (af 1) (aa (af 2) (aa (af 4) (ah))))))) (dQ (eE (fI (aj (nF 1 bB) (aa (af 5) (ah)))) (eE (be (ai fF (ai aK (ai aK (af 5) (ao (.int 1))) (af 1)) (af 2))) (be (ai fF (aj (nF 3 bU) (aa (af 5) (aa (af 1) (aa (af 4) (ah))))) (af 0))))) (aX (af 5)) (skip))) (l.map nI) [.v (aZ r x),.v (nI c),.v (nI q),.v (nI n),s4,s5]=.nx ρ):=by
   intro l
   induction l with
   |nil=>intro s4 s5 _;exact⟨_,rfl⟩
   |cons w l ih=>
    intro s4 s5 hl;have hw:=hl w List.mem_cons_self
    rw[List.map_cons,List.find?_cons];have le:cZ [aZ r x,nI c,nI q,nI w]=_:=wI (q:=q) hr hx hn hc hw
    have b1:aT 5 (aj (nF 4 cZ) (aa (af 0) (aa (af 1) (aa (af 2) (aa (af 4) (ah)))))) [.v (aZ r x),.v (nI c),.v (nI q),.v (nI n),.v (nI w),s5]=.nx [.v (aZ r x),.v (nI c),.v (nI q),.v (nI n),.v (nI w),.v (aZ (aA r q (aG c w)) ((aA x q (aG c w)).set c q))]:=(bI ((fZ (ds:=[aZ r x,nI c,nI q,nI w]) rfl rfl).trans le)).trans rfl
    have cd:=wE G hc hq hw (.v (nI w))
    cases e:cg r x c q w with
    |true=>
     rw[e] at cd;rw[uy G hc hw e] at b1 cd;exact⟨_,qE (ρ1:=[.v (aZ r x),.v (nI c),.v (nI q),.v (nI n),.v (nI w),s5]) rfl ((av b1).trans ((hV cd).trans (bP rfl)))⟩
    |false=>
     rw[e] at cd;have:=ih (.v (nI w)) (.v (aZ (aA r q (aG c w)) ((aA x q (aG c w)).set c q))) λv hv=>hl v (List.mem_cons_of_mem _ hv)
     rw[db (ρ1:=[.v (aZ r x),.v (nI c),.v (nI q),.v (nI n),.v (nI w),s5]) rfl ((av b1).trans (dM cd))];exact this
  have l4:=lp (List.range 4) .no .no λw hw=>List.mem_range.mp hw
  unfold oZ;rw[wy];have it:bZ (aW (aa (ao (.int 4)) (ah))) [.v (aZ r x),.v (nI c),.v (nI q),.v (nI n),.no,.no]=some ((List.range 4).map nI,[.v (aZ r x),.v (nI c),.v (nI q),.v (nI n),.no,.no]):=bR (cI (n:=4) rfl (by omega))
  cases e:(List.range 4).find? (cg r x c q) with
  |some w=>
   rw[e] at l4;obtain⟨ρ,h⟩:=l4
   exact⟨ρ,(av s1).trans ((av (dM p1)).trans (ic ((gP it).trans h)))⟩
  |none=>
   rw[e] at l4;obtain⟨ρ,h⟩:=l4
   exact⟨ρ,(av s1).trans ((av (dM p1)).trans ((av ((gP it).trans h)).trans (bP rfl)))⟩
 ·have e:(!(decide (0<=c)&&decide (c<(n:Int) -1))|| !(decide (0<=q)&&decide (q<(n:Int) -1)))=true:=by
   by_cases h1:0<=c/\c<(n:Int) -1
   ·have h2: ¬(0<=q/\q<(n:Int) -1):=λz=>hg ⟨h1,z⟩
    have:(decide (0<=q)&&decide (q<(n:Int) -1))=false:=by
     rw[Bool.eq_false_iff];intro z;rw[Bool.and_eq_true,decide_eq_true_eq,decide_eq_true_eq] at z;exact h2 z
    rw[this];simp
   ·have:(decide (0<=c)&&decide (c<(n:Int) -1))=false:=by
     rw[Bool.eq_false_iff];intro z;rw[Bool.and_eq_true,decide_eq_true_eq,decide_eq_true_eq] at z;exact h1 z
    rw[this];rfl
  rw[e] at p1;have wy:je r x c q=none:=by
   unfold je;rw[if_neg]
   rintro⟨z1,z2⟩
   rw[hr,Bool.and_eq_true,decide_eq_true_eq,decide_eq_true_eq] at z1 z2;exact hg ⟨⟨z1.1,by omega⟩,z2.1,by omega⟩
  unfold oZ;rw[wy];exact⟨_,(av s1).trans (ic ((hV p1).trans (bP rfl)))⟩
end
theorem pO {N M:Nat}{a b:Int}(B:Bag N a b)(h:N<=M):Bag M a b:=⟨B.1,B.2,B.3,by have:=B.4;omega,B.5⟩
theorem vQ {f:GA}{ρ ρ1:aB}{ds:List D}(h:f ρ=some (ds,ρ1))(h2:ds.length<=1000):pZ f ρ=some (.lst ds,ρ1):=by
 rw[wk,h,Option.bind_some];exact cL h2
theorem wC {f:GE}{ρ ρ1:aB}{d:D}(h:f ρ=some (d,ρ1)):rg f ρ=.rt d ρ1:=by unfold rg;rw[h]
theorem sY {n:Nat}{l:List Nat}(hl:l.length=n)(h0:0<n)(hn:n<=100)(z1 z2:Int)(ρ:aB)(h5:ρ.length=6)(e5:af 5 ρ=some (bi l))(e2:af 2 ρ=some (.lst [.int z1,.int z2]))(e4:af 4 ρ=some (nI n)):
 aj bH (aa (aV 1 (aW (aa (af 4) (ah))) (gN 6) (cx) (ai ba (ai aL (ai aK (af 5) (ai ba (ai bS (af 6) (ai aK (af 2) (ao (.int 0)))) (af 4))) (ai aK (af 2) (ao (.int 1)))) (af 4))) (ah)) ρ=some (bi (gd (gg l z1) z2)):=by
 have key:aV 1 (aW (aa (af 4) (ah))) (gN 6) (cx) (ai ba (ai aL (ai aK (af 5) (ai ba (ai bS (af 6) (ai aK (af 2) (ao (.int 0)))) (af 4))) (ai aK (af 2) (ao (.int 1)))) (af 4)) ρ=some (.lst ((gd (gg l z1) z2).map nI)):=by
  refine dc (ds:=(List.range n).map nI) (cI (n:=n) (az e4 rfl) (by omega)) (by simp;omega) ((dL (h:=nI) (o:=λ(i:Nat)=>nI ((((l.getD (((i:Int) -z1) % n).toNat 0:Nat):Int)+z2) % n).toNat) (List.range n) λi hi=>⟨_,rfl,?_⟩).trans (by unfold gd gg;rw[List.length_map,List.length_range,hl,List.map_map,List.map_map];rfl))
  have kp: ∀j,j<6->af j ((ρ++List.replicate 1 Sl.no).set 6 (.v (nI i)))=af j ρ:=λj hj=>by
   unfold af;rw[List.getElem?_set_ne (by omega),List.getElem?_append_left (by omega)]
  have k6:af 6 ((ρ++List.replicate 1 Sl.no).set 6 (.v (nI i)))=some (nI i):=by
   unfold af;rw[List.getElem?_set_self (by simp[h5])]
  have hm:=cn (i:=(i:Int) -z1) (m:=n) (by omega)
  have hm2:=cn (i:=((l.getD (((i:Int) -z1) % n).toNat 0:Nat):Int)+z2) (m:=n) (by omega)
  have i0:ai aK (af 2) (ao (.int 0)) ((ρ++List.replicate 1 Sl.no).set 6 (.v (nI i)))=some (.int z1):=(au ((kp 2 (by omega)).trans e2) (y:=.int 0) rfl).trans rfl
  have i1:ai aK (af 2) (ao (.int 1)) ((ρ++List.replicate 1 Sl.no).set 6 (.v (nI i)))=some (.int z2):=(au ((kp 2 (by omega)).trans e2) (y:=.int 1) rfl).trans rfl
  have i2:=(au (F:=ba) ((au k6 i0).trans (dq _ _)) ((kp 4 (by omega)).trans e4)).trans (cq (by omega))
  rw[A3 hm.1] at i2;have i3:=(au (F:=aK) ((kp 5 (by omega)).trans e5) i2).trans (lz (by omega))
  refine(au ((au i3 i1).trans (bD _ _)) ((kp 4 (by omega)).trans e4)).trans ((cq (by omega)).trans ?_)
  rw[A3 hm2.1]
 exact(br (az key rfl)).trans rfl
theorem tV {N:Nat}{a b:Int}(B:Bag N a b)(hN:N<=700000000): ∃(n:Nat) (r x:List Nat) (a' b':Int),eg (aH a b) []=some (aZ r x,aH a' b')/\Gn n r x/\Bag (N+20) a' b':=by
 obtain⟨w,a1,b1,e1,B1,w0,w1⟩:=dS (m:=16) B (by omega) (by decide) (by decide)
 obtain⟨z1,a2,b2,e2,B2,z10,z11⟩:=dS (m:=6) B1 (by omega) (by decide) (by decide)
 obtain⟨z2,a3,b3,e3,B3,z20,z21⟩:=dS (m:=6) B2 (by omega) (by decide) (by decide)
 obtain⟨w,rfl⟩: ∃j:Nat,w=(j:Int):=⟨w.toNat,by omega⟩
 let Z:D:=.lst [.int z1,.int z2]
 have s1:eo 1 (aN 0 1 aJ (bZ (aa (ao (.int 16)) (ah)))) (jY 5 (aH a b) [])=.nx [.arg (aH a1 b1),.v (nI w),.no,.no,.no]:=(eF (bG (i:=0) (n:=1) (b0:=aH a b) (ds:=[.int 16]) rfl (bR rfl) rfl rfl e1)).trans rfl
 have s2:eo 2 (pZ (cB (aN 0 1 aJ (bZ (aa (ao (.int 6)) (ah)))) (cB (aN 0 1 aJ (bZ (aa (ao (.int 6)) (ah)))) (bZ (ah))))) [.arg (aH a1 b1),.v (nI w),.no,.no,.no]=.nx [.arg (aH a3 b3),.v (nI w),.v Z,.no,.no]:=(eF (vQ (ds:=[.int z1,.int z2]) (dZ (bG (i:=0) (n:=1) (b0:=aH a1 b1) (ds:=[.int 6]) rfl (bR rfl) rfl rfl e2) (dZ (bG (i:=0) (n:=1) (b0:=aH a2 b2) (ds:=[.int 6]) rfl (bR rfl) rfl rfl e3) rfl)) (by simp))).trans rfl
 have p3:be (ai kG (af 1) (ao (.int 11))) [.arg (aH a3 b3),.v (nI w),.v Z,.no,.no]=some (decide (11<w)):=by
  refine cz ((au (x:=nI w) (y:=.int 11) rfl rfl).trans ((jH _ _).trans ?_))
  congr 2
  rw[Bool.eq_iff_iff,decide_eq_true_iff,decide_eq_true_iff];omega
 by_cases hw:11<w
 ·rw[decide_eq_true hw] at p3
  obtain⟨d1,a4,b4,e4,B4,d10,d11⟩:=dS (m:=5) B3 (by omega) (by decide) (by decide)
  obtain⟨m,hm,hm1,hm2⟩: ∃m:Nat,aL (.int 2) (.int d1)=some (nI m)/\2<=m/\m<=6:=⟨(2+d1).toNat,by rw[bD,A3 (by omega)],by omega,by omega⟩
  obtain⟨r,x,a5,b5,e5,S,B5⟩:=kD B4 (n:=m) hm1 hm2 (by omega)
  have r1:rg (aN 0 1 cK (cB (hZ aL (pu (ao (.int 2))) (aN 0 1 aJ (bZ (aa (ao (.int 5)) (ah))))) (bZ (ah)))) [.arg (aH a3 b3),.v (nI w),.v Z,.no,.no]=.rt (aZ r x) [.arg (aH a5 b5),.v (nI w),.v Z,.no,.no]:=
   (wC (bG (i:=0) (n:=1) (b0:=aH a3 b3) (ds:=[nI m]) rfl (dZ (jC (hX rfl) (bG (i:=0) (n:=1) (b0:=aH a3 b3) (ds:=[.int 5]) rfl (bR rfl) rfl rfl e4) hm) rfl) rfl rfl e5)).trans rfl
  exact⟨m,r,x,a5,b5,pY (kd:=.s) (n:=5) (t:=fu) ((av s1).trans ((av s2).trans (ic ((hV p3).trans r1)))) rfl,⟨⟨S.hr,S.hx,hm1,hm2⟩,λi hi e=>S.ne i hi e.symm⟩,pO B5 (by omega)⟩
 ·rw[decide_eq_false hw] at p3
  obtain⟨d1,a4,b4,e4,B4,d10,d11⟩:=dS (m:=4) B3 (by omega) (by decide) (by decide)
  obtain⟨m,hm,hm1,hm2⟩: ∃m:Nat,aL (.int 2) (.int d1)=some (nI m)/\2<=m/\m<6:=⟨(2+d1).toNat,by rw[bD,A3 (by omega)],by omega,by omega⟩
  obtain⟨r,x,a5,b5,e5,S,B5⟩:=kD B4 (n:=m) hm1 (by omega) (by omega)
  have G:Gn m r x:=⟨⟨S.hr,S.hx,hm1,by omega⟩,λi hi e=>S.ne i hi e.symm⟩
  have s4:eo 3 (aN 0 1 cK (cB (hZ aL (pu (ao (.int 2))) (aN 0 1 aJ (bZ (aa (ao (.int 4)) (ah))))) (bZ (ah)))) [.arg (aH a3 b3),.v (nI w),.v Z,.no,.no]=.nx [.arg (aH a5 b5),.v (nI w),.v Z,.v (aZ r x),.no]:=
   (eF (bG (i:=0) (n:=1) (b0:=aH a3 b3) (ds:=[nI m]) rfl (dZ (jC (hX rfl) (bG (i:=0) (n:=1) (b0:=aH a3 b3) (ds:=[.int 4]) rfl (bR rfl) rfl rfl e4) hm) rfl) rfl rfl e5)).trans rfl
  obtain⟨c,a6,b6,e6,B6,c0,c1⟩:=dS (m:=(m:Int)) B5 (by omega) (by omega) (Nat.lt_of_lt_of_le (show((m:Int)).natAbs<10^10 by omega) (by decide))
  obtain⟨c,rfl⟩: ∃j:Nat,c=(j:Int):=⟨c.toNat,by omega⟩
  have hc:c<m:=by omega
  have hv:w % 4<4:=Nat.mod_lt _ (by decide)
  have mv:ba (nI w) (.int 4)=some (nI (w % 4)):=(cq (by decide)).trans (by show some (D.int _)=some (D.int _);congr 2)
  have pe:bU [aZ r x,nI c,nI (w % 4)]=_:=qI G.g.R G.g.X hm1 (by omega) (c:=c) (w:=w % 4) hc hv
  have Gp:=G.put hc hv hm2
  generalize eU r (x.getD c 0) (cp (x.getD c 0) (w % 4)) (aG c (w % 4)) (ci (x.getD c 0) (w % 4))=r' at pe Gp
  generalize eU x (x.getD c 0) (ci (x.getD c 0) (w % 4)) (aG c (w % 4)) (cp (x.getD c 0) (w % 4))=x' at pe Gp
  have s5:eo 3 (jL (nF 3 bU) (cB (pu (af 3)) (cB (aN 0 1 aJ (bZ (aa (aj cb (aa (ai aK (af 3) (ao (.int 0))) (ah))) (ah)))) (bZ (aa (ai ba (af 1) (ao (.int 4))) (ah)))))) [.arg (aH a5 b5),.v (nI w),.v Z,.v (aZ r x),.no]=.nx [.arg (aH a6 b6),.v (nI w),.v Z,.v (aZ r' x'),.no]:=
   (eF (sN (ds:=[aZ r x,nI c,nI (w % 4)]) (dZ (hX rfl) (dZ (bG (i:=0) (n:=1) (b0:=aH a5 b5) (ds:=[nI m]) rfl (bR (az (G.g.R.len▸dY r _ _ rfl) rfl)) rfl rfl e6) (bR (az ((au (x:=nI w) (y:=.int 4) rfl rfl).trans mv) rfl)))) ((xL rfl).trans pe))).trans rfl
  have s6:aT 4 (aj cb (aa (ai aK (af 3) (ao (.int 0))) (ah))) [.arg (aH a6 b6),.v (nI w),.v Z,.v (aZ r' x'),.no]=.nx [.arg (aH a6 b6),.v (nI w),.v Z,.v (aZ r' x'),.v (nI (m+1))]:=(bI (Gp.g.R.len▸dY r' _ _ rfl)).trans rfl
  have p7:be (ai kG (af 1) (ao (.int 5))) [.arg (aH a6 b6),.v (nI w),.v Z,.v (aZ r' x'),.v (nI (m+1))]=some (decide (5<w)):=by
   refine cz ((au (x:=nI w) (y:=.int 5) rfl rfl).trans ((jH _ _).trans ?_))
   congr 2
   rw[Bool.eq_iff_iff,decide_eq_true_iff,decide_eq_true_iff];omega
  by_cases h5:5<w
  ·rw[decide_eq_true h5] at p7
   have t1:=sY Gp.g.R.len (by omega) (by omega) z1 z2 [.arg (aH a6 b6),.v (nI w),.v Z,.v (aZ r' x'),.v (nI (m+1)),.v (bi r')] rfl rfl rfl rfl
   have t2:=sY Gp.g.X.len (by omega) (by omega) z1 z2 [.arg (aH a6 b6),.v (nI w),.v Z,.v (aZ r' x'),.v (nI (m+1)),.v (bi x')] rfl rfl rfl rfl
   have s7:aT 3 (aj bH (aa (aV 1 (fL (af 3)) (gN 5) (cx) (aj bH (aa (aV 1 (aW (aa (af 4) (ah))) (gN 6) (cx) (ai ba (ai aL (ai aK (af 5) (ai ba (ai bS (af 6) (ai aK (af 2) (ao (.int 0)))) (af 4))) (ai aK (af 2) (ao (.int 1)))) (af 4))) (ah)))) (ah))) [.arg (aH a6 b6),.v (nI w),.v Z,.v (aZ r' x'),.v (nI (m+1))]=.nx [.arg (aH a6 b6),.v (nI w),.v Z,.v (aZ (gd (gg r' z1) z2) (gd (gg x' z1) z2)),.v (nI (m+1))]:=by
    refine(bI ((br (ds:=[.lst [bi (gd (gg r' z1) z2),bi (gd (gg x' z1) z2)]]) (az ?_ rfl)).trans rfl)).trans rfl
    refine dc (ds:=[bi r',bi x']) (ux rfl) (by show 2<=1000;omega) ?_
    exact dL (h:=λl:List Nat=>bi l) (o:=λl=>bi (gd (gg l z1) z2)) [r',x'] λl hl=>by
     rcases List.mem_cons.mp hl with rfl|hl
     ·exact⟨_,rfl,t1⟩
     ·rw[List.mem_singleton] at hl;subst hl;exact⟨_,rfl,t2⟩
   exact⟨m+1,_,_,a6,b6,pY (kd:=.s) (n:=5) (t:=fu) ((av s1).trans ((av s2).trans ((av (dM p3)).trans ((av s4).trans ((av s5).trans ((av s6).trans ((av ((hV p7).trans s7)).trans (bP rfl)))))))) rfl,(Gp.rot z1).rai z2,pO B6 (by omega)⟩
  ·rw[decide_eq_false h5] at p7
   exact⟨m+1,r',x',a6,b6,pY (kd:=.s) (n:=5) (t:=fu) ((av s1).trans ((av s2).trans ((av (dM p3)).trans ((av s4).trans ((av s5).trans ((av s6).trans ((av (dM p7)).trans (bP rfl)))))))) rfl,Gp,pO B6 (by omega)⟩
theorem vR(r x:List Nat)(c q:Int):dw (oZ r x c q)<=32:=by
 unfold oZ;split
 ·unfold dw;omega
 ·exact uB _ _
theorem yq(ns:List Int)(hn:ns.length<=63):xD [gb ns]=some (.bl true):=by
 refine fC (kd:=.s) (n:=8) (t:=sZ) ?_
 unfold sZ;obtain⟨kk,hk1,hk2⟩:=zk ns 6 (by omega) (eG 8 [gb ns]) rfl
 have p10: ∀ρ:aB,ai cE (ao (.int 10)) (ao (.int 10)) ρ=some (.int (10^10)):=λρ=>(au (x:=.int 10) (y:=.int 10) rfl rfl).trans (fG (by decide) (by decide) (by decide))
 have p9: ∀ρ:aB,ai cE (ao (.int 10)) (ao (.int 9)) ρ=some (.int (10^9)):=λρ=>(au (x:=.int 10) (y:=.int 9) rfl rfl).trans (fG (by decide) (by decide) (by decide))
 refine x8 (λρ=> ∃s1 s2 s3 s4 s5 s6 s7,ρ=[.v (gb ns),s1,s2,s3,s4,s5,s6,s7]) (jA (ds:=(List.range kk).map nI) (bR (cI (az hk2 rfl) (by omega))) (jE _ (λd hd ρ hρ=>?_) _ ⟨_,_,_,_,_,_,_,rfl⟩)) λρ' _=>⟨ρ',rfl⟩
 obtain⟨k,hk,rfl⟩:=List.mem_map.mp hd
 rw[List.mem_range] at hk;obtain⟨s1,s2,s3,s4,s5,s6,s7,rfl⟩:=hρ
 obtain⟨a0,b0,eb,B⟩:=zi ns k (by omega) hn
 obtain⟨m,r,x,a1,b1,e1,G,B1⟩:=tV B (by omega)
 obtain⟨f,a2,b2,e2,B2,f0,f1⟩:=dS (m:=10^9) B1 (by omega) (by decide) (by decide)
 let far:Int:=10^10+f
 have hm1:=G.g.lo
 have hm2:=G.g.hi
 have q1:fj 2 (aj (nF 2 gL) (aa (af 0) (aa (af 1) (ah)))) [.v (gb ns),.v (nI k),s2,s3,s4,s5,s6,s7]=.nx [.v (gb ns),.v (nI k),.own (aH a0 b0),s3,s4,s5,s6,s7]:=(lZ ((fZ (ds:=[gb ns,nI k]) rfl rfl).trans eb)).trans rfl
 have q2:eo 3 (aN 2 0 eg (bZ (ah))) [.v (gb ns),.v (nI k),.own (aH a0 b0),s3,s4,s5,s6,s7]=.nx [.v (gb ns),.v (nI k),.own (aH a1 b1),.v (aZ r x),s4,s5,s6,s7]:=(eF (bG (i:=2) (n:=0) (b0:=aH a0 b0) (ds:=[]) rfl (bR rfl) rfl rfl e1)).trans rfl
 have q3:eo 4 (hZ aL (pu (ai cE (ao (.int 10)) (ao (.int 10)))) (aN 2 1 aJ (bZ (aa (ai cE (ao (.int 10)) (ao (.int 9))) (ah))))) [.v (gb ns),.v (nI k),.own (aH a1 b1),.v (aZ r x),s4,s5,s6,s7]=.nx [.v (gb ns),.v (nI k),.own (aH a2 b2),.v (aZ r x),.v (.int far),s5,s6,s7]:=(eF (jC (hX (p10 _)) (bG (i:=2) (n:=1) (b0:=aH a1 b1) (ds:=[.int (10^9)]) rfl (bR (az (p9 _) rfl)) rfl rfl e2) (bD _ _))).trans rfl
 let L:List Int:=((List.range (m+4)).map λ(i:Nat)=> -2+(i:Int))++[far,0-far]
 have lr:AW (ut (ao (.int 2))) (ai aL (aj cb (aa (ai aK (af 3) (ao (.int 0))) (ah))) (ao (.int 2))) [.v (gb ns),.v (nI k),.own (aH a2 b2),.v (aZ r x),.v (.int far),s5,s6,s7]=some (.lst (((List.range (m+4)).map λ(i:Nat)=> -2+(i:Int)).map D.int)):=by
  refine(au (x:=.int (-2)) rfl ((au (G.g.R.len▸dY r _ _ rfl) (y:=.int 2) rfl).trans (bD _ _))).trans ?_
  show(if _ then some (D.lst (oJ (-2) _)) else none)=_
  rw[if_pos (by refine⟨by decide,?_,?_⟩<;>omega),show((m:Int)+2- -2).toNat=m+4 by omega,List.map_map]
  rfl
 have q4:aT 5 (ai nZ (AW (ut (ao (.int 2))) (ai aL (aj cb (aa (ai aK (af 3) (ao (.int 0))) (ah))) (ao (.int 2)))) (fh (aa (af 4) (aa (ai bS (ao (.int 0)) (af 4)) (ah))))) [.v (gb ns),.v (nI k),.own (aH a2 b2),.v (aZ r x),.v (.int far),s5,s6,s7]=.nx [.v (gb ns),.v (nI k),.own (aH a2 b2),.v (aZ r x),.v (.int far),.v (.lst (L.map D.int)),s6,s7]:=by
  refine(bI ((au lr (wO (ds:=[.int far,.int (0-far)]) (az rfl (az ((au (x:=.int 0) (y:=.int far) rfl rfl).trans (dq _ _)) rfl)) (by show 2<=1000;omega))).trans ?_)).trans rfl
  show(if _ then some (D.lst _) else none)=_
  rw[if_pos (Nat.le_of_lt (gK (by simp;omega)))]
  show some (D.lst _)=some (D.lst _);rw[List.map_append];rfl
 obtain⟨ρ1,l1,s6',s7',rfl⟩:=jA (f:=bZ (fL (af 5))) (g:=gN 6) (b:=cY (bZ (fL (af 5))) (gN 7) (dQ (be (ai ge (aj (nF 3 dJ) (aa (af 3) (aa (af 6) (aa (af 7) (ah))))) (aj (nF 3 eM) (aa (af 3) (aa (af 6) (aa (af 7) (ah))))))) (aX (ao (.bl false))) (skip))) (ρ:=[.v (gb ns),.v (nI k),.own (aH a2 b2),.v (aZ r x),.v (.int far),.v (.lst (L.map D.int)),s6,s7]) (ds:=L.map D.int) (P:=λρ=> ∃s6 s7,ρ=[.v (gb ns),.v (nI k),.own (aH a2 b2),.v (aZ r x),.v (.int far),.v (.lst (L.map D.int)),s6,s7]) (bR (ud rfl)) (jE _ (λd hd ρ hρ=>by
  obtain⟨c,_,rfl⟩:=List.mem_map.mp hd
  obtain⟨s6,s7,rfl⟩:=hρ
  obtain⟨ρ2,l2,s7',rfl⟩:=jA (f:=bZ (fL (af 5))) (g:=gN 7) (b:=dQ (be (ai ge (aj (nF 3 dJ) (aa (af 3) (aa (af 6) (aa (af 7) (ah))))) (aj (nF 3 eM) (aa (af 3) (aa (af 6) (aa (af 7) (ah))))))) (aX (ao (.bl false))) (skip)) (ρ:=[.v (gb ns),.v (nI k),.own (aH a2 b2),.v (aZ r x),.v (.int far),.v (.lst (L.map D.int)),.v (.int c),s7]) (ds:=L.map D.int) (P:=λρ=> ∃s7,ρ=[.v (gb ns),.v (nI k),.own (aH a2 b2),.v (aZ r x),.v (.int far),.v (.lst (L.map D.int)),.v (.int c),s7]) (bR (ud rfl)) (jE _ (λd hd ρ hρ=>by
   obtain⟨q,_,rfl⟩:=List.mem_map.mp hd
   obtain⟨s7,rfl⟩:=hρ
   refine⟨_,[.v (gb ns),.v (nI k),.own (aH a2 b2),.v (aZ r x),.v (.int far),.v (.lst (L.map D.int)),.v (.int c),.v (.int q)],rfl,dM (cz ((au ((fZ (ds:=[aZ r x,.int c,.int q]) rfl rfl).trans (vI G c q)) ((fZ (ds:=[aZ r x,.int c,.int q]) rfl rfl).trans (yg G c q))).trans ?_)),⟨_,rfl⟩⟩
   rw[h9 (vR r x c q),jZ];rfl) _ ⟨_,rfl⟩)
  exact⟨_,_,rfl,l2,⟨_,_,rfl⟩⟩) _ ⟨_,_,rfl⟩)
 exact⟨_,_,rfl,(av q1).trans ((av q2).trans ((av q3).trans ((av q4).trans l1))),⟨_,_,_,_,_,_,_,rfl⟩⟩
theorem all_mk {l:W.OpenLaw}{w:World}{K:W.Frag}{h:Heap}{mg:Str->Option Value}{fa:Addr}{f0:Addr}{od0 an0:Option Addr}{sl0:Array (Option Value)}{oc0 kV0 dc0 pm0 cd0 ct0:Value}{f1:Addr}{od1 an1:Option Addr}{sl1:Array (Option Value)}{oc1 kV1 dc1 pm1 cd1 ct1:Value}{f2:Addr}{od2 an2:Option Addr}{sl2:Array (Option Value)}{oc2 kV2 dc2 pm2 cd2 ct2:Value}{f3:Addr}{od3 an3:Option Addr}{sl3:Array (Option Value)}{oc3 kV3 dc3 pm3 cd3 ct3:Value}{f4:Addr}{od4 an4:Option Addr}{sl4:Array (Option Value)}{oc4 kV4 dc4 pm4 cd4 ct4:Value}{f5:Addr}{od5 an5:Option Addr}{sl5:Array (Option Value)}{oc5 kV5 dc5 pm5 cd5 ct5:Value}{f6:Addr}{od6 an6:Option Addr}{sl6:Array (Option Value)}{oc6 kV6 dc6 pm6 cd6 ct6:Value}{f7:Addr}{od7 an7:Option Addr}{sl7:Array (Option Value)}{oc7 kV7 dc7 pm7 cd7 ct7:Value}{f8:Addr}{od8 an8:Option Addr}{sl8:Array (Option Value)}{oc8 kV8 dc8 pm8 cd8 ct8:Value}{f9:Addr}{od9 an9:Option Addr}{sl9:Array (Option Value)}{oc9 kV9 dc9 pm9 cd9 ct9:Value}{f10:Addr}{od10 an10:Option Addr}{sl10:Array (Option Value)}{oc10 kV10 dc10 pm10 cd10 ct10:Value}{f11:Addr}{od11 an11:Option Addr}{sl11:Array (Option Value)}{oc11 kV11 dc11 pm11 cd11 ct11:Value}{f12:Addr}{od12 an12:Option Addr}{sl12:Array (Option Value)}{oc12 kV12 dc12 pm12 cd12 ct12:Value}{f13:Addr}{od13 an13:Option Addr}{sl13:Array (Option Value)}{oc13 kV13 dc13 pm13 cd13 ct13:Value}{f14:Addr}{od14 an14:Option Addr}{sl14:Array (Option Value)}{oc14 kV14 dc14 pm14 cd14 ct14:Value}{f15:Addr}{od15 an15:Option Addr}{sl15:Array (Option Value)}{oc15 kV15 dc15 pm15 cd15 ct15:Value}{f16:Addr}{od16 an16:Option Addr}{sl16:Array (Option Value)}{oc16 kV16 dc16 pm16 cd16 ct16:Value}{f17:Addr}{od17 an17:Option Addr}{sl17:Array (Option Value)}{oc17 kV17 dc17 pm17 cd17 ct17:Value}{tk_MANY_WAYS:Tok}{kx0 kx1 kx2 kx3 kx4 kx5 kx6 kx7 kx8 kx9:Addr}{xn0 xq0:Str}{xb0 xu0:List Value}{xs0:Addr}{xd0 xl0 xe0:Bool}{xv0:List Str}{xc0:Option Bool}{xn1 xq1:Str}{xb1 xu1:List Value}{xs1:Addr}{xd1 xl1 xe1:Bool}{xv1:List Str}{xc1:Option Bool}{xn2 xq2:Str}{xb2 xu2:List Value}{xs2:Addr}{xd2 xl2 xe2:Bool}{xv2:List Str}{xc2:Option Bool}{xn3 xq3:Str}{xb3 xu3:List Value}{xs3:Addr}{xd3 xl3 xe3:Bool}{xv3:List Str}{xc3:Option Bool}{xn4 xq4:Str}{xb4 xu4:List Value}{xs4:Addr}{xd4 xl4 xe4:Bool}{xv4:List Str}{xc4:Option Bool}{xn5 xq5:Str}{xb5 xu5:List Value}{xs5:Addr}{xd5 xl5 xe5:Bool}{xv5:List Str}{xc5:Option Bool}{xn6 xq6:Str}{xb6 xu6:List Value}{xs6:Addr}{xd6 xl6 xe6:Bool}{xv6:List Str}{xc6:Option Bool}{xn7 xq7:Str}{xb7 xu7:List Value}{xs7:Addr}{xd7 xl7 xe7:Bool}{xv7:List Str}{xc7:Option Bool}{xn8 xq8:Str}{xb8 xu8:List Value}{xs8:Addr}{xd8 xl8 xe8:Bool}{xv8:List Str}{xc8:Option Bool}{xn9 xq9:Str}{xb9 xu9:List Value}{xs9:Addr}{xd9 xl9 xe9:Bool}{xv9:List Str}{xc9:Option Bool}(X:K.In h)(G:h.Ns mainGlobals mg)(hfa:mg "law"=some (.ref fa))
 (a0:W.nsIn K mainGlobals "free_and_full"=some (some (.ref f0))) (l0:K.lookup f0=some ⟨oc0,od0,.func (W.fnOf "free_and_full" "free_and_full" (bo bA) (aQ bA) (aq bA) .none kV0 dc0 pm0 an0 cd0 ct0),sl0⟩) (c0:W.codeIn K cd0 "free_and_full"=true) (k0:W.keepIn K (.ref f0)=true)
 (a1:W.nsIn K mainGlobals "is_put"=some (some (.ref f1))) (l1:K.lookup f1=some ⟨oc1,od1,.func (W.fnOf "is_put" "is_put" (bo eZ) (aQ eZ) (aq eZ) .none kV1 dc1 pm1 an1 cd1 ct1),sl1⟩) (c1:W.codeIn K cd1 "is_put"=true) (k1:W.keepIn K (.ref f1)=true)
 (a2:W.nsIn K mainGlobals "way_put"=some (some (.ref f2))) (l2:K.lookup f2=some ⟨oc2,od2,.func (W.fnOf "way_put" "way_put" (bo dN) (aQ dN) (aq dN) .none kV2 dc2 pm2 an2 cd2 ct2),sl2⟩) (c2:W.codeIn K cd2 "way_put"=true) (k2:W.keepIn K (.ref f2)=true)
 (a3:W.nsIn K mainGlobals "rows_joined"=some (some (.ref f3))) (l3:K.lookup f3=some ⟨oc3,od3,.func (W.fnOf "rows_joined" "rows_joined" (bo ce) (aQ ce) (aq ce) .none kV3 dc3 pm3 an3 cd3 ct3),sl3⟩) (c3:W.codeIn K cd3 "rows_joined"=true) (k3:W.keepIn K (.ref f3)=true)
 (a4:W.nsIn K mainGlobals "corner_taken"=some (some (.ref f4))) (l4:K.lookup f4=some ⟨oc4,od4,.func (W.fnOf "corner_taken" "corner_taken" (bo bN) (aQ bN) (aq bN) .none kV4 dc4 pm4 an4 cd4 ct4),sl4⟩) (c4:W.codeIn K cd4 "corner_taken"=true) (k4:W.keepIn K (.ref f4)=true)
 (a5:W.nsIn K mainGlobals "_law_cell"=some (some (.ref f5))) (l5:K.lookup f5=some ⟨oc5,od5,.func (W.fnOf "_law_cell" "_law_cell" (bo cT) (aQ cT) (aq cT) .none kV5 dc5 pm5 an5 cd5 ct5),sl5⟩) (c5:W.codeIn K cd5 "_law_cell"=true) (k5:W.keepIn K (.ref f5)=true)
 (a6:W.nsIn K mainGlobals "_law_bag"=some (some (.ref f6))) (l6:K.lookup f6=some ⟨oc6,od6,.func (W.fnOf "_law_bag" "_law_bag" (bo dC) (aQ dC) (aq dC) .none kV6 dc6 pm6 an6 cd6 ct6),sl6⟩) (c6:W.codeIn K cd6 "_law_bag"=true) (k6:W.keepIn K (.ref f6)=true)
 (a7:W.nsIn K mainGlobals "_law_take"=some (some (.ref f7))) (l7:K.lookup f7=some ⟨oc7,od7,.func (W.fnOf "_law_take" "_law_take" (bo cU) (aQ cU) (aq cU) .none kV7 dc7 pm7 an7 cd7 ct7),sl7⟩) (c7:W.codeIn K cd7 "_law_take"=true) (k7:W.keepIn K (.ref f7)=true)
 (a8:W.nsIn K mainGlobals "_law_order"=some (some (.ref f8))) (l8:K.lookup f8=some ⟨oc8,od8,.func (W.fnOf "_law_order" "_law_order" (bo cH) (aQ cH) (aq cH) .none kV8 dc8 pm8 an8 cd8 ct8),sl8⟩) (c8:W.codeIn K cd8 "_law_order"=true) (k8:W.keepIn K (.ref f8)=true)
 (a9:W.nsIn K mainGlobals "_law_square"=some (some (.ref f9))) (l9:K.lookup f9=some ⟨oc9,od9,.func (W.fnOf "_law_square" "_law_square" (bo cj) (aQ cj) (aq cj) .none kV9 dc9 pm9 an9 cd9 ct9),sl9⟩) (c9:W.codeIn K cd9 "_law_square"=true) (k9:W.keepIn K (.ref f9)=true)
 (a10:W.nsIn K mainGlobals "_law_put"=some (some (.ref f10))) (l10:K.lookup f10=some ⟨oc10,od10,.func (W.fnOf "_law_put" "_law_put" (bo dO) (aQ dO) (aq dO) .none kV10 dc10 pm10 an10 cd10 ct10),sl10⟩) (c10:W.codeIn K cd10 "_law_put"=true) (k10:W.keepIn K (.ref f10)=true)
 (a11:W.nsIn K mainGlobals "_law_other"=some (some (.ref f11))) (l11:K.lookup f11=some ⟨oc11,od11,.func (W.fnOf "_law_other" "_law_other" (bo cF) (aQ cF) (aq cF) .none kV11 dc11 pm11 an11 cd11 ct11),sl11⟩) (c11:W.codeIn K cd11 "_law_other"=true) (k11:W.keepIn K (.ref f11)=true)
 (a12:W.nsIn K mainGlobals "_law_less"=some (some (.ref f12))) (l12:K.lookup f12=some ⟨oc12,od12,.func (W.fnOf "_law_less" "_law_less" (bo cW) (aQ cW) (aq cW) .none kV12 dc12 pm12 an12 cd12 ct12),sl12⟩) (c12:W.codeIn K cd12 "_law_less"=true) (k12:W.keepIn K (.ref f12)=true)
 (a13:W.nsIn K mainGlobals "_law_is_square"=some (some (.ref f13))) (l13:K.lookup f13=some ⟨oc13,od13,.func (W.fnOf "_law_is_square" "_law_is_square" (bo bC) (aQ bC) (aq bC) .none kV13 dc13 pm13 an13 cd13 ct13),sl13⟩) (c13:W.codeIn K cd13 "_law_is_square"=true) (k13:W.keepIn K (.ref f13)=true)
 (a14:W.nsIn K mainGlobals "_law_due"=some (some (.ref f14))) (l14:K.lookup f14=some ⟨oc14,od14,.func (W.fnOf "_law_due" "_law_due" (bo dD) (aQ dD) (aq dD) .none kV14 dc14 pm14 an14 cd14 ct14),sl14⟩) (c14:W.codeIn K cd14 "_law_due"=true) (k14:W.keepIn K (.ref f14)=true)
 (a15:W.nsIn K mainGlobals "_law_told"=some (some (.ref f15))) (l15:K.lookup f15=some ⟨oc15,od15,.func (W.fnOf "_law_told" "_law_told" (bo cX) (aQ cX) (aq cX) .none kV15 dc15 pm15 an15 cd15 ct15),sl15⟩) (c15:W.codeIn K cd15 "_law_told"=true) (k15:W.keepIn K (.ref f15)=true)
 (a16:W.nsIn K mainGlobals "_law_drawn"=some (some (.ref f16))) (l16:K.lookup f16=some ⟨oc16,od16,.func (W.fnOf "_law_drawn" "_law_drawn" (bo cG) (aQ cG) (aq cG) .none kV16 dc16 pm16 an16 cd16 ct16),sl16⟩) (c16:W.codeIn K cd16 "_law_drawn"=true) (k16:W.keepIn K (.ref f16)=true)
 (a17:W.nsIn K mainGlobals "law"=some (some (.ref f17))) (l17:K.lookup f17=some ⟨oc17,od17,.func (W.fnOf "law" "law" (bo gX) (aQ gX) (aq gX) .none kV17 dc17 pm17 an17 cd17 ct17),sl17⟩) (c17:W.codeIn K cd17 "law"=true) (k17:W.keepIn K (.ref f17)=true)
 (z_ValueError:W.nsIn K mainGlobals "ValueError"=some none)
 (z_abs:W.nsIn K mainGlobals "abs"=some none)
 (z_any:W.nsIn K mainGlobals "any"=some none)
 (z_enumerate:W.nsIn K mainGlobals "enumerate"=some none)
 (z_int:W.nsIn K mainGlobals "int"=some none)
 (z_isinstance:W.nsIn K mainGlobals "isinstance"=some none)
 (z_len:W.nsIn K mainGlobals "len"=some none)
 (z_list:W.nsIn K mainGlobals "list"=some none)
 (z_max:W.nsIn K mainGlobals "max"=some none)
 (z_min:W.nsIn K mainGlobals "min"=some none)
 (z_range:W.nsIn K mainGlobals "range"=some none)
 (z_sorted:W.nsIn K mainGlobals "sorted"=some none)
 (z_tuple:W.nsIn K mainGlobals "tuple"=some none)
 (g_MANY_WAYS:W.nsIn K mainGlobals "MANY_WAYS"=some (some (.int 4 tk_MANY_WAYS)))
 (ya0:W.nsIn K mainGlobals "RookError"=some (some (.ref kx0)))
 (yb0:W.findIn K (.ref kx0) "__getattribute__"=some (some (.builtin "BaseException.__getattribute__")))
 (yc0:W.findIn K (.ref kx0) "__getattr__"=some none)
 (yd0:W.findIn K (.ref kx0) "__class__"=some (some (.builtin "object.__class__")))
 (yg0:W.mroIn K kx0 (.type "object")=some true)
 (yh0:W.mroIn K kx0 (.type "BaseException")=some true)
 (yt0:W.typeIn K (.ref kx0)=some (.type "type"))
 (ym0:W.clsIn K kx0=some ⟨xn0,xb0,.ref kx0::nh,xs0,xq0,xd0,xv0,xu0,xl0,xc0,xe0⟩)
 (ya1:W.nsIn K mainGlobals "NoSquare"=some (some (.ref kx1)))
 (yb1:W.findIn K (.ref kx1) "__getattribute__"=some (some (.builtin "BaseException.__getattribute__")))
 (yc1:W.findIn K (.ref kx1) "__getattr__"=some none)
 (yd1:W.findIn K (.ref kx1) "__class__"=some (some (.builtin "object.__class__")))
 (yg1:W.mroIn K kx1 (.type "object")=some true)
 (yh1:W.mroIn K kx1 (.type "BaseException")=some true)
 (yt1:W.typeIn K (.ref kx1)=some (.type "type"))
 (ym1:W.clsIn K kx1=some ⟨xn1,xb1,.ref kx1:: .ref kx0::nh,xs1,xq1,xd1,xv1,xu1,xl1,xc1,xe1⟩)
 (ya2:W.nsIn K mainGlobals "NoMove"=some (some (.ref kx2)))
 (yb2:W.findIn K (.ref kx2) "__getattribute__"=some (some (.builtin "BaseException.__getattribute__")))
 (yc2:W.findIn K (.ref kx2) "__getattr__"=some none)
 (yd2:W.findIn K (.ref kx2) "__class__"=some (some (.builtin "object.__class__")))
 (yg2:W.mroIn K kx2 (.type "object")=some true)
 (yh2:W.mroIn K kx2 (.type "BaseException")=some true)
 (yt2:W.typeIn K (.ref kx2)=some (.type "type"))
 (ym2:W.clsIn K kx2=some ⟨xn2,xb2,.ref kx2:: .ref kx0::nh,xs2,xq2,xd2,xv2,xu2,xl2,xc2,xe2⟩)
 (ya3:W.nsIn K mainGlobals "TooMany"=some (some (.ref kx3)))
 (yb3:W.findIn K (.ref kx3) "__getattribute__"=some (some (.builtin "BaseException.__getattribute__")))
 (yc3:W.findIn K (.ref kx3) "__getattr__"=some none)
 (yd3:W.findIn K (.ref kx3) "__class__"=some (some (.builtin "object.__class__")))
 (yg3:W.mroIn K kx3 (.type "object")=some true)
 (yh3:W.mroIn K kx3 (.type "BaseException")=some true)
 (yt3:W.typeIn K (.ref kx3)=some (.type "type"))
 (ym3:W.clsIn K kx3=some ⟨xn3,xb3,.ref kx3:: .ref kx0::nh,xs3,xq3,xd3,xv3,xu3,xl3,xc3,xe3⟩)
 (ya4:W.nsIn K mainGlobals "NoPart"=some (some (.ref kx4)))
 (yb4:W.findIn K (.ref kx4) "__getattribute__"=some (some (.builtin "BaseException.__getattribute__")))
 (yc4:W.findIn K (.ref kx4) "__getattr__"=some none)
 (yd4:W.findIn K (.ref kx4) "__class__"=some (some (.builtin "object.__class__")))
 (yg4:W.mroIn K kx4 (.type "object")=some true)
 (yh4:W.mroIn K kx4 (.type "BaseException")=some true)
 (yt4:W.typeIn K (.ref kx4)=some (.type "type"))
 (ym4:W.clsIn K kx4=some ⟨xn4,xb4,.ref kx4:: .ref kx0::nh,xs4,xq4,xd4,xv4,xu4,xl4,xc4,xe4⟩)
 (ya5:W.nsIn K mainGlobals "NotOne"=some (some (.ref kx5)))
 (yb5:W.findIn K (.ref kx5) "__getattribute__"=some (some (.builtin "BaseException.__getattribute__")))
 (yc5:W.findIn K (.ref kx5) "__getattr__"=some none)
 (yd5:W.findIn K (.ref kx5) "__class__"=some (some (.builtin "object.__class__")))
 (yg5:W.mroIn K kx5 (.type "object")=some true)
 (yh5:W.mroIn K kx5 (.type "BaseException")=some true)
 (yt5:W.typeIn K (.ref kx5)=some (.type "type"))
 (ym5:W.clsIn K kx5=some ⟨xn5,xb5,.ref kx5:: .ref kx0::nh,xs5,xq5,xd5,xv5,xu5,xl5,xc5,xe5⟩)
 (ya6:W.nsIn K mainGlobals "NoPaper"=some (some (.ref kx6)))
 (yb6:W.findIn K (.ref kx6) "__getattribute__"=some (some (.builtin "BaseException.__getattribute__")))
 (yc6:W.findIn K (.ref kx6) "__getattr__"=some none)
 (yd6:W.findIn K (.ref kx6) "__class__"=some (some (.builtin "object.__class__")))
 (yg6:W.mroIn K kx6 (.type "object")=some true)
 (yh6:W.mroIn K kx6 (.type "BaseException")=some true)
 (yt6:W.typeIn K (.ref kx6)=some (.type "type"))
 (ym6:W.clsIn K kx6=some ⟨xn6,xb6,.ref kx6:: .ref kx0::nh,xs6,xq6,xd6,xv6,xu6,xl6,xc6,xe6⟩)
 (ya7:W.nsIn K mainGlobals "NoText"=some (some (.ref kx7)))
 (yb7:W.findIn K (.ref kx7) "__getattribute__"=some (some (.builtin "BaseException.__getattribute__")))
 (yc7:W.findIn K (.ref kx7) "__getattr__"=some none)
 (yd7:W.findIn K (.ref kx7) "__class__"=some (some (.builtin "object.__class__")))
 (yg7:W.mroIn K kx7 (.type "object")=some true)
 (yh7:W.mroIn K kx7 (.type "BaseException")=some true)
 (yt7:W.typeIn K (.ref kx7)=some (.type "type"))
 (ym7:W.clsIn K kx7=some ⟨xn7,xb7,.ref kx7:: .ref kx0::nh,xs7,xq7,xd7,xv7,xu7,xl7,xc7,xe7⟩)
 (ya8:W.nsIn K mainGlobals "NoRow"=some (some (.ref kx8)))
 (yb8:W.findIn K (.ref kx8) "__getattribute__"=some (some (.builtin "BaseException.__getattribute__")))
 (yc8:W.findIn K (.ref kx8) "__getattr__"=some none)
 (yd8:W.findIn K (.ref kx8) "__class__"=some (some (.builtin "object.__class__")))
 (yg8:W.mroIn K kx8 (.type "object")=some true)
 (yh8:W.mroIn K kx8 (.type "BaseException")=some true)
 (yt8:W.typeIn K (.ref kx8)=some (.type "type"))
 (ym8:W.clsIn K kx8=some ⟨xn8,xb8,.ref kx8:: .ref kx0::nh,xs8,xq8,xd8,xv8,xu8,xl8,xc8,xe8⟩)
 (ya9:W.nsIn K mainGlobals "NoStep"=some (some (.ref kx9)))
 (yb9:W.findIn K (.ref kx9) "__getattribute__"=some (some (.builtin "BaseException.__getattribute__")))
 (yc9:W.findIn K (.ref kx9) "__getattr__"=some none)
 (yd9:W.findIn K (.ref kx9) "__class__"=some (some (.builtin "object.__class__")))
 (yg9:W.mroIn K kx9 (.type "object")=some true)
 (yh9:W.mroIn K kx9 (.type "BaseException")=some true)
 (yt9:W.typeIn K (.ref kx9)=some (.type "type"))
 (ym9:W.clsIn K kx9=some ⟨xn9,xb9,.ref kx9:: .ref kx0::nh,xs9,xq9,xd9,xv9,xu9,xl9,xc9,xe9⟩)
 (ye:W.specialIn K (.builtin "object.__class__") "__get__"=some (some (.builtin "getset_descriptor.__get__")))
 (yf:W.takesIn K (.builtin "object.__class__")=some true)
 (yo_NoMove:W.excIn K kx2 nh "ValueError.__new__"=true)
 (yn:[kx0,kx1,kx2,kx3,kx4,kx5,kx6,kx7,kx8,kx9].Nodup):
 ∃fd:FuncData,(∀(s:Shared) (v:Value),BindsTo s fd ⟨[v],[]⟩ [("_law_script",v)])/\ ∀base:Heap,K.In base->base.Ns mainGlobals mg->FnOk l.prog w K mg base lG 6 fa fd ["_law_script"] (qh K):=by
 have e:=hfa.symm.trans (W.mg_of X G a17)
 cases e
 have F0:=cy (st:=bA) l0 c0 k0
 have b0:=F0.binds (ps:=["c","r","way"]) λ_ _ _ _ _ _ us hl=>ar3 us hl (λ_ _ _=>rfl)
 have d0:Df K mg "free_and_full" bA ["c","r","way"]:=⟨_,_,F0,W.mg_of X G a0,b0⟩
 have F1:=cy (st:=eZ) l1 c1 k1
 have b1:=F1.binds (ps:=["square","c","r","way"]) λ_ _ _ _ _ _ us hl=>ar4 us hl (λ_ _ _ _=>rfl)
 have d1:Df K mg "is_put" eZ ["square","c","r","way"]:=⟨_,_,F1,W.mg_of X G a1,b1⟩
 have F2:=cy (st:=dN) l2 c2 k2
 have b2:=F2.binds (ps:=["square","c","r"]) λ_ _ _ _ _ _ us hl=>ar3 us hl (λ_ _ _=>rfl)
 have d2:Df K mg "way_put" dN ["square","c","r"]:=⟨_,_,F2,W.mg_of X G a2,b2⟩
 have F3:=cy (st:=ce) l3 c3 k3
 have b3:=F3.binds (ps:=["marks","row","column"]) λ_ _ _ _ _ _ us hl=>ar3 us hl (λ_ _ _=>rfl)
 have d3:Df K mg "rows_joined" ce ["marks","row","column"]:=⟨_,_,F3,W.mg_of X G a3,b3⟩
 have F4:=cy (st:=bN) l4 c4 k4
 have b4:=F4.binds (ps:=["square","c","r"]) λ_ _ _ _ _ _ us hl=>ar3 us hl (λ_ _ _=>rfl)
 have d4:Df K mg "corner_taken" bN ["square","c","r"]:=⟨_,_,F4,W.mg_of X G a4,b4⟩
 have F5:=cy (st:=cT) l5 c5 k5
 have b5:=F5.binds (ps:=["_law_script","_law_k"]) λ_ _ _ _ _ _ us hl=>ar2 us hl (λ_ _=>rfl)
 have d5:Df K mg "_law_cell" cT ["_law_script","_law_k"]:=⟨_,_,F5,W.mg_of X G a5,b5⟩
 have F6:=cy (st:=dC) l6 c6 k6
 have b6:=F6.binds (ps:=["_law_script","_law_at"]) λ_ _ _ _ _ _ us hl=>ar2 us hl (λ_ _=>rfl)
 have d6:Df K mg "_law_bag" dC ["_law_script","_law_at"]:=⟨_,_,F6,W.mg_of X G a6,b6⟩
 have F7:=cy (st:=cU) l7 c7 k7
 have b7:=F7.binds (ps:=["_law_bag_here","_law_many"]) λ_ _ _ _ _ _ us hl=>ar2 us hl (λ_ _=>rfl)
 have d7:Df K mg "_law_take" cU ["_law_bag_here","_law_many"]:=⟨_,_,F7,W.mg_of X G a7,b7⟩
 have F8:=cy (st:=cH) l8 c8 k8
 have b8:=F8.binds (ps:=["_law_bag_here","_law_n"]) λ_ _ _ _ _ _ us hl=>ar2 us hl (λ_ _=>rfl)
 have d8:Df K mg "_law_order" cH ["_law_bag_here","_law_n"]:=⟨_,_,F8,W.mg_of X G a8,b8⟩
 have F9:=cy (st:=cj) l9 c9 k9
 have b9:=F9.binds (ps:=["_law_bag_here","_law_n"]) λ_ _ _ _ _ _ us hl=>ar2 us hl (λ_ _=>rfl)
 have d9:Df K mg "_law_square" cj ["_law_bag_here","_law_n"]:=⟨_,_,F9,W.mg_of X G a9,b9⟩
 have F10:=cy (st:=dO) l10 c10 k10
 have b10:=F10.binds (ps:=["_law_square_here","_law_c","_law_way"]) λ_ _ _ _ _ _ us hl=>ar3 us hl (λ_ _ _=>rfl)
 have d10:Df K mg "_law_put" dO ["_law_square_here","_law_c","_law_way"]:=⟨_,_,F10,W.mg_of X G a10,b10⟩
 have F11:=cy (st:=cF) l11 c11 k11
 have b11:=F11.binds (ps:=["_law_e"]) λ_ _ _ _ _ _ us hl=>ar1 us hl (λ_=>rfl)
 have d11:Df K mg "_law_other" cF ["_law_e"]:=⟨_,_,F11,W.mg_of X G a11,b11⟩
 have F12:=cy (st:=cW) l12 c12 k12
 have b12:=F12.binds (ps:=["_law_square_here","_law_c","_law_r","_law_way"]) λ_ _ _ _ _ _ us hl=>ar4 us hl (λ_ _ _ _=>rfl)
 have d12:Df K mg "_law_less" cW ["_law_square_here","_law_c","_law_r","_law_way"]:=⟨_,_,F12,W.mg_of X G a12,b12⟩
 have F13:=cy (st:=bC) l13 c13 k13
 have b13:=F13.binds (ps:=["_law_square_here"]) λ_ _ _ _ _ _ us hl=>ar1 us hl (λ_=>rfl)
 have d13:Df K mg "_law_is_square" bC ["_law_square_here"]:=⟨_,_,F13,W.mg_of X G a13,b13⟩
 have F14:=cy (st:=dD) l14 c14 k14
 have b14:=F14.binds (ps:=["_law_square_here","_law_c","_law_r"]) λ_ _ _ _ _ _ us hl=>ar3 us hl (λ_ _ _=>rfl)
 have d14:Df K mg "_law_due" dD ["_law_square_here","_law_c","_law_r"]:=⟨_,_,F14,W.mg_of X G a14,b14⟩
 have F15:=cy (st:=cX) l15 c15 k15
 have b15:=F15.binds (ps:=["_law_square_here","_law_c","_law_r"]) λ_ _ _ _ _ _ us hl=>ar3 us hl (λ_ _ _=>rfl)
 have d15:Df K mg "_law_told" cX ["_law_square_here","_law_c","_law_r"]:=⟨_,_,F15,W.mg_of X G a15,b15⟩
 have F16:=cy (st:=cG) l16 c16 k16
 have b16:=F16.binds (ps:=["_law_bag_here"]) λ_ _ _ _ _ _ us hl=>ar1 us hl (λ_=>rfl)
 have d16:Df K mg "_law_drawn" cG ["_law_bag_here"]:=⟨_,_,F16,W.mg_of X G a16,b16⟩
 have F17:=cy (st:=gX) l17 c17 k17
 have b17:=F17.binds (ps:=["_law_script"]) λ_ _ _ _ _ _ us hl=>ar1 us hl (λ_=>rfl)
 have d17:Df K mg "law" gX ["_law_script"]:=⟨_,_,F17,W.mg_of X G a17,b17⟩
 have B:Bt mg:=⟨W.mg_none_of X G z_ValueError,W.mg_none_of X G z_abs,W.mg_none_of X G z_any,W.mg_none_of X G z_enumerate,W.mg_none_of X G z_int,W.mg_none_of X G z_isinstance,W.mg_none_of X G z_len,W.mg_none_of X G z_list,W.mg_none_of X G z_max,W.mg_none_of X G z_min,W.mg_none_of X G z_range,W.mg_none_of X G z_sorted,W.mg_none_of X G z_tuple,⟨_,W.mg_of X G g_MANY_WAYS⟩⟩
 have r0:ExRow K mg kx0 "RookError" kx0:=⟨W.mg_of X G ya0,ya0,⟨yb0,yc0,yd0,ye,yf,yg0,yh0⟩,yt0,_,ym0,(if_pos rfl).symm⟩
 have r1:ExRow K mg kx0 "NoSquare" kx1:=⟨W.mg_of X G ya1,ya1,⟨yb1,yc1,yd1,ye,yf,yg1,yh1⟩,yt1,_,ym1,(if_neg (fV yn (List.Mem.head _))).symm⟩
 have r2:ExRow K mg kx0 "NoMove" kx2:=⟨W.mg_of X G ya2,ya2,⟨yb2,yc2,yd2,ye,yf,yg2,yh2⟩,yt2,_,ym2,(if_neg (fV yn (List.Mem.tail _ (List.Mem.head _)))).symm⟩
 have r3:ExRow K mg kx0 "TooMany" kx3:=⟨W.mg_of X G ya3,ya3,⟨yb3,yc3,yd3,ye,yf,yg3,yh3⟩,yt3,_,ym3,(if_neg (fV yn (List.Mem.tail _ (List.Mem.tail _ (List.Mem.head _))))).symm⟩
 have r4:ExRow K mg kx0 "NoPart" kx4:=⟨W.mg_of X G ya4,ya4,⟨yb4,yc4,yd4,ye,yf,yg4,yh4⟩,yt4,_,ym4,(if_neg (fV yn (List.Mem.tail _ (List.Mem.tail _ (List.Mem.tail _ (List.Mem.head _)))))).symm⟩
 have r5:ExRow K mg kx0 "NotOne" kx5:=⟨W.mg_of X G ya5,ya5,⟨yb5,yc5,yd5,ye,yf,yg5,yh5⟩,yt5,_,ym5,(if_neg (fV yn (List.Mem.tail _ (List.Mem.tail _ (List.Mem.tail _ (List.Mem.tail _ (List.Mem.head _))))))).symm⟩
 have r6:ExRow K mg kx0 "NoPaper" kx6:=⟨W.mg_of X G ya6,ya6,⟨yb6,yc6,yd6,ye,yf,yg6,yh6⟩,yt6,_,ym6,(if_neg (fV yn (List.Mem.tail _ (List.Mem.tail _ (List.Mem.tail _ (List.Mem.tail _ (List.Mem.tail _ (List.Mem.head _)))))))).symm⟩
 have r7:ExRow K mg kx0 "NoText" kx7:=⟨W.mg_of X G ya7,ya7,⟨yb7,yc7,yd7,ye,yf,yg7,yh7⟩,yt7,_,ym7,(if_neg (fV yn (List.Mem.tail _ (List.Mem.tail _ (List.Mem.tail _ (List.Mem.tail _ (List.Mem.tail _ (List.Mem.tail _ (List.Mem.head _))))))))).symm⟩
 have r8:ExRow K mg kx0 "NoRow" kx8:=⟨W.mg_of X G ya8,ya8,⟨yb8,yc8,yd8,ye,yf,yg8,yh8⟩,yt8,_,ym8,(if_neg (fV yn (List.Mem.tail _ (List.Mem.tail _ (List.Mem.tail _ (List.Mem.tail _ (List.Mem.tail _ (List.Mem.tail _ (List.Mem.tail _ (List.Mem.head _)))))))))).symm⟩
 have r9:ExRow K mg kx0 "NoStep" kx9:=⟨W.mg_of X G ya9,ya9,⟨yb9,yc9,yd9,ye,yf,yg9,yh9⟩,yt9,_,ym9,(if_neg (fV yn (List.Mem.tail _ (List.Mem.tail _ (List.Mem.tail _ (List.Mem.tail _ (List.Mem.tail _ (List.Mem.tail _ (List.Mem.tail _ (List.Mem.tail _ (List.Mem.head _))))))))))).symm⟩
 have ET:Et K mg kx0 kx1 kx2 kx3 kx4 kx5 kx6 kx7 kx8 kx9:=⟨⟨(cw r0 (cw r1 (cw r2 (cw r3 (cw r4 (cw r5 (cw r6 (cw r7 (cw r8 (cw r9 tz)))))))))),List.Mem.head _,yn⟩,yo_NoMove⟩
 refine⟨W.fnOf "law" "law" (bo gX) (aQ gX) (aq gX) .none kV17 dc17 pm17 an17 cd17 ct17,λs v=>.of_eq rfl,λbase _ _=>?_⟩
 have bW:=jy (P:=l.prog) (w:=w) (base:=base) B d0 ET
 have kf:=sW (P:=l.prog) (w:=w) (base:=base) B d1 ET bW
 have jk:=sq (P:=l.prog) (w:=w) (base:=base) B d2 ET kf
 have dU:=kO (P:=l.prog) (w:=w) (base:=base) B d3 ET
 have eY:=jW (P:=l.prog) (w:=w) (base:=base) B d4 ET jk bW dU
 have il:=pc (P:=l.prog) (w:=w) (base:=base) B d5 ET
 have jd:=sk (P:=l.prog) (w:=w) (base:=base) B d6 ET il
 have aR:=pQ (P:=l.prog) (w:=w) (base:=base) B d7 ET
 have fx:=oh (P:=l.prog) (w:=w) (base:=base) B d8 ET aR
 have eK:=mz (P:=l.prog) (w:=w) (base:=base) B d9 ET aR fx
 have eL:=sE (P:=l.prog) (w:=w) (base:=base) B d10 ET
 have gG:=ol (P:=l.prog) (w:=w) (base:=base) B d11 ET
 have ir:=pV (P:=l.prog) (w:=w) (base:=base) B d12 ET
 have en:=jv (P:=l.prog) (w:=w) (base:=base) B d13 ET
 have i6:=rh (P:=l.prog) (w:=w) (base:=base) B d14 ET ir en eL
 have h8:=pS (P:=l.prog) (w:=w) (base:=base) B d15 ET eY gG
 have gD:=m9 (P:=l.prog) (w:=w) (base:=base) B d16 ET aR eK eL
 exact yr (yU (P:=l.prog) (w:=w) (base:=base) B F17 ET jd gD aR h8 i6) yq
end L2
theorem PySem.W.Fast.tw694190454236568541:True:=⟨⟩
theorem PySem.W.Fast.tw2653135650191792861:True:=⟨⟩
theorem PySem.W.Fast.tw3343010836248849600:True:=⟨⟩
theorem PySem.W.Fast.tw10619073429261950623:True:=⟨⟩
theorem PySem.W.Fast.tw14171373975512315640:True:=⟨⟩
theorem PySem.W.Fast.tw4495419699336864190:True:=⟨⟩
theorem PySem.W.Fast.tw10092652993987615367:True:=⟨⟩
theorem PySem.W.Fast.tw5197972160181726425:True:=⟨⟩
theorem PySem.W.Fast.tw8627926201697666771:True:=⟨⟩
theorem PySem.W.Fast.tw17729071897723857132:True:=⟨⟩
theorem PySem.W.Fast.tw6215614620890226507:True:=⟨⟩
theorem PySem.W.Fast.tw5852659112404948680:True:=⟨⟩
theorem PySem.W.Fast.tw11023014299981027513:True:=⟨⟩
theorem PySem.W.Fast.tw18182276340647390184:True:=⟨⟩
theorem PySem.W.Fast.tw13082902840336149522:True:=⟨⟩
theorem PySem.W.Fast.tw9508563253326140266:True:=⟨⟩
theorem PySem.W.Fast.tw15178256624837449733:True:=⟨⟩
theorem PySem.W.Fast.tw9590086435951787147:True:=⟨⟩
theorem PySem.W.Fast.tw13057697572050756913:True:=⟨⟩
theorem PySem.W.Fast.tw12073892163888468456:True:=⟨⟩
theorem PySem.W.Fast.tw10510887366818870193:True:=⟨⟩
theorem PySem.W.Fast.tw12411181958536581545:True:=⟨⟩
theorem PySem.W.Fast.tw15224710919800242862:True:=⟨⟩
theorem PySem.W.Fast.tw11313047867774053053:True:=⟨⟩
theorem PySem.W.Fast.tw16154975735542344761:True:=⟨⟩
open PySem PySem.W PyProof.Rows
set_option maxRecDepth 100000 in
set_option maxHeartbeats 0 in
theorem PySem.Challenge.cw_rookborders_k12_corners_taken_holds : PySem.Challenge.rw_rookborders_k12_corners_taken.Holds := by
 w_on;o_law;k_head;(case hw=>w_witness2)
 k_fill
 refine L2.walkD (l:=PySem.Challenge.rw_rookborders_k12_corners_taken) (k:=6) (x:="_law_script") rfl rfl ⟨rfl,by decide,by decide⟩ (λw h Y=>W.kIn_of Y) ?F
 case F=>
  intro w mg fa h KX G hmg
  refine' L2.all_mk KX G hmg ?a0 ?l0 ?c0 ?k0 ?a1 ?l1 ?c1 ?k1 ?a2 ?l2 ?c2 ?k2 ?a3 ?l3 ?c3 ?k3 ?a4 ?l4 ?c4 ?k4 ?a5 ?l5 ?c5 ?k5 ?a6 ?l6 ?c6 ?k6 ?a7 ?l7 ?c7 ?k7 ?a8 ?l8 ?c8 ?k8 ?a9 ?l9 ?c9 ?k9 ?a10 ?l10 ?c10 ?k10 ?a11 ?l11 ?c11 ?k11 ?a12 ?l12 ?c12 ?k12 ?a13 ?l13 ?c13 ?k13 ?a14 ?l14 ?c14 ?k14 ?a15 ?l15 ?c15 ?k15 ?a16 ?l16 ?c16 ?k16 ?a17 ?l17 ?c17 ?k17 ?z_ValueError ?z_abs ?z_any ?z_enumerate ?z_int ?z_isinstance ?z_len ?z_list ?z_max ?z_min ?z_range ?z_sorted ?z_tuple ?g_MANY_WAYS ?ya0 ?yb0 ?yc0 ?yd0 ?yg0 ?yh0 ?yt0 ?ym0 ?ya1 ?yb1 ?yc1 ?yd1 ?yg1 ?yh1 ?yt1 ?ym1 ?ya2 ?yb2 ?yc2 ?yd2 ?yg2 ?yh2 ?yt2 ?ym2 ?ya3 ?yb3 ?yc3 ?yd3 ?yg3 ?yh3 ?yt3 ?ym3 ?ya4 ?yb4 ?yc4 ?yd4 ?yg4 ?yh4 ?yt4 ?ym4 ?ya5 ?yb5 ?yc5 ?yd5 ?yg5 ?yh5 ?yt5 ?ym5 ?ya6 ?yb6 ?yc6 ?yd6 ?yg6 ?yh6 ?yt6 ?ym6 ?ya7 ?yb7 ?yc7 ?yd7 ?yg7 ?yh7 ?yt7 ?ym7 ?ya8 ?yb8 ?yc8 ?yd8 ?yg8 ?yh8 ?yt8 ?ym8 ?ya9 ?yb9 ?yc9 ?yd9 ?yg9 ?yh9 ?yt9 ?ym9 ?ye ?yf ?yo_NoMove ?yn
  (case a0=>k_is)
  (case l0=>k_is)
  (case c0=>k_is)
  (case k0=>k_is)
  (case a1=>k_is)
  (case l1=>k_is)
  (case c1=>k_is)
  (case k1=>k_is)
  (case a2=>k_is)
  (case l2=>k_is)
  (case c2=>k_is)
  (case k2=>k_is)
  (case a3=>k_is)
  (case l3=>k_is)
  (case c3=>k_is)
  (case k3=>k_is)
  (case a4=>k_is)
  (case l4=>k_is)
  (case c4=>k_is)
  (case k4=>k_is)
  (case a5=>k_is)
  (case l5=>k_is)
  (case c5=>k_is)
  (case k5=>k_is)
  (case a6=>k_is)
  (case l6=>k_is)
  (case c6=>k_is)
  (case k6=>k_is)
  (case a7=>k_is)
  (case l7=>k_is)
  (case c7=>k_is)
  (case k7=>k_is)
  (case a8=>k_is)
  (case l8=>k_is)
  (case c8=>k_is)
  (case k8=>k_is)
  (case a9=>k_is)
  (case l9=>k_is)
  (case c9=>k_is)
  (case k9=>k_is)
  (case a10=>k_is)
  (case l10=>k_is)
  (case c10=>k_is)
  (case k10=>k_is)
  (case a11=>k_is)
  (case l11=>k_is)
  (case c11=>k_is)
  (case k11=>k_is)
  (case a12=>k_is)
  (case l12=>k_is)
  (case c12=>k_is)
  (case k12=>k_is)
  (case a13=>k_is)
  (case l13=>k_is)
  (case c13=>k_is)
  (case k13=>k_is)
  (case a14=>k_is)
  (case l14=>k_is)
  (case c14=>k_is)
  (case k14=>k_is)
  (case a15=>k_is)
  (case l15=>k_is)
  (case c15=>k_is)
  (case k15=>k_is)
  (case a16=>k_is)
  (case l16=>k_is)
  (case c16=>k_is)
  (case k16=>k_is)
  (case a17=>k_is)
  (case l17=>k_is)
  (case c17=>k_is)
  (case k17=>k_is)
  (case z_ValueError=>k_is)
  (case z_abs=>k_is)
  (case z_any=>k_is)
  (case z_enumerate=>k_is)
  (case z_int=>k_is)
  (case z_isinstance=>k_is)
  (case z_len=>k_is)
  (case z_list=>k_is)
  (case z_max=>k_is)
  (case z_min=>k_is)
  (case z_range=>k_is)
  (case z_sorted=>k_is)
  (case z_tuple=>k_is)
  (case g_MANY_WAYS=>k_is)
  (case ya0=>k_is)
  (case yb0=>k_is)
  (case yc0=>k_is)
  (case yd0=>k_is)
  (case yg0=>k_is)
  (case yh0=>k_is)
  (case yt0=>k_is)
  (case ym0=>k_is)
  (case ya1=>k_is)
  (case yb1=>k_is)
  (case yc1=>k_is)
  (case yd1=>k_is)
  (case yg1=>k_is)
  (case yh1=>k_is)
  (case yt1=>k_is)
  (case ym1=>k_is)
  (case ya2=>k_is)
  (case yb2=>k_is)
  (case yc2=>k_is)
  (case yd2=>k_is)
  (case yg2=>k_is)
  (case yh2=>k_is)
  (case yt2=>k_is)
  (case ym2=>k_is)
  (case ya3=>k_is)
  (case yb3=>k_is)
  (case yc3=>k_is)
  (case yd3=>k_is)
  (case yg3=>k_is)
  (case yh3=>k_is)
  (case yt3=>k_is)
  (case ym3=>k_is)
  (case ya4=>k_is)
  (case yb4=>k_is)
  (case yc4=>k_is)
  (case yd4=>k_is)
  (case yg4=>k_is)
  (case yh4=>k_is)
  (case yt4=>k_is)
  (case ym4=>k_is)
  (case ya5=>k_is)
  (case yb5=>k_is)
  (case yc5=>k_is)
  (case yd5=>k_is)
  (case yg5=>k_is)
  (case yh5=>k_is)
  (case yt5=>k_is)
  (case ym5=>k_is)
  (case ya6=>k_is)
  (case yb6=>k_is)
  (case yc6=>k_is)
  (case yd6=>k_is)
  (case yg6=>k_is)
  (case yh6=>k_is)
  (case yt6=>k_is)
  (case ym6=>k_is)
  (case ya7=>k_is)
  (case yb7=>k_is)
  (case yc7=>k_is)
  (case yd7=>k_is)
  (case yg7=>k_is)
  (case yh7=>k_is)
  (case yt7=>k_is)
  (case ym7=>k_is)
  (case ya8=>k_is)
  (case yb8=>k_is)
  (case yc8=>k_is)
  (case yd8=>k_is)
  (case yg8=>k_is)
  (case yh8=>k_is)
  (case yt8=>k_is)
  (case ym8=>k_is)
  (case ya9=>k_is)
  (case yb9=>k_is)
  (case yc9=>k_is)
  (case yd9=>k_is)
  (case yg9=>k_is)
  (case yh9=>k_is)
  (case yt9=>k_is)
  (case ym9=>k_is)
  (case ye=>k_is)
  (case yf=>k_is)
  (case yo_NoMove=>k_exc)
  (case yn=>decide)
