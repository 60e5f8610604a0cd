import PyProof.Rows.All
import Wide.All
import OpenK.AllK
import Wide.FinOn
import PyProof.EqAt
import PyProof.EqKinds
import PyProof.TupleCall
import PyProof.NeKinds
import PyProof.FactsAll.tuple_2
import PyProof.FactsAll.tuple_3
import PyProof.ListRange
import KE.KSortTup
import PyProof.EnumMake
import PyProof.AutoSeq1
import PyProof.Rows.SeqMore
import KE.KIsAll
import PyProof.ExcArgsOwn
import PyProof.ExcBaseAll.ValueError
import PyProof.ExcAttrAll.ValueError
import OpenK.KOwn
import PyProof.RulesAs
import PyProof.AutoRange
import PyProof.SeqRoads2
import PyProof.ZipIter
import PyProof.StrCalls2
import KE.KDictSum
import PyProof.SumAny
import KE.KRevIter
import PyProof.Rows.FStr
import PyProof.Rows.FStrParts
import KE.KRevSl
import PyProof.Rows.SetFrom
import PyProof.AttrMissHeap
import KE.KDictOf
import Lean
import PySem.Challenge.RW_rookborders_k61_sums_parted
set_option bootstrap.genMatcherCode false
set_option Elab.async false
set_option linter.all false
set_option maxRecDepth 100000
set_option maxHeartbeats 1000000
namespace L2
open PySem
abbrev Pb:=SetTable.Probe
def Fd(mask:Nat)(p:Pb):Pb:=
 if p.more>0 then {p with j:=p.j+1,more:=p.more-1} else
 {p with j:=(SetTable.leap mask p.i p.perturb).1,more:=SetTable.runEnd mask (SetTable.leap mask p.i p.perturb).1- (SetTable.leap mask p.i p.perturb).1,i:=(SetTable.leap mask p.i p.perturb).1,perturb:=(SetTable.leap mask p.i p.perturb).2}
def CK(mask i perturb:Nat)(d:Option Nat):Pb:={j:=i,more:=SetTable.runEnd mask i-i,i:=i,perturb:=perturb,dummy:=d}
def CZ(mask:Nat):Nat->Pb->Pb
 |0,p=>p
 |n+1,p=>CZ mask n (Fd mask p)
def Fb(mask:Nat)(h:Int)(d:Option Nat):Pb:=CK mask (SetTable.bits h % (mask+1)) (SetTable.bits h) d
def Jx(mask:Nat)(h:Int)(m:Nat):Nat:=(CZ mask m (Fb mask h none)).j
def EQ(xs:Array Nat):Prop:=xs.toList.Pairwise (·< ·)
structure TOk(t:SetTable)(hs:List Int):Prop where
 pw: ∃k,3<=k/\k<=12/\t.mask+1=2^k
 sz:t.place.size=hs.length
 sp:EQ t.place
 sd:EQ t.dummies
 lp: ∀j∈t.place.toList,j<=t.mask
 ld: ∀j∈t.dummies.toList,j<=t.mask
 dj: ∀j∈t.dummies.toList,j∉t.place.toList
 fl:t.fill<=t.mask
 rc: ∀x∈hs.zip t.place.toList,∃m,Jx t.mask x.1 m=x.2/\ ∀m',m'<m->Jx t.mask x.1 m'∈t.place.toList\/Jx t.mask x.1 m'∈t.dummies.toList
open PySem PySem.Spec PyProof.Rows
def th(ks:List Int):Int:=reduceHash (Builtin.Tuple.tupleHashOf (ks.map hashInt))
def Ff(x:List Int×Addr):Int×Value:=(th x.1,.ref x.2)
abbrev Ey:=List (List Int×Addr)
def Fg(xs:Ey):List Int:=xs.map λx=>th x.1
structure SetAt(w:World)(o:Obj)(es:Array (Int×Value))(ep:Nat)(t:SetTable)(xs:Ey):Prop where
 ex:o.ExactSet
 hd:o.data=.set es ep t
 he:es.toList=xs.map Ff
 T:TOk t (Fg xs)
 led:t.led= !w.params.followText "set-order"
 pl:t.plain=true
 nd:(xs.map (·.1)).Nodup
structure SetOk(w:World)(o:Obj)(es:Array (Int×Value))(ep:Nat)(t:SetTable)(xs:Ey):Prop extends SetAt w o es ep t xs where
 f5:t.fill*5<t.mask*3
abbrev ba:=Sum Int Str
def lY:ba->Value->Bool
 | .inl k,v=>Value.isInt k v
 | .inr x,v=>Value.isStrOf x v
def EE(w:World):ba->Int
 | .inl k=>hashInt k
 | .inr x=>hashStr w x
theorem bA: ∀ {k:ba} {v:Value},lY k v=true->(∃i t,k=Sum.inl i/\v=Value.int i t)\/(∃x t,k=Sum.inr x/\v=Value.str x t)
 | .inl i,v,h=>by
   obtain⟨t,e⟩:=Value.isInt_shape (k:=i) (v:=v) h;exact .inl ⟨i,t,rfl,e⟩
 | .inr x,v,h=>by
   obtain⟨t,e⟩:=Value.isStrOf_shape (x:=x) (v:=v) h;exact .inr ⟨x,t,rfl,e⟩
theorem vg(i:Int)(t:Tok):lY (.inl i) (.int i t)=true:=by simp[lY,Value.isInt]
theorem vk(x:Str)(t:Tok):lY (.inr x) (.str x t)=true:=by simp[lY,Value.isStrOf]
theorem BO(a b:Int):decide ((Sum.inl a:ba)=Sum.inl b)=(a==b):=by
 by_cases e:a=b
 ·subst e;simp
 ·have h: ¬(Sum.inl a:ba)=Sum.inl b:=λq=>e (Sum.inl.inj q)
  rw[decide_eq_false h];exact(beq_eq_false_iff_ne.mpr e).symm
theorem BS(a b:Str):decide ((Sum.inr a:ba)=Sum.inr b)=decide (a=b):=by
 by_cases e:a=b
 ·subst e;simp
 ·have h: ¬(Sum.inr a:ba)=Sum.inr b:=λq=>e (Sum.inr.inj q)
  rw[decide_eq_false h,decide_eq_false e]
theorem By(a:Int)(b:Str):decide ((Sum.inl a:ba)=Sum.inr b)=false:=decide_eq_false (λq=>nomatch q)
theorem BE(a:Str)(b:Int):decide ((Sum.inr a:ba)=Sum.inl b)=false:=decide_eq_false (λq=>nomatch q)
def aY(prog:Program)(w:World):PySem.KeyKind prog w ba where
 is:=lY
 hash:=EE w
 inj:=λv a b ha hb=>by
  rcases bA ha with⟨i,t,rfl,rfl⟩|⟨x,t,rfl,rfl⟩
  ·rcases bA hb with⟨j,u,rfl,e⟩|⟨y,u,rfl,e⟩
   ·injection e with e1 _;rw[e1]
   ·exact nomatch e
  ·rcases bA hb with⟨j,u,rfl,e⟩|⟨y,u,rfl,e⟩
   ·exact nomatch e
   ·injection e with e1 _;rw[e1]
 byValue:=λk v h=>by
  rcases bA h with⟨i,t,rfl,rfl⟩|⟨x,t,rfl,rfl⟩<;>rfl
 pyHash:=λhv h=>by
  rcases bA hv with⟨i,t,rfl,rfl⟩|⟨x,t,rfl,rfl⟩
  ·exact wpAny_pyHash_int h
  ·exact wpAny_pyHash_str h
 eqBool:=λhu hv h=>by
  rcases bA hu with⟨i,t,rfl,rfl⟩|⟨x,t,rfl,rfl⟩
  ·rcases bA hv with⟨j,u,rfl,rfl⟩|⟨y,u,rfl,rfl⟩
   ·rw[BO] at h;exact wpAny_eqBool_int h
   ·rw[By] at h;exact SeqAt.EqAt.int_str i t y u _ _ _ _ h
  ·rcases bA hv with⟨j,u,rfl,rfl⟩|⟨y,u,rfl,rfl⟩
   ·rw[BE] at h;exact SeqAt.EqAt.str_int x t j u _ _ _ _ h
   ·rw[BS] at h;exact wpAny_eqBool_str h
 «strs»:=λk x t v h=>by
  rcases bA h with⟨i,u,rfl,e⟩|⟨y,u,rfl,e⟩
  ·exact nomatch e
  ·injection e with e1 _
   subst e1;cases v<;>rfl
theorem rP(prog:Program)(w:World)(k:ba)(v:Value):(aY prog w).is k v=lY k v:=rfl
theorem pM(prog:Program)(w:World)(i:Int)(t:Tok):(aY prog w).is (.inl i) (.int i t)=true:=vg i t
theorem qM(prog:Program)(w:World)(x:Str)(t:Tok):(aY prog w).is (.inr x) (.str x t)=true:=vk x t
inductive V where
 |non|bl (b:Bool)|int (i:Int)|str (x:Str)|byt (b:Array UInt8)|flt (b:UInt64)|ref (a:Addr)|ty (n:String)
 deriving DecidableEq
def RelV:V->Value->Prop
 | .non,u=>u=Value.none
 | .bl b,u=>u=Value.bool b
 | .int i,u=> ∃t,u=Value.int i t
 | .str x,u=> ∃t,u=Value.str x t
 | .byt b,u=> ∃t,u=Value.bytes b t
 | .flt b,u=> ∃t,u=Value.float b t
 | .ref a,u=>u=Value.ref a
 | .ty n,u=>u=Value.type n
abbrev Vals:List V->List Value->Prop:=Paired RelV
theorem Vals.length {xs:List V}{us:List Value}(r:Vals xs us):xs.length=us.length:=Paired.length r
theorem Vals.get: ∀ {xs:List V} {us:List Value} {i:Nat} {x:V},Vals xs us->xs[i]? =some x-> ∃u,us[i]? =some u/\RelV x u
 |_,_,_,_,.nil,e=>by simp at e
 |_,_,0,_,.cons r _,e=>by simp at e;subst e;exact⟨_,rfl,r⟩
 |_,_,i+1,x,.cons _ t,e=>by
  obtain⟨u,h1,h2⟩:=Vals.get (i:=i) (x:=x) t (by simpa using e);exact⟨u,by simpa using h1,h2⟩
theorem Vals.set {x:V}{u:Value}(r:RelV x u): ∀ {xs:List V} {us:List Value} (i:Nat),Vals xs us->Vals (xs.set i x) (us.set i u)
 |_,_,_,.nil=>.nil
 |_,_,0,.cons _ t=>.cons r t
 |_,_,i+1,.cons q t=>.cons q (Vals.set r i t)
theorem Vals.append: ∀ {xs ys:List V} {us ws:List Value},Vals xs us->Vals ys ws->Vals (xs++ys) (us++ws)
 |_,_,_,_,.nil,s=>s
 |_,_,_,_,.cons r t,s=>.cons r (Vals.append t s)
theorem Vals.take: ∀ {xs:List V} {us:List Value} (n:Nat),Vals xs us->Vals (xs.take n) (us.take n)
 |_,_,0,_=>.nil
 |_,_,_+1,.nil=>.nil
 |_,_,n+1,.cons r t=>.cons r (Vals.take n t)
theorem Vals.drop: ∀ {xs:List V} {us:List Value} (n:Nat),Vals xs us->Vals (xs.drop n) (us.drop n)
 |_,_,0,r=>r
 |_,_,_+1,.nil=>.nil
 |_,_,n+1,.cons _ t=>Vals.drop n t
def RelO:Option V->Option Value->Prop
 |some v,some u=>RelV v u
 |none,none=>True
 |_,_=>False
def KV {κ:Type}:List (κ×V)->List (κ×Value)->Prop:=Paired λ(p:κ×V) (q:κ×Value)=>p.1=q.1/\RelV p.2 q.2
def kV:ba->V
 | .inl i=>.int i
 | .inr x=>.str x
inductive HO where
 |lst (xs:List V)
 |tup (xs:List V)
 |dK (kvs:List (ba×V))|dT (kvs:List (List ba×V))
 |set (S:Int->Bool) (n:Nat)
 |tst (xs:List (List Int×Addr))
 |ins (C dx:Addr) (fs:List (Str×V))
 |own (x:Addr)
 |xd (fs:List (Str×V))
 |met (f x:Addr)
 |rng (lo hi:Int)
 |frz (o:Obj) (u:HO)
 |nst (p:Addr) (u:HO)
 |tbl (ps:Array Value)
 |ext (φ:Heap->Prop)
abbrev Hp:=Addr->Option HO
def cb(H:Hp)(a:Addr)(o:HO):Hp:=λb=>if b=a then some o else H b
theorem aN {H:Hp}{a:Addr}{o:HO}:cb H a o a=some o:=by unfold cb;rw[if_pos rfl]
theorem aH {H:Hp}{a b:Addr}{o:HO}(h:b≠a):cb H a o b=H b:=by unfold cb;rw[if_neg h]
theorem CG {H:Hp}{a b:Addr}{o u:HO}(h:H a=some o)(h':H b=some u)(d:o≠u):a≠b:=by
 intro e;subst e;rw[h] at h';exact d (Option.some.inj h')
theorem bo {H:Hp}{a b:Addr}{o:HO}(h:H a=some o)(h':H b=none):a≠b:=by
 intro e;subst e;rw[h] at h';cases h'
section
variable(P:Program)(w:World)
def ObjOk(H:Hp)(h:Heap)(a:Addr):HO->Prop
 | .lst xs=>xs.length<=sizeLine/\ ∃(its:List Value) (n:Nat),Vals xs its/\h.get? a=some {cls:=.type "list",data:=.seq its.toArray n}
 | .tup xs=>xs.length<=sizeLine/\ ∃its:List Value,Vals xs its/\IsTup h a its.toArray/\ ∃o,h.get? a=some o/\o.dict=none
 | .dK kvs=>kvs.length<=sizeLine/\(a==sysModules)=false/\ ∃vs,KV kvs vs/\h.DictOf (aY P w) a vs
 | .dT kvs=>kvs.length<=sizeLine/\(a==sysModules)=false/\ ∃xs:List (List ba×Addr×Value),
    Paired (λ(p:List ba×V) (q:List ba×Addr×Value)=>p.1=q.1/\H q.2.1=some (.tup (p.1.map kV))/\RelV p.2 q.2.2) kvs xs/\
    ∃o es ep,h.get? a=some o/\o.ExactDict/\o.data=.dict es ep/\es.toList=xs.map (entryOfKey (tupleKind (aY P w)))/\(xs.map (·.1)).Nodup
 | .set S n=>h.SetOf (intKind P w) a S n
 | .tst xs=> ∃o es ep t,h.get? a=some o/\SetOk w o es ep t xs
 | .ins C dx fs=>H dx=some (.own a)/\fs.length<=1000/\dx≠a/\h.get? a=some (W.instObj C dx)/\
    ∃mA,h.Ns1 dx mA/\(∀f,RelO (fs.lookup f) (mA f))/\PySem.Within mA (fs.map (·.1))
 | .own _=> ∃o,h.get? a=some o
 | .xd fs=> ∃mA,h.Ns1 a mA/\ ∀f,RelO (fs.lookup f) (mA f)
 | .rng lo hi=> ∃t u v,h.get? a=some {cls:=.type "range",data:=.fields #[.int lo t,.int hi u,.int 1 v]}
 | .frz o u=>h.get? a=some o/\ObjOk H h a u
 | .nst _ u=>ObjOk H h a u
 | .tbl ps=>h.get? a=some {cls:=.none,data:=.fields ps}
 | .met f x=>h.get? a=some (W.methodObj (.ref f) (.ref x))
 | .ext φ=>φ h/\(∃o,h.get? a=some o)/\ ∀h1 h2:Heap,φ h1->(∀o,h1.get? a=some o->h2.get? a=some o)->φ h2
def HOk(H:Hp)(h:Heap):Prop:= ∀a o,H a=some o->ObjOk P w H h a o
end
section
variable {P:Program}{w:World}{H H':Hp}{h h':Heap}{a:Addr}{o:HO}
theorem ObjOk.lt(x:ObjOk P w H h a o):a<h.objs.size:=by
 induction o with
 |lst xs=>obtain⟨_,_,_,_,e⟩:=x;exact Heap.lt_size e
 |tup xs=>obtain⟨_,_,_,p,_⟩:=x;exact p.lt
 |dK kvs=>obtain⟨_,_,_,_,o,_,_,e,_⟩:=x;exact Heap.lt_size e
 |dT kvs=>obtain⟨_,_,_,_,o,_,_,e,_⟩:=x;exact Heap.lt_size e
 |set S n=>obtain⟨o,_,_,_,e,_⟩:=x;exact Heap.lt_size e
 |tst xs=>obtain⟨o,_,_,_,e,_⟩:=x;exact Heap.lt_size e
 |ins C dx fs=>obtain⟨_,_,_,e,_⟩:=x;exact Heap.lt_size e
 |own y=>obtain⟨_,e⟩:=x;exact Heap.lt_size e
 |xd fs=>obtain⟨_,⟨_,_,_,e,_⟩,_⟩:=x;exact Heap.lt_size e
 |rng lo hi=>obtain⟨_,_,_,e⟩:=x;exact Heap.lt_size e
 |frz ob u ih=>obtain⟨e,_⟩:=x;exact Heap.lt_size e
 |nst p u ih=>exact ih x
 |tbl ps=>exact Heap.lt_size (show h.get? a=some _ from x)
 |met f y=>exact Heap.lt_size (show h.get? a=some _ from x)
 |ext φ=>obtain⟨_,⟨_,e⟩,_⟩:=x;exact Heap.lt_size e
theorem Paired.mapP {α β:Type}{F G:α->β->Prop}: ∀ {l₁:List α} {l₂:List β},Paired F l₁ l₂->(∀a b,F a b->G a b)->Paired G l₁ l₂
 |_,_,.nil,_=>.nil
 |_,_,.cons r t,f=>.cons (f _ _ r) (Paired.mapP t f)
theorem ObjOk.stay(x:ObjOk P w H h a o)(k: ∀b u,(b=a\/H b=some (.own a))->h.get? b=some u->h'.get? b=some u)
 (ho: ∀b,H b=some (.own a)->H' b=some (.own a)) (ht: ∀b xs,H b=some (.tup xs)->H' b=some (.tup xs)):ObjOk P w H' h' a o:=by
 induction o with
 |lst xs=>obtain⟨z,its,n,r,e⟩:=x;exact⟨z,its,n,r,k _ _ (.inl rfl) e⟩
 |tup xs=>obtain⟨z,its,r,⟨ob,e,c⟩,ob2,e2,c2⟩:=x;exact⟨z,its,r,⟨ob,k _ _ (.inl rfl) e,c⟩,ob2,k _ _ (.inl rfl) e2,c2⟩
 |dK kvs=>obtain⟨z,y,vs,r,ob,es,ep,e,c⟩:=x;exact⟨z,y,vs,r,ob,es,ep,k _ _ (.inl rfl) e,c⟩
 |dT kvs=>
  obtain⟨z,y,xs,r,ob,es,ep,e,c⟩:=x;exact⟨z,y,xs,Paired.mapP r λp q z=>⟨z.1,ht _ _ z.2.1,z.2.2⟩,ob,es,ep,k _ _ (.inl rfl) e,c⟩
 |set S n=>obtain⟨ob,es,ep,t,e,c⟩:=x;exact⟨ob,es,ep,t,k _ _ (.inl rfl) e,c⟩
 |tst xs=>obtain⟨ob,es,ep,t,e,c⟩:=x;exact⟨ob,es,ep,t,k _ _ (.inl rfl) e,c⟩
 |ins C dx fs=>
  obtain⟨d,z,ne,e,mA,⟨od,es,ep,e2,c⟩,r⟩:=x;exact⟨ho _ d,z,ne,k _ _ (.inl rfl) e,mA,⟨od,es,ep,k _ _ (.inr d) e2,c⟩,r⟩
 |own y=>obtain⟨ob,e⟩:=x;exact⟨ob,k _ _ (.inl rfl) e⟩
 |xd fs=>obtain⟨mA,⟨od,es,ep,e,c⟩,r⟩:=x;exact⟨mA,⟨od,es,ep,k _ _ (.inl rfl) e,c⟩,r⟩
 |rng lo hi=>obtain⟨t,u,v,e⟩:=x;exact⟨t,u,v,k _ _ (.inl rfl) e⟩
 |frz ob u ih=>obtain⟨e,q⟩:=x;exact⟨k _ _ (.inl rfl) e,ih q⟩
 |nst p u ih=>exact ih x
 |tbl ps=>
  have e:h.get? a=some {cls:=.none,data:=.fields ps}:=x;show h'.get? a=some {cls:=.none,data:=.fields ps};exact k a _ (.inl rfl) e
 |met f y=>
  have e:h.get? a=some (W.methodObj (.ref f) (.ref y)):=x;show h'.get? a=some (W.methodObj (.ref f) (.ref y));exact k a _ (.inl rfl) e
 |ext φ=>obtain⟨p,⟨o,e⟩,st⟩:=x;exact⟨st _ _ p λo q=>k _ _ (.inl rfl) q,⟨o,k _ _ (.inl rfl) e⟩,st⟩
theorem HOk.lt(x:HOk P w H h)(e:H a=some o):a<h.objs.size:=(x a o e).lt
theorem HOk.fresh(x:HOk P w H h)(e:h.objs.size<=a):H a=none:=by
 cases q:H a with
 |none=>rfl
 |some u=>exact absurd (Nat.lt_of_lt_of_le (x.lt q) e) (Nat.lt_irrefl _)
theorem HOk.kept(x:HOk P w H h)(k: ∀b u,h.get? b=some u->h'.get? b=some u):HOk P w H h':=λa o e=>
 (x a o e).stay (λb u _ q=>k b u q) (λ_ q=>q) λ_ _ q=>q
theorem HOk.laid(x:HOk P w H h)(k: ∀b u,h.get? b=some u->h'.get? b=some u)(hp:h.objs.size<=a)(new:ObjOk P w (cb H a o) h' a o):HOk P w (cb H a o) h':=λb u e=>by
 have hn:=x.fresh hp
 by_cases hb:b=a
 ·subst hb;rw[aN] at e;cases e;exact new
 ·rw[aH hb] at e;exact(x b u e).stay (λc v _ q=>k c v q) (λc q=>by rw[aH (bo q hn)];exact q) λc xs q=>by rw[aH (bo q hn)];exact q
end
def Rd(H:Hp)(a:Addr)(u:HO):Prop:=H a=some u\/ ∃o,H a=some (.frz o u)
theorem Rd.ok {P:Program}{w:World}{H:Hp}{h:Heap}{a:Addr}{u:HO}(r:Rd H a u)(x:HOk P w H h):ObjOk P w H h a u:=by
 rcases r with r|⟨o,r⟩
 ·exact x a u r
 ·obtain⟨_,q⟩:=x a _ r;exact q
def Dq:Option HO->Prop
 |some (.lst _)=>True
 |some (.dK _)=>True
 |some (.dT _)=>True
 |some (.set _ _)=>True
 |some (.tst _)=>True
 |some (.ins _ _ _)=>True
 |some (.ext _)=>True
 |some (.nst _ _)=>True
 |_=>False
section
variable {P:Program}{w:World}{H:Hp}{h h':Heap}{x e:Addr}{o':HO}
theorem HOk.write(ok:HOk P w H h)(mu:Dq (H x))(he:e=x\/H e=some (.own x))(k: ∀b u,b≠e->h.get? b=some u->h'.get? b=some u)(heo: ∃u,h'.get? e=some u)
 (new:ObjOk P w (cb H x o') h' x o'):HOk P w (cb H x o') h':=λb u q=>by
 have nown: ∀c y,H c=some (.own y)->c≠x:=λc y r z=>by subst z;rw[r] at mu;exact mu
 have ntup: ∀c xs,H c=some (.tup xs)->c≠x:=λc xs r z=>by subst z;rw[r] at mu;exact mu
 by_cases hb:b=x
 ·subst hb;rw[aN] at q;cases q;exact new
 ·rw[aH hb] at q
  by_cases hbe:b=e
  ·have q':H b=some (.own x):=by
    rcases he with z|z
    ·exact absurd (hbe.trans z) hb
    ·rw[hbe];exact z
   rw[q] at q';cases q';obtain⟨v,hv⟩:=heo;exact⟨v,by rw[hbe];exact hv⟩
  ·refine(ok b u q).stay (λc v hc r=>k c v ?_ r) (λc r=>by rw[aH (nown c b r)];exact r) λc xs r=>by rw[aH (ntup c xs r)];exact r
   rcases hc with rfl|hc
   ·exact hbe
   ·rintro rfl;rcases he with z|z
    ·exact nown c b hc z
    ·rw[hc] at z;cases z;exact hb rfl
end
structure Un(fs ex:List Addr)(H H':Hp)(h h':Heap):Prop where
 keep: ∀b o,h.get? b=some o->H b=none->b∉fs->b∉ex->h'.get? b=some o
 slot: ∀b o,h.get? b=some o->H b=none->b∈fs->b∉ex-> ∃sl,h'.get? b=some {o with slots:=sl}
 free: ∀b o,h.get? b=some o->H b=none->b∉ex->H' b=none
 there: ∀b o,h.get? b=some o->b∉ex-> ∃o',h'.get? b=some o'
 tups: ∀b xs,H b=some (.tup xs)->H' b=some (.tup xs)
 frzs: ∀b o u,H b=some (.frz o u)->H' b=some (.frz o u)
 tbls: ∀b ps,H b=some (.tbl ps)-> ∃more,H' b=some (.tbl (ps++more))
section
variable {fs fs' ex ex':List Addr}{H H1 H2:Hp}{h h1 h2 h':Heap}{a x e:Addr}{o:HO}
theorem Un.any(u:Un fs ex H H1 h h1){b:Addr}{ob:Obj}(q:h.get? b=some ob)(n:H b=none)(hx:b∉ex): ∃sl,h1.get? b=some {ob with slots:=sl}:=by
 by_cases hb:b∈fs
 ·exact u.slot b ob q n hb hx
 ·exact⟨ob.slots,u.keep b ob q n hb hx⟩
theorem Un.trans(a:Un fs ex H H1 h h1)(b:Un fs ex H1 H2 h1 h2):Un fs ex H H2 h h2 where
 keep:=λc ob q n hc hx=>b.keep c ob (a.keep c ob q n hc hx) (a.free c ob q n hx) hc hx
 slot:=λc ob q n hc hx=>by
  obtain⟨sl,e1⟩:=a.slot c ob q n hc hx;obtain⟨sl',e2⟩:=b.slot c _ e1 (a.free c ob q n hx) hc hx;exact⟨sl',e2⟩
 free:=λc ob q n hx=>by
  obtain⟨o',e1⟩:=a.there c ob q hx;exact b.free c o' e1 (a.free c ob q n hx) hx
 there:=λc ob q hx=>by
  obtain⟨o',e1⟩:=a.there c ob q hx;exact b.there c o' e1 hx
 tups:=λc xs q=>b.tups c xs (a.tups c xs q)
 frzs:=λc ob xs q=>b.frzs c ob xs (a.frzs c ob xs q)
 tbls:=λc ps q=>by
  obtain⟨m1,e1⟩:=a.tbls c ps q;obtain⟨m2,e2⟩:=b.tbls c _ e1;exact⟨m1++m2,by rw[e2,Array.append_assoc]⟩
theorem Un.kept(k: ∀b u,h.get? b=some u->h'.get? b=some u):Un fs ex H H h h':=
 ⟨λb ob q _ _ _=>k b ob q,λb ob q _ _ _=>⟨ob.slots,k b ob q⟩,λ_ _ _ n _=>n,λb ob q _=>⟨ob,k b ob q⟩,λ_ _ q=>q,λ_ _ _ q=>q,λ_ ps q=>⟨#[],by rw[q];simp⟩⟩
theorem Un.refl:Un fs ex H H h h:=Un.kept λ_ _ q=>q
theorem Un.laid(k: ∀b u,h.get? b=some u->h'.get? b=some u)(hp:h.objs.size<=a)(hn:H a=none):Un fs ex H (cb H a o) h h' where
 keep:=λb u q _ _ _=>k b u q
 slot:=λb u q _ _ _=>⟨u.slots,k b u q⟩
 free:=λb u q n _=>by rw[aH (Nat.ne_of_lt (Nat.lt_of_lt_of_le (Heap.lt_size q) hp))];exact n
 there:=λb u q _=>⟨u,k b u q⟩
 tups:=λb xs q=>by rw[aH (bo q hn)];exact q
 frzs:=λb u xs q=>by rw[aH (bo q hn)];exact q
 tbls:=λb ps q=>⟨#[],by rw[aH (bo q hn),q];simp⟩
theorem Un.write(mu:Dq (H x))(he:e=x\/H e=some (.own x))(k: ∀b u,b≠e->h.get? b=some u->h'.get? b=some u)(heo: ∃u,h'.get? e=some u):Un fs ex H (cb H x o) h h':=by
 have hx: ∀b,H b=none->b≠x:=λb n z=>by subst z;rw[n] at mu;exact mu
 have hb: ∀b,H b=none->b≠e:=λb n z=>by
  subst z;rcases he with r|r
  ·exact hx b n r
  ·rw[n] at r;cases r
 have hm: ∀b u,H b=some u-> ¬Dq (some u)->b≠x:=λb u q nm z=>by subst z;rw[q] at mu;exact nm mu
 refine⟨λb u q n _ _=>k b u (hb b n) q,λb u q n _ _=>⟨u.slots,k b u (hb b n) q⟩,λb u q n _=>by rw[aH (hx b n)];exact n,λb u q _=>?_,
  λb xs q=>by rw[aH (hm b _ q λz=>z)];exact q,λb u xs q=>by rw[aH (hm b _ q λz=>z)];exact q,λb ps q=>⟨#[],by rw[aH (hm b _ q λz=>z),q];simp⟩⟩
 by_cases hbe:b=e
 ·subst hbe;exact heo
 ·exact⟨u,k b u hbe q⟩
end
def trk(h:Heap)(H:Hp):List Addr:=(List.range h.objs.size).filter λa=>(H a).isSome
def pF(h:Heap)(H:Hp):Heap:=W.hideAll h (trk h H)
theorem uS(h:Heap)(H:Hp):(pF h H).objs.size=h.objs.size:=W.hideAll_size _ _
theorem yq {h:Heap}{H:Hp}{b:Addr}{o:Obj}(e:h.get? b=some o)(n:H b=none):(pF h H).get? b=some o:=
 W.hideAll_get _ e λhm=>by
  have q:(H b).isSome=true:=(List.mem_filter.mp hm).2;rw[n] at q;simp at q
theorem Am {h:Heap}{H:Hp}{b:Addr}{o:Obj}(e:(pF h H).get? b=some o):h.get? b=some o/\H b=none:=by
 have e':h.get? b=some o:=W.of_hideAll (trk h H) e;refine⟨e',?_⟩;cases q:H b with
 |none=>rfl
 |some x=>
  have hm:b∈trk h H:=List.mem_filter.mpr ⟨List.mem_range.mpr (Heap.lt_size e'),by simp[q]⟩;have z:(pF h H).get? b=none:=W.hideAll_none (trk h H) hm;rw[z] at e;cases e
structure Mod(K:W.Frag)(mg:Str->Option Value)(base:Heap):Prop where
 kin:K.In base
 glob:base.Ns mainGlobals mg
 blt: ∃mb,base.Ns builtinsNs mb/\ ∀x:Str,x≠"__name__"->mb x=bootBuiltins x
 nolimit:base.NoLimit
structure Cx where
 prog:Program
 w:World
 K:W.Frag
 mg:Str->Option Value
 base:Heap
 A:Around
 N:List Str
 s₀:Shared
 H₀:Hp
 env:Env
 outer:List Env
 stack:List Env
 ex:List Addr
 fn:Str->Bool
 calm:Bool
 pn:List (Addr×Obj)
 xe:Value->Shared->Prop
def frs(l:List Env):List Addr:=l.filterMap (·.frame)
abbrev Cx.fs(X:Cx):List Addr:=frs X.outer
def nB(sc:Scope)(x:Str):Prop:=sc.names.lookup x=some .local\/sc.names.lookup x=some .cell\/sc.names.lookup x=some .free
def xI(sc:Scope)(x:Str):Prop:=sc.names.lookup x=some .local\/sc.names.lookup x=some .cell
def DQ(env:Env)(h:Heap)(m:Str->Option Value)(x:Str)(u:Value):Prop:=
 (env.kindOf x=some .local/\m x=some u)\/((env.kindOf x=some .cell\/env.kindOf x=some .free)/\ ∃c,env.cells.lookup x=some c/\h.IsCell c (some u))
structure Cx.Ok(X:Cx):Prop where
 mod:Mod X.K X.mg X.base
 kind:X.env.scope.kind=.function
 glob:X.env.globals=mainGlobals
 blt:X.env.builtins=builtinsNs
 above:X.s₀.heap.objs.size<=X.env.locals
 inj: ∀x y c,X.env.cells.lookup x=some c->X.env.cells.lookup y=some c->x=y
 has: ∀x,(X.env.kindOf x=some .cell\/X.env.kindOf x=some .free)-> ∃c,X.env.cells.lookup x=some c
 cab: ∀x c,X.fn x=true->X.env.cells.lookup x=some c->X.s₀.heap.objs.size<=c
 hd:X.calm=true->X.A.handled=none
 frames:X.A.frames=some X.stack
 stk:X.stack=X.outer\/(X.stack=X.env::X.outer/\X.env.frame=some X.env.locals)
 exf: ∀b∈X.ex,b≠X.env.locals/\ ∀x c,X.env.cells.lookup x=some c->c≠b
 bs: ∀b o,X.base.get? b=some o->X.s₀.heap.get? b=some o/\X.H₀ b=none
 bsz:X.base.objs.size<=X.s₀.heap.objs.size
 noex: ∀b o,X.base.get? b=some o->b∉X.ex
 exfs: ∀b∈X.ex,b∉X.fs
 funs:X.s₀.heap.FunFrames X.base X.outer
 frf: ∀b∈X.fs,X.H₀ b=none
structure Inv(X:Cx)(aa:List (Addr×Obj))(σ:List (Option V))(H:Hp)(s:Shared):Prop where
 ok:X.Ok
 os:s.os=X.s₀.os
 bare:AllBare s.gens
 base:Un X.fs X.ex X.H₀ H X.s₀.heap s.heap
 loc: ∃m,s.heap.Ns X.env.locals m/\ ∀(i:Nat) (x:Str) (v:V),X.N[i]? =some x->σ[i]? =some (some v)->nB X.env.scope x-> ∃u,RelV v u/\DQ X.env s.heap m x u
 cell: ∀x c,X.env.cells.lookup x=some c-> ∃v,s.heap.IsCell c v
 free:H X.env.locals=none
 freeC: ∀x c,X.env.cells.lookup x=some c->H c=none
 pin: ∀p∈X.pn++aa,s.heap.get? p.1=some p.2/\H p.1=none/\p.1≠X.env.locals/\p.1∉X.fs/\ ∀v,p.2.data≠ .cell v
 hok:HOk X.prog X.w H s.heap
 len:σ.length=X.N.length
section
variable {X:Cx}{aa:List (Addr×Obj)}{σ:List (Option V)}{H H':Hp}{s:Shared}{h':Heap}
theorem Cx.Ok.nofr(ok:X.Ok){b:Addr}{o:Obj}(e:X.base.get? b=some o):b∉X.fs:=λhb=>by
 have:=(ok.funs.mem hb).1;rw[e] at this;cases this
theorem Inv.bs(I:Inv X aa σ H s): ∀b o,X.base.get? b=some o->s.heap.get? b=some o/\H b=none:=λb o e=>
 ⟨I.base.keep b o (I.ok.bs b o e).1 (I.ok.bs b o e).2 (I.ok.nofr e) (I.ok.noex b o e),I.base.free b o (I.ok.bs b o e).1 (I.ok.bs b o e).2 (I.ok.noex b o e)⟩
theorem Inv.bk(I:Inv X aa σ H s): ∀b o,X.base.get? b=some o->s.heap.get? b=some o:=λb o e=>(I.bs b o e).1
theorem Inv.mod(I:Inv X aa σ H s):Mod X.K X.mg X.base:=I.ok.mod
theorem Inv.kIn(I:Inv X aa σ H s):X.K.In s.heap:=I.ok.mod.kin.keeps I.bk
theorem Inv.lt(I:Inv X aa σ H s):X.env.locals<s.heap.objs.size:=let⟨_,hn,_⟩:=I.loc;hn.lt
theorem Inv.sz(I:Inv X aa σ H s):X.s₀.heap.objs.size<=s.heap.objs.size:=Nat.le_trans I.ok.above (Nat.le_of_lt I.lt)
theorem Inv.nofs(I:Inv X aa σ H s){a:Addr}(h:s.heap.objs.size<=a):a∉X.fs:=λhb=>by
 obtain⟨_,o,ho,_⟩:=I.ok.funs.mem hb;exact absurd (Nat.lt_of_lt_of_le (Heap.lt_size ho) (Nat.le_trans I.sz h)) (Nat.lt_irrefl _)
theorem Inv.cne(I:Inv X aa σ H s): ∀x c,X.env.cells.lookup x=some c->c≠X.env.locals:=λx c e z=>by
 obtain⟨v,o,ho,hd⟩:=I.cell x c e;obtain⟨m,⟨o',es,ep,ho',hd',_⟩,_⟩:=I.loc;rw[z,ho'] at ho;cases ho;rw[hd'] at hd;cases hd
theorem Inv.funs(I:Inv X aa σ H s):s.heap.FunFrames X.base X.outer:=by
 have all: ∀(l:List Env),(∀b∈frs l,b∈X.fs)->X.s₀.heap.FunFrames X.base l->s.heap.FunFrames X.base l:=by
  intro l
  induction l with
  |nil=>intro _ _;trivial
  |cons env r ih=>
   intro hs hl;obtain⟨hk,⟨L,o,hf,hn,ho,hd⟩,hr⟩:=hl;have hL:L∈X.fs:=hs L (by unfold frs;rw[List.filterMap_cons,hf];exact List.mem_cons_self);obtain⟨sl,e⟩:=I.base.slot L o ho (I.ok.frf L hL) hL λz=>I.ok.exfs L z hL
   exact⟨hk,⟨L,_,hf,hn,e,hd⟩,ih (λb hb=>hs b (by unfold frs;rw[List.filterMap_cons,hf];exact List.mem_cons_of_mem _ hb)) hr⟩
 exact all X.outer (λ_ hb=>hb) I.ok.funs
theorem Inv.stack(I:Inv X aa σ H s):s.heap.FunFrames X.base X.stack:=by
 rcases I.ok.stk with e|⟨e,hf⟩
 ·rw[e];exact I.funs
 ·rw[e];obtain⟨m,hn,_⟩:=I.loc;refine .cons (by rw[I.ok.kind];decide) hf hn ?_ I.funs;exact Heap.get?_none_of_le (Nat.le_trans I.ok.bsz I.ok.above)
theorem Inv.stkSub(I:Inv X aa σ H s): ∀b∈frs X.stack,b∈X.env.locals::X.fs:=λb hb=>by
 rcases I.ok.stk with e|⟨e,hf⟩
 ·rw[e] at hb;exact List.mem_cons_of_mem _ hb
 ·rw[e] at hb;unfold frs at hb;rw[List.filterMap_cons,hf] at hb;exact hb
theorem Inv.stkFree(I:Inv X aa σ H s): ∀b∈frs X.stack,H b=none:=λb hb=>by
 rcases List.mem_cons.mp (I.stkSub b hb) with e|hb
 ·rw[e];exact I.free
 ·obtain⟨_,o,ho,_⟩:=I.ok.funs.mem hb;exact I.base.free b o ho (I.ok.frf b hb) λz=>I.ok.exfs b z hb
theorem Inv.step {g':Array GenState}{t':Nat}{d':Drawn}{ch:List Addr}(I:Inv X aa σ H s)
 (hch: ∀b∈ch,(b∈X.ex\/X.s₀.heap.objs.size<=b)/\b≠X.env.locals/\(∀x c,X.env.cells.lookup x=some c->c≠b)/\ ∀p∈X.pn++aa,p.1≠b)
 (keep: ∀b o,b≠X.env.locals->b∉X.fs->b∉ch->s.heap.get? b=some o->H b=none->h'.get? b=some o)
 (slot: ∀b o,b≠X.env.locals->b∈X.fs->b∉ch->s.heap.get? b=some o->H b=none-> ∃sl,h'.get? b=some {o with slots:=sl}) (free: ∀b o,b∉ch->s.heap.get? b=some o->H b=none->H' b=none)
 (there: ∀b o,b∉ch->s.heap.get? b=some o-> ∃o',h'.get? b=some o')
 (tups: ∀b xs,H b=some (.tup xs)->H' b=some (.tup xs)) (frzs: ∀b o u,H b=some (.frz o u)->H' b=some (.frz o u)) (tbls: ∀b ps,H b=some (.tbl ps)-> ∃more,H' b=some (.tbl (ps++more)))
 (ns: ∀m,s.heap.Ns X.env.locals m->h'.Ns X.env.locals m) (hok:HOk X.prog X.w H' h') (hg:AllBare g'):
 Inv X aa σ H' {s with heap:=h',gens:=g',drawn:=d',toks:=t'}:=by
 have neL: ∀b o,X.s₀.heap.get? b=some o->b≠X.env.locals:=λb o e=>Nat.ne_of_lt (Nat.lt_of_lt_of_le (Heap.lt_size e) I.ok.above)
 have neC: ∀b o,X.s₀.heap.get? b=some o->b∉X.ex->b∉ch:=λb o e hx hb=>by
  rcases(hch b hb).1 with z|z
  ·exact hx z
  ·exact absurd (Nat.lt_of_lt_of_le (Heap.lt_size e) z) (Nat.lt_irrefl _)
 have cellK: ∀x c,X.env.cells.lookup x=some c-> ∀v,s.heap.IsCell c v->h'.IsCell c v:=λx c e v hq_=>by
  obtain⟨o,ho,hd⟩:=hq_;have nch:c∉ch:=λz=>(hch c z).2.2.1 x c e rfl
  by_cases hc:c∈X.fs
  ·obtain⟨sl,q⟩:=slot c o (I.cne x c e) hc nch ho (I.freeC x c e);exact⟨_,q,hd⟩
  ·exact⟨o,keep c o (I.cne x c e) hc nch ho (I.freeC x c e),hd⟩
 refine⟨I.ok,I.os,hg,⟨λb o e n hb hx=>?_,λb o e n hb hx=>?_,λb o e n hx=>?_,λb o e hx=>?_,λb xs e=>tups b xs (I.base.tups b xs e),λb o xs e=>frzs b o xs (I.base.frzs b o xs e),λb ps e=>?_⟩,?_,λx c e=>?_,?_,λx c e=>?_,λp hp=>?_,hok,I.len⟩
 ·exact keep b o (neL b o e) hb (neC b o e hx) (I.base.keep b o e n hb hx) (I.base.free b o e n hx)
 ·obtain⟨sl,e1⟩:=I.base.slot b o e n hb hx;obtain⟨sl',e2⟩:=slot b _ (neL b o e) hb (neC b o e hx) e1 (I.base.free b o e n hx);exact⟨sl',e2⟩
 ·obtain⟨o',e1⟩:=I.base.there b o e hx;exact free b o' (neC b o e hx) e1 (I.base.free b o e n hx)
 ·obtain⟨o',e1⟩:=I.base.there b o e hx;exact there b o' (neC b o e hx) e1
 ·obtain⟨m1,e1⟩:=I.base.tbls b ps e;obtain⟨m2,e2⟩:=tbls b _ e1;exact⟨m1++m2,by rw[e2,Array.append_assoc]⟩
 ·obtain⟨m,hn,hl⟩:=I.loc;refine⟨m,ns m hn,λi x v e1 e2 e3=>?_⟩;obtain⟨u,r,l⟩:=hl i x v e1 e2 e3;refine⟨u,r,?_⟩;rcases l with l|⟨k,c,e,z⟩
  ·exact .inl l
  ·exact .inr ⟨k,c,e,cellK x c e _ z⟩
 ·obtain⟨v,z⟩:=I.cell x c e;exact⟨v,cellK x c e v z⟩
 ·obtain⟨m,⟨o,_,_,ho,_⟩,_⟩:=I.loc;exact free _ o (λz=>(hch _ z).2.1 rfl) ho I.free
 ·obtain⟨v,o,ho,hd⟩:=I.cell x c e;exact free c o (λz=>(hch c z).2.2.1 x c e rfl) ho (I.freeC x c e)
 ·obtain⟨e,n,ne,nf,d⟩:=I.pin p hp;have nch:p.1∉ch:=λz=>(hch p.1 z).2.2.2 p hp rfl
  exact⟨keep p.1 p.2 ne nf nch e n,free p.1 p.2 nch e n,ne,nf,d⟩
theorem Inv.un {t':Nat}(I:Inv X aa σ H s)(u:Un X.fs [] H H' s.heap h')(hok:HOk X.prog X.w H' h'):Inv X aa σ H' {s with heap:=h',toks:=t'}:=by
 obtain⟨m,⟨o,es,ep,ho,r⟩,_⟩:=id I.loc;obtain⟨sl,hL⟩:=u.any ho I.free (by simp)
 exact I.step (g':=s.gens) (d':=s.drawn) (ch:=[]) (λ_ z=>nomatch z) (λb o _ hb _ e n=>u.keep b o e n hb (by simp)) (λb o _ hb _ e n=>u.slot b o e n hb (by simp)) (λb o _ e n=>u.free b o e n (by simp)) (λb o _ e=>u.there b o e (by simp)) u.tups u.frzs u.tbls (λm' hm=>by
  obtain⟨o',es',ep',ho',r'⟩:=hm
  rw[ho] at ho';cases ho';exact⟨_,es',ep',hL,r'⟩) hok I.bare
theorem Inv.call {g':Array GenState}{t':Nat}{d':Drawn}{ch:List Addr}(I:Inv X aa σ H s)(u:Un (frs X.stack) ch H H' s.heap h')(hok:HOk X.prog X.w H' h')(hg:AllBare g')
 (hch: ∀b∈ch,(b∈X.ex\/X.s₀.heap.objs.size<=b)/\b≠X.env.locals/\(∀x c,X.env.cells.lookup x=some c->c≠b)/\ ∀p∈X.pn++aa,p.1≠b):
 Inv X aa σ H' {s with heap:=h',gens:=g',drawn:=d',toks:=t'}:=by
 obtain⟨m,⟨o,es,ep,ho,r⟩,_⟩:=id I.loc;obtain⟨sl,hL⟩:=u.any ho I.free λz=>(hch _ z).2.1 rfl
 exact I.step (ch:=ch) hch (λb o hL hb hc e n=>u.keep b o e n (λz=>(List.mem_cons.mp (I.stkSub b z)).elim hL hb) hc) (λb o _ _ hc e n=>u.any e n hc) (λb o hc e n=>u.free b o e n hc) (λb o hc e=>u.there b o e hc) u.tups u.frzs u.tbls (λm' hm=>by
  obtain⟨o',es',ep',ho',r'⟩:=hm
  rw[ho] at ho';cases ho';exact⟨_,es',ep',hL,r'⟩) hok hg
theorem Inv.turned {t':Nat}{it:Addr}(I:Inv X aa σ H s)(k: ∀b o,b≠it->s.heap.get? b=some o->h'.get? b=some o)(hn:H it=none)(hL:it≠X.env.locals)
 (h1:it∈X.ex\/X.s₀.heap.objs.size<=it) (h2: ∀x c,X.env.cells.lookup x=some c->c≠it) (h3: ∀p∈X.pn++aa,p.1≠it):Inv X aa σ H {s with heap:=h',toks:=t'}:=by
 have nit: ∀b u,H b=some u->b≠it:=λb u e z=>by rw[z,hn] at e;cases e
 refine I.step (g':=s.gens) (d':=s.drawn) (ch:=[it]) (λb hb=>?_) (λb o _ _ hc e _=>k b o (λz=>hc (by simp[z])) e) (λb o _ _ hc e _=>⟨o.slots,k b o (λz=>hc (by simp[z])) e⟩) (λ_ _ _ _ n=>n)
  (λb o hc e=>⟨o,k b o (λz=>hc (by simp[z])) e⟩) (λ_ _ e=>e) (λ_ _ _ e=>e) (λb ps e=>⟨#[],by rw[e];simp⟩) (λm hm=>?_) (λb u e=>?_) I.bare
 ·have e:b=it:=by simpa using hb
  subst e;exact⟨h1,hL,h2,h3⟩
 ·obtain⟨o,es,ep,ho,r⟩:=hm;exact⟨o,es,ep,k _ o (Ne.symm hL) ho,r⟩
 ·refine(I.hok b u e).stay (λc v hc q=>k c v ?_ q) (λ_ q=>q) λ_ _ q=>q
  rcases hc with z|z
  ·rw[z];exact nit b u e
  ·exact nit c _ z
theorem Inv.tok(I:Inv X aa σ H s)(t:Nat):Inv X aa σ H {s with toks:=t}:=I.un (h':=s.heap) (t':=t) Un.refl I.hok
theorem Inv.kept {t':Nat}(I:Inv X aa σ H s)(k: ∀b u,s.heap.get? b=some u->h'.get? b=some u):Inv X aa σ H {s with heap:=h',toks:=t'}:=I.un (Un.kept k) (I.hok.kept k)
theorem Inv.laid {a:Addr}{o:HO}{t':Nat}(I:Inv X aa σ H s)(k: ∀b u,s.heap.get? b=some u->h'.get? b=some u)(hp:s.heap.objs.size<=a)(new:ObjOk X.prog X.w (cb H a o) h' a o):
 Inv X aa σ (cb H a o) {s with heap:=h',toks:=t'}:=I.un (Un.laid k hp (I.hok.fresh hp)) (I.hok.laid k hp new)
theorem Inv.write {x e:Addr}{o:HO}{t':Nat}(I:Inv X aa σ H s)(mu:Dq (H x))(he:e=x\/H e=some (.own x))(k: ∀b u,b≠e->s.heap.get? b=some u->h'.get? b=some u)(heo: ∃u,h'.get? e=some u)
 (new:ObjOk X.prog X.w (cb H x o) h' x o):Inv X aa σ (cb H x o) {s with heap:=h',toks:=t'}:=I.un (Un.write mu he k heo) (I.hok.write mu he k heo new)
theorem Inv.pins_of {pins':List (Addr×Obj)}(I:Inv X aa σ H s)(h: ∀p∈pins',s.heap.get? p.1=some p.2/\H p.1=none/\p.1≠X.env.locals/\p.1∉X.fs/\ ∀v,p.2.data≠ .cell v):Inv X pins' σ H s:=
 ⟨I.ok,I.os,I.bare,I.base,I.loc,I.cell,I.free,I.freeC,λp hp=>(List.mem_append.mp hp).elim (λz=>I.pin p (List.mem_append_left _ z)) (h p),I.hok,I.len⟩
theorem qg {N:List Str}(hN:N.Nodup){i j:Nat}{x:Str}(a:N[i]? =some x)(b:N[j]? =some x):i=j:=by
 obtain⟨h1,e1⟩:=List.getElem?_eq_some_iff.mp a;obtain⟨h2,e2⟩:=List.getElem?_eq_some_iff.mp b;exact(List.getElem_inj hN).mp (e1.trans e2.symm)
theorem nK {M:Model}{A:Around}{E:Value->Shared->Prop}{i:Nat}{x:Str}{v:V}{u:Value}{Q:Unit->Shared->Prop}(I:Inv X aa σ H s)(hN:X.N.Nodup)(hi:X.N[i]? =some x)(hx:xI X.env.scope x)(r:RelV v u)
 (h: ∀s',Inv X aa (σ.set i (some v)) H s'->(∃a,Heap.SameBut a s.heap s'.heap/\(a=X.env.locals\/X.env.cells.lookup x=some a))->Q () s') (hf:X.fn x=true\/X.env.scope.names.lookup x=some .local:=by first|exact .inl rfl|exact .inr rfl|assumption):wpAny M A (storeName X.env x u) Q E s:=by
 obtain⟨m,hn,hl⟩:=id I.loc;have hcls:(X.env.scope.kind== .class||(X.env.scope.kind== .module&&X.env.locals !=X.env.globals))=false:=by rw[I.ok.kind];rfl
 have hiσ:i<σ.length:=by rw[I.len];exact(List.getElem?_eq_some_iff.mp hi).1
 have cne:=I.cne;have tracked: ∀ {a:Addr} {h':Heap},(∃o,s.heap.get? a=some o/\H a=none)->Heap.SameBut a s.heap h'->HOk X.prog X.w H h':=λ{a h'} ha hs b ob e=>by
  obtain⟨_,_,hfree⟩:=ha;refine(I.hok b ob e).stay (λc w' hc q=>(hs.2 c ?_).trans q) (λ_ q=>q) λ_ _ q=>q
  rintro rfl;rcases hc with rfl|hc
  ·rw[hfree] at e;cases e
  ·rw[hfree] at hc;cases hc
 rcases hx with hk|hk
 ·refine wpAny_storeName_local hk hn (λh' hn' hs=>?_) hcls;obtain⟨oL,_,_,hoL,_⟩:=id hn;refine h _ ⟨I.ok,I.os,I.bare,⟨λb o e n hb hx=>?_,λb o e n hb hx=>?_,I.base.free,λb o e hx=>?_,I.base.tups,I.base.frzs,I.base.tbls⟩,⟨_,hn',λj y v' e1 e2 e3=>?_⟩,λy c e=>?_,I.free,I.freeC,λp hp=>?_,tracked ⟨oL,hoL,I.free⟩ hs,by simpa using I.len⟩ ⟨_,hs,.inl rfl⟩
  ·exact(hs.2 b (Nat.ne_of_lt (Nat.lt_of_lt_of_le (Heap.lt_size e) I.ok.above))).trans (I.base.keep b o e n hb hx)
  ·obtain⟨sl,e1⟩:=I.base.slot b o e n hb hx;exact⟨sl,(hs.2 b (Nat.ne_of_lt (Nat.lt_of_lt_of_le (Heap.lt_size e) I.ok.above))).trans e1⟩
  ·obtain⟨o',e1⟩:=I.base.there b o e hx;exact⟨o',(hs.2 b (Nat.ne_of_lt (Nat.lt_of_lt_of_le (Heap.lt_size e) I.ok.above))).trans e1⟩
  ·by_cases hj:j=i
   ·subst hj;rw[hi] at e1;cases e1;rw[List.getElem?_set_self hiσ] at e2;cases e2;exact⟨u,r,.inl ⟨hk,by simp⟩⟩
   ·rw[List.getElem?_set_ne (Ne.symm hj)] at e2;obtain⟨u',r',q⟩:=hl j y v' e1 e2 e3;refine⟨u',r',?_⟩;rcases q with⟨k,e⟩|⟨k,c,e,z⟩
    ·refine .inl ⟨k,?_⟩;have:y≠x:=λe=>hj (qg hN e1 (e▸hi))
     simp[this,e]
    ·exact .inr ⟨k,c,e,z.sameBut hs (cne y c e)⟩
  ·obtain⟨w',z⟩:=I.cell y c e;exact⟨w',z.sameBut hs (cne y c e)⟩
  ·obtain⟨e,n,ne,nf,d⟩:=I.pin p hp;exact⟨(hs.2 p.1 ne).trans e,n,ne,nf,d⟩
 ·have hfn:X.fn x=true:=by
   rcases hf with z|z
   ·exact z
   ·rw[z] at hk;cases hk
  obtain⟨c,hc⟩:=I.ok.has x (.inl hk);obtain⟨w',z⟩:=I.cell x c hc;refine wpAny_storeName_cell I.ok.kind hk hc z (λh' hc' hs=>?_);obtain⟨oc,hoc,hocd⟩:=id z;refine h {s with heap:=h'} ⟨I.ok,I.os,I.bare,⟨λb o e n hb hx=>?_,λb o e n hb hx=>?_,I.base.free,λb o e hx=>?_,I.base.tups,I.base.frzs,I.base.tbls⟩,⟨m,hn.sameBut hs (Ne.symm (cne x c hc)),λj y v' e1 e2 e3=>?_⟩,λy c' e=>?_,I.free,I.freeC,λp hp=>?_,tracked ⟨oc,hoc,I.freeC x c hc⟩ hs,by simpa using I.len⟩ ⟨c,hs,.inr hc⟩
  ·exact(hs.2 b (Nat.ne_of_lt (Nat.lt_of_lt_of_le (Heap.lt_size e) (I.ok.cab x c hfn hc)))).trans (I.base.keep b o e n hb hx)
  ·obtain⟨sl,e1⟩:=I.base.slot b o e n hb hx;exact⟨sl,(hs.2 b (Nat.ne_of_lt (Nat.lt_of_lt_of_le (Heap.lt_size e) (I.ok.cab x c hfn hc)))).trans e1⟩
  ·obtain⟨o',e1⟩:=I.base.there b o e hx;exact⟨o',(hs.2 b (Nat.ne_of_lt (Nat.lt_of_lt_of_le (Heap.lt_size e) (I.ok.cab x c hfn hc)))).trans e1⟩
  ·by_cases hj:j=i
   ·subst hj;rw[hi] at e1;cases e1;rw[List.getElem?_set_self hiσ] at e2;cases e2;exact⟨u,r,.inr ⟨.inl hk,c,hc,hc'⟩⟩
   ·rw[List.getElem?_set_ne (Ne.symm hj)] at e2;obtain⟨u',r',q⟩:=hl j y v' e1 e2 e3;refine⟨u',r',?_⟩;rcases q with q|⟨k,c',e,z'⟩
    ·exact .inl q
    ·refine .inr ⟨k,c',e,z'.sameBut hs ?_⟩;rintro rfl;exact hj (qg hN e1 (I.ok.inj _ _ _ e hc▸hi))
  ·by_cases hcc:c'=c
   ·subst hcc;exact⟨_,hc'⟩
   ·obtain⟨w2,z2⟩:=I.cell y c' e;exact⟨w2,z2.sameBut hs hcc⟩
  ·obtain⟨e,n,ne,nf,d⟩:=I.pin p hp;refine⟨(hs.2 p.1 ?_).trans e,n,ne,nf,d⟩;intro q;rw[q,hoc] at e;have q':oc=p.2:=Option.some.inj e;exact d w' (by rw[<-q'];exact hocd)
theorem mf {M:Model}{A:Around}{E:Value->Shared->Prop}{i:Nat}{x:Str}{v:V}{u:Value}{Q:Unit->Shared->Prop}(I:Inv X aa σ H s)(hN:X.N.Nodup)(hi:X.N[i]? =some x)(hx:xI X.env.scope x)(r:RelV v u)
 (h: ∀s',Inv X aa (σ.set i (some v)) H s'->Q () s') (hf:X.fn x=true\/X.env.scope.names.lookup x=some .local:=by first|exact .inl rfl|exact .inr rfl|assumption):wpAny M A (storeName X.env x u) Q E s:=
 nK I hN hi hx r (λs' I' _=>h s' I') hf
theorem Inv.call' {s':Shared}{ch:List Addr}(I:Inv X aa σ H s)(ho:s'.os=s.os)(u:Un (frs X.stack) ch H H' s.heap s'.heap)(hok:HOk X.prog X.w H' s'.heap)(hg:AllBare s'.gens)
 (hch: ∀b∈ch,(b∈X.ex\/X.s₀.heap.objs.size<=b)/\b≠X.env.locals/\(∀x c,X.env.cells.lookup x=some c->c≠b)/\ ∀p∈X.pn++aa,p.1≠b):Inv X aa σ H' s':=by
 obtain⟨h',g',d',t',o'⟩:=s';have e:o'=s.os:=ho;subst e;exact I.call (g':=g') (t':=t') (d':=d') u hok hg hch
end
abbrev XK:=Value->Option Addr->Hp->Prop
abbrev St:=List (Option V)
abbrev VK:=V->Hp->Prop
abbrev TE:=St->Hp->VK->Prop
abbrev TT:=St->Hp->(Bool->Hp->Prop)->Prop
abbrev TA:=St->Hp->(List V->Hp->Prop)->Prop
structure Ends where
 nx:St->Hp->Prop
 rt:VK
 bk:St->Hp->Prop:=λ_ _=>False
 ct:St->Hp->Prop:=λ_ _=>False
abbrev TS:=Ends->St->Hp->Prop
def EP(X:Cx)(aa:List (Addr×Obj))(σ:St)(Q:VK)(u:Value)(s':Shared):Prop:= ∃v H',Inv X aa σ H' s'/\RelV v u/\Q v H'
def TP(X:Cx)(aa:List (Addr×Obj))(σ:St)(Q:Bool->Hp->Prop)(b:Bool)(s':Shared):Prop:= ∃H',Inv X aa σ H' s'/\Q b H'
def AP(X:Cx)(aa:List (Addr×Obj))(σ:St)(Q:List V->Hp->Prop)(us:List Value)(s':Shared):Prop:= ∃vs H',Inv X aa σ H' s'/\Vals vs us/\Q vs H'
def SP(X:Cx)(aa:List (Addr×Obj))(D:Ends)(f:Flow)(s':Shared):Prop:=
 match f with
 | .next=> ∃σ' H',Inv X aa σ' H' s'/\D.nx σ' H'
 | .brk=> ∃σ' H',Inv X aa σ' H' s'/\D.bk σ' H'
 | .cont=> ∃σ' H',Inv X aa σ' H' s'/\D.ct σ' H'
 | .ret u=> ∃v σ' H',Inv X aa σ' H' s'/\RelV v u/\D.rt v H'
def PE(X:Cx)(e:Expr)(t:TE):Prop:=
 ∀(aa:List (Addr×Obj)) (s:Shared) (σ:St) (H:Hp) (Q:VK),Inv X aa σ H s->t σ H Q->wpAny (model X.prog X.w) X.A (eval e X.env) (EP X aa σ Q) X.xe s
def PT(X:Cx)(e:Expr)(t:TT):Prop:=
 ∀(aa:List (Addr×Obj)) (s:Shared) (σ:St) (H:Hp) (Q:Bool->Hp->Prop),Inv X aa σ H s->t σ H Q->wpAny (model X.prog X.w) X.A (isTrue e X.env (eval e X.env)) (TP X aa σ Q) X.xe s
def PW(X:Cx)(e:Expr)(t:TT):Prop:=
 ∀(whole:Sem Value) (aa:List (Addr×Obj)) (s:Shared) (σ:St) (H:Hp) (Q:Bool->Hp->Prop),Inv X aa σ H s->t σ H Q->wpAny (model X.prog X.w) X.A (isTrue e X.env whole) (TP X aa σ Q) X.xe s
theorem PW.pt {X:Cx}{e:Expr}{t:TT}(h:PW X e t):PT X e t:=h _
def PA(X:Cx)(es:List Expr)(t:TA):Prop:=
 ∀(pos:Pos) (aa:List (Addr×Obj)) (s:Shared) (σ:St) (H:Hp) (Q:List V->Hp->Prop),Inv X aa σ H s->t σ H Q->wpAny (model X.prog X.w) X.A (spliced (backTo pos (starEach es X.env))) (AP X aa σ Q) X.xe s
def PS(X:Cx)(st:Stmt)(t:TS):Prop:=
 ∀(aa:List (Addr×Obj)) (s:Shared) (σ:St) (H:Hp) (D:Ends),Inv X aa σ H s->t D σ H->wpAny (model X.prog X.w) X.A (exec st X.env) (SP X aa D) X.xe s
def PSs(X:Cx)(st:List Stmt)(t:TS):Prop:=
 ∀(aa:List (Addr×Obj)) (s:Shared) (σ:St) (H:Hp) (D:Ends),Inv X aa σ H s->t D σ H->wpAny (model X.prog X.w) X.A (execs st X.env) (SP X aa D) X.xe s
theorem cq {α:Type}{t:Sem α}{Q Q':α->Shared->Prop}{M:Model}{A:Around}{E:Value->Shared->Prop}{s:Shared}(h:wpAny M A t Q E s)(hQ: ∀a s,Q a s->Q' a s):wpAny M A t Q' E s:=wpAny_mono h hQ λ_ _ x=>x
section
variable {X:Cx}
def Dj(i:Nat):TE:=λσ H Q=> ∃v,σ[i]? =some (some v)/\Q v H
def tC(v:V):TE:=λ_ H Q=>Q v H
theorem BY {i:Nat}{x:Str}{pos:Pos}(hN:X.N[i]? =some x)(hv:nB X.env.scope x)(hd:(x==("__debug__":Str))=false:=by decide)(hcd:(x==("__classdict__":Str))=false:=by decide):PE X (.Name x pos) (Dj i):=by
 intro aa s σ H Q I h;obtain⟨v,e,h⟩:=h;obtain⟨m,hn,hl⟩:=I.loc;obtain⟨u,r,l⟩:=hl i x v hN e hv;have fin:EP X aa σ Q u s:=⟨v,H,I,r,h⟩
 rcases l with⟨hk,hm⟩|⟨hk,c,hc,hcell⟩
 ·exact wpAny_Name (wpAny_loadName_local I.ok.kind hk hn hm fin) hd
 ·rcases hk with hk|hk
  ·exact wpAny_Name (wpAny_loadName_cell I.ok.kind hk hc hcell fin) hd
  ·exact wpAny_Name (wpAny_loadName_free I.ok.kind hk hc hcell fin hcd) hd
theorem BT {i j pos}:PE X (.Constant (.int i) j pos) (tC (.int i)):=λ_ _ _ H _ I h=>wpAny_Constant_int ⟨.int i,H,I.tok _,⟨_,rfl⟩,h⟩
theorem CL {b j pos}:PE X (.Constant (.bool b) j pos) (tC (.bl b)):=λ_ _ _ H _ I h=>Constant_bool ⟨.bl b,H,I,rfl,h⟩
theorem A8 {j pos}:PE X (.Constant .none j pos) (tC .non):=λ_ _ _ H _ I h=>Constant_none ⟨.non,H,I,rfl,h⟩
theorem AO {x j pos}:PE X (.Constant (.str x) j pos) (tC (.str x)):=λ_ _ _ H _ I h=>Calls.Constant_str ⟨.str x,H,I.tok _,⟨_,rfl⟩,h⟩
def Gl(X:Cx)(x:Str):Prop:=X.env.kindOf x=some .globalImplicit
theorem jc {E:Value->Shared->Prop}{aa:List (Addr×Obj)}{s:Shared}{σ:St}{H:Hp}{x:Str}{u:Value}{pos:Pos}{Q:Value->Shared->Prop}(I:Inv X aa σ H s)(hg:Gl X x)(hm:X.mg x=some u)(h:Q u s)
 (hd:(x==("__debug__":Str))=false:=by decide):wpAny (model X.prog X.w) X.A (eval (.Name x pos) X.env) Q E s:=
 Calls.Name_function_global I.ok.kind hg (Calls.loadGlobal_global (by rw[I.ok.glob];exact I.mod.glob.keeps I.bk) hm h) hd
theorem kx {E:Value->Shared->Prop}{aa:List (Addr×Obj)}{s:Shared}{σ:St}{H:Hp}{x:Str}{u:Value}{pos:Pos}{Q:Value->Shared->Prop}(I:Inv X aa σ H s)(hg:Gl X x)(hm:X.mg x=none)(hv:bootBuiltins x=some u)(h:Q u s)
 (hn:x≠"__name__":=by decide) (hd:(x==("__debug__":Str))=false:=by decide):wpAny (model X.prog X.w) X.A (eval (.Name x pos) X.env) Q E s:=by
 obtain⟨mb,h1,h2⟩:=I.mod.blt;exact Calls.Name_function_global I.ok.kind hg (Calls.loadGlobal_builtin (by rw[I.ok.glob];exact I.mod.glob.keeps I.bk) hm (by rw[I.ok.blt];exact h1.keeps I.bk) ((h2 x hn).trans hv) h) hd
theorem yV {x:Str}{v:V}{u:Value}{pos:Pos}(hg:Gl X x)(hm:X.mg x=some u)(r:RelV v u)(hd:(x==("__debug__":Str))=false:=by decide):PE X (.Name x pos) (tC v):=
 λ_ _ _ H _ I h=>jc I hg hm ⟨v,H,I,r,h⟩ hd
theorem uO {x:Str}{v:V}{u:Value}{pos:Pos}(hg:Gl X x)(hm:X.mg x=none)(hv:bootBuiltins x=some u)(r:RelV v u)(hn:x≠"__name__":=by decide)(hd:(x==("__debug__":Str))=false:=by decide):PE X (.Name x pos) (tC v):=
 λ_ _ _ H _ I h=>kx I hg hm hv ⟨v,H,I,r,h⟩ hn hd
variable {a b:Expr}{ta tb:TE}{pos:Pos}
theorem RelV.none_iff {x:V}{v:Value}(r:RelV x v):(v==Value.none)=decide (x=.non):=by
 cases x with
 |non=>cases r;rfl
 |bl _=>cases r;rfl
 |int _=>obtain⟨t,rfl⟩:=r;rfl
 |str _=>obtain⟨t,rfl⟩:=r;rfl
 |byt _=>obtain⟨t,rfl⟩:=r;rfl
 |flt _=>obtain⟨t,rfl⟩:=r;rfl
 |ref _=>cases r;rfl
 |ty _=>cases r;rfl
variable {tA tB':TT}{rest:List Expr}
def DU(t u:TT):TT:=λσ H Q=>t σ H λc H1=>if c=true then u σ H1 Q else Q false H1
def Fc(t u:TT):TT:=λσ H Q=>t σ H λc H1=>if c=true then Q true H1 else u σ H1 Q
def Ep(t:TT):TT:=λσ H Q=>t σ H λc H1=>Q (!c) H1
theorem pw_and1(ha:PT X a tA):PW X (.BoolOp .And [a] pos) tA:=by
 intro wh aa s σ H Q I h;refine isTrue_and (cq (ha aa s σ H Q I h) λc s1 e=>?_);cases c with
 |true=>exact isTrue_and_nil e
 |false=>exact e
theorem pw_or1(ha:PT X a tA):PW X (.BoolOp .Or [a] pos) tA:=by
 intro wh aa s σ H Q I h;refine isTrue_or (cq (ha aa s σ H Q I h) λc s1 e=>?_);cases c with
 |false=>exact isTrue_or_nil e
 |true=>exact e
theorem pw_and(ha:PT X a tA)(hb:PW X (.BoolOp .And (b::rest) pos) tB'):PW X (.BoolOp .And (a::b::rest) pos) (DU tA tB'):=by
 intro wh aa s σ H Q I h;refine isTrue_and (cq (ha aa s σ H _ I h) λc s1 hq_=>?_);obtain⟨H1,I1,q1⟩:=hq_;cases c with
 |true=>exact hb wh aa s1 σ H1 Q I1 q1
 |false=>exact⟨H1,I1,q1⟩
theorem pw_or(ha:PT X a tA)(hb:PW X (.BoolOp .Or (b::rest) pos) tB'):PW X (.BoolOp .Or (a::b::rest) pos) (Fc tA tB'):=by
 intro wh aa s σ H Q I h;refine isTrue_or (cq (ha aa s σ H _ I h) λc s1 hq_=>?_);obtain⟨H1,I1,q1⟩:=hq_;cases c with
 |true=>exact⟨H1,I1,q1⟩
 |false=>exact hb wh aa s1 σ H1 Q I1 q1
theorem Bu(ha:PT X a tA):PT X (.UnaryOp .Not a pos) (Ep tA):=by
 intro aa s σ H Q I h;exact isTrue_not (ha aa s σ H (λc H1=>Q (!c) H1) I h)
def C4(ta tb:TE):TE:=λσ H Q=>ta σ H λx H1=> ∃c,x=.bl c/\if c=true then tb σ H1 Q else Q (.bl false) H1
def Cy(ta:TE):TE:=λσ H Q=>ta σ H λx H1=> ∃c,x=.bl c/\Q (.bl (!c)) H1
theorem BP {op}{t:TE}(h:PE X a t):PE X (.BoolOp op [a] pos) t:=λaa s σ H Q I hw=>BoolOp_one (h aa s σ H Q I hw)
theorem AU(ha:PE X a ta)(hb:PE X (.BoolOp .And (b::rest) pos) tb):PE X (.BoolOp .And (a::b::rest) pos) (C4 ta tb):=by
 intro aa s σ H Q I h;refine BoolOp_and (cq (ha aa s σ H _ I h) λv s1 hq_=>?_);obtain⟨x,H1,I1,r1,q1⟩:=hq_;obtain⟨c,rfl,q1⟩:=q1;cases r1;refine wpAny_truthy_bool ?_
 cases c with
 |true=>exact hb aa s1 σ H1 Q I1 q1
 |false=>exact⟨.bl false,H1,I1,rfl,q1⟩
theorem BD(ha:PE X a ta):PE X (.UnaryOp .Not a pos) (Cy ta):=by
 intro aa s σ H Q I h;refine UnaryOp_ (cq (ha aa s σ H _ I h) λv s1 hq_=>?_);obtain⟨x,H1,I1,r1,q1⟩:=hq_;obtain⟨c,rfl,q1⟩:=q1;cases r1;exact not_of (wpAny_truthy_bool ⟨.bl (!c),H1,I1,rfl,q1⟩)
def Fo(t:TT)(ta tb:TE):TE:=λσ H Q=>t σ H λc H1=>if c=true then ta σ H1 Q else tb σ H1 Q
theorem ym {c:Expr}(hc:PT X c tA)(ha:PE X a ta)(hb:PE X b tb):PE X (.IfExp c a b pos) (Fo tA ta tb):=by
 intro aa s σ H Q I h;refine wpAny_IfExp (cq (hc aa s σ H _ I h) λd s1 hq_=>?_);obtain⟨H1,I1,q1⟩:=hq_;cases d with
 |true=>exact ha aa s1 σ H1 Q I1 q1
 |false=>exact hb aa s1 σ H1 Q I1 q1
end
def SqL(K:W.Frag)(H:Hp)(a:Addr)(xs:List V):Prop:=
 Rd H a (.lst xs)\/
  ∃(o:Obj) (its:Array Value) (n:Nat),K.lookup a=some o/\o.cls=.type "list"/\o.dict=none/\o.data=.seq its n/\its.size<=sizeLine/\Vals xs its.toList
def SqT(K:W.Frag)(H:Hp)(a:Addr)(xs:List V):Prop:=
 Rd H a (.tup xs)\/
  ∃(o:Obj) (its:Array Value) (n:Nat),K.lookup a=some o/\o.cls=.type "tuple"/\o.data=.seq its n/\its.size<=sizeLine/\Vals xs its.toList/\o.dict=none
def EL:Value->Option V
 | .none=>some .non
 | .bool b=>some (.bl b)
 | .int i _=>some (.int i)
 | .str x _=>some (.str x)
 | .bytes b _=>some (.byt b)
 | .float b _=>some (.flt b)
 | .ref a=>some (.ref a)
 | .type n=>some (.ty n)
 |_=>none
theorem RelV.abs {x:V}{u:Value}(r:RelV x u):EL u=some x:=by
 cases x with
 |non=>cases r;rfl
 |bl _=>cases r;rfl
 |int _=>obtain⟨t,rfl⟩:=r;rfl
 |str _=>obtain⟨t,rfl⟩:=r;rfl
 |byt _=>obtain⟨t,rfl⟩:=r;rfl
 |flt _=>obtain⟨t,rfl⟩:=r;rfl
 |ref _=>cases r;rfl
 |ty _=>cases r;rfl
theorem RelV.inj {x y:V}{u:Value}(r:RelV x u)(q:RelV y u):x=y:=Option.some.inj (r.abs.symm.trans q.abs)
theorem Vals.inj: ∀ {xs ys:List V} {us:List Value},Vals xs us->Vals ys us->xs=ys
 |_,_,_,.nil,.nil=>rfl
 |_,_,_,.cons r t,.cons r' t'=>by rw[r.inj r',Vals.inj t t']
section
variable {X:Cx}{aa:List (Addr×Obj)}{σ:St}{H:Hp}{s:Shared}{a:Addr}{xs ys:List V}
theorem SqL.of {K:W.Frag}(h:H a=some (.lst xs)):SqL K H a xs:=.inl (.inl h)
theorem SqT.of {K:W.Frag}(h:H a=some (.tup xs)):SqT K H a xs:=.inl (.inl h)
theorem Inv.list(I:Inv X aa σ H s)(h:SqL X.K H a xs): ∃its:List Value,Vals xs its/\PlainL s.heap a its.toArray/\xs.length<=sizeLine:=by
 rcases h with h|⟨o,its,n,hk,hc,hd,hs,hz,r⟩
 ·obtain⟨z,its,n,r,e⟩:=h.ok I.hok;exact⟨its,r,⟨_,n,e,rfl,rfl,rfl⟩,z⟩
 ·refine⟨its.toList,r,⟨o,n,I.kIn a o hk,hc,hd,by simpa using hs⟩,?_⟩;have e:=r.length;simp only[Array.length_toList] at e;omega
theorem Inv.tuple(I:Inv X aa σ H s)(h:SqT X.K H a xs): ∃its:List Value,Vals xs its/\IsTup s.heap a its.toArray/\xs.length<=sizeLine:=by
 rcases h with h|⟨o,its,n,hk,hc,hs,hz,r,_⟩
 ·obtain⟨z,its,r,p,_⟩:=h.ok I.hok;exact⟨its,r,p,z⟩
 ·refine⟨its.toList,r,⟨o,I.kIn a o hk,hc,n,by simpa using hs⟩,?_⟩;have e:=r.length;simp only[Array.length_toList] at e;omega
theorem Inv.tupleN(I:Inv X aa σ H s)(h:SqT X.K H a xs):(∃o,s.heap.get? a=some o/\o.cls=.type "tuple")/\ ∃o,s.heap.get? a=some o/\o.dict=none:=by
 rcases h with h|⟨o,its,n,hk,hc,hs,hz,r,hd⟩
 ·obtain⟨z,its,r,⟨ob,e,c,_⟩,o2,e2,d2⟩:=h.ok I.hok;exact⟨⟨ob,e,c⟩,o2,e2,d2⟩
 ·exact⟨⟨o,I.kIn a o hk,hc⟩,o,I.kIn a o hk,hd⟩
theorem Inv.list_inj(I:Inv X aa σ H s)(h:SqL X.K H a xs)(h':SqL X.K H a ys):xs=ys:=by
 obtain⟨its,r,⟨o,n,e,_,_,d⟩,_⟩:=I.list h;obtain⟨its',r',⟨o',n',e',_,_,d'⟩,_⟩:=I.list h';rw[e] at e';cases e';rw[d] at d';injection d' with d1 _
 have:its=its':=by simpa using congrArg Array.toList d1
 subst this;exact r.inj r'
theorem Inv.tuple_inj(I:Inv X aa σ H s)(h:SqT X.K H a xs)(h':SqT X.K H a ys):xs=ys:=by
 obtain⟨its,r,⟨o,e,_,n,d⟩,_⟩:=I.tuple h;obtain⟨its',r',⟨o',e',_,n',d'⟩,_⟩:=I.tuple h';rw[e] at e';cases e';rw[d] at d';injection d' with d1 _
 have:its=its':=by simpa using congrArg Array.toList d1
 subst this;exact r.inj r'
end
abbrev Cx.wish(X:Cx)(E:Value->Shared->Prop):Cx:={X with xe:=E}
abbrev Cx.nox(X:Cx):Cx:=X.wish λ_ _=>False
theorem Cx.Ok.wish {X:Cx}(ok:X.Ok)(E:Value->Shared->Prop):(X.wish E).Ok:=
 ⟨ok.mod,ok.kind,ok.glob,ok.blt,ok.above,ok.inj,ok.has,ok.cab,ok.hd,ok.frames,ok.stk,ok.exf,ok.bs,ok.bsz,ok.noex,ok.exfs,ok.funs,ok.frf⟩
theorem Cx.Ok.unwish {X:Cx}{E:Value->Shared->Prop}(ok:(X.wish E).Ok):X.Ok:=
 ⟨ok.mod,ok.kind,ok.glob,ok.blt,ok.above,ok.inj,ok.has,ok.cab,ok.hd,ok.frames,ok.stk,ok.exf,ok.bs,ok.bsz,ok.noex,ok.exfs,ok.funs,ok.frf⟩
section
variable {X:Cx}{aa:List (Addr×Obj)}{σ:St}{H:Hp}{s:Shared}{E:Value->Shared->Prop}
theorem Inv.wish(I:Inv X aa σ H s)(E:Value->Shared->Prop):Inv (X.wish E) aa σ H s:=⟨I.ok.wish E,I.os,I.bare,I.base,I.loc,I.cell,I.free,I.freeC,I.pin,I.hok,I.len⟩
theorem Inv.unwish(I:Inv (X.wish E) aa σ H s):Inv X aa σ H s:=⟨I.ok.unwish,I.os,I.bare,I.base,I.loc,I.cell,I.free,I.freeC,I.pin,I.hok,I.len⟩
theorem SP.unwish {D:Ends}{f:Flow}{s':Shared}(h:SP (X.wish E) aa D f s'):SP X aa D f s':=by
 cases f with
 |next=>obtain⟨σ',H',I,q⟩:=h;exact⟨σ',H',I.unwish,q⟩
 |brk=>obtain⟨σ',H',I,q⟩:=h;exact⟨σ',H',I.unwish,q⟩
 |cont=>obtain⟨σ',H',I,q⟩:=h;exact⟨σ',H',I.unwish,q⟩
 |ret u=>obtain⟨v,σ',H',I,r,q⟩:=h;exact⟨v,σ',H',I.unwish,r,q⟩
theorem PT.nox {e:Expr}{t:TT}(h:PT X.nox e t):PT X e t:=λaa s σ H Q I hw=>
 wpAny_mono (h aa s σ H Q (I.wish _) hw) (λ_ _ ⟨H',I',q⟩=>⟨H',I'.unwish,q⟩) λ_ _ z=>False.elim z
theorem PSs.nox {st:List Stmt}{t:TS}(h:PSs X.nox st t):PSs X st t:=λaa s σ H D I hw=>
 wpAny_mono (h aa s σ H D (I.wish _) hw) (λ_ _ q=>q.unwish) λ_ _ z=>False.elim z
end
section
variable {X:Cx}{st:Stmt}{rest:List Stmt}{t u:TS}{e:Expr}{te:TE}{pos:Pos}
def Do:TS:=λD σ H=>D.nx σ H
def Ed(t u:TS):TS:=λD σ H=>t {D with nx:=u D} σ H
theorem uk:PSs X [] Do:=λ_ _ σ H _ I h=>wpAny_execs_nil ⟨σ,H,I,h⟩
theorem pO(h1:PS X st t)(h2:PSs X rest u):PSs X (st::rest) (Ed t u):=by
 intro aa s σ H D I h;refine wpAny_execs_cons (cq (h1 aa s σ H {D with nx:=u D} I h) λf s1 q=>?_);cases f with
 |next=>
  obtain⟨σ',H',I',q⟩:=q;exact h2 aa s1 σ' H' D I' q
 |ret v=>exact q
 |brk=>exact q
 |cont=>exact q
theorem ui(h1:PS X st t):PSs X [st] t:=by
 intro aa s σ H D I h;refine wpAny_execs_cons (cq (h1 aa s σ H D I h) λf s1 q=>?_);cases f with
 |next=>exact wpAny_execs_nil q
 |ret v=>exact q
 |brk=>exact q
 |cont=>exact q
def DC:TS:=λD σ H=>D.ct σ H
theorem rH:PS X (.Continue pos) DC:=λ_ _ σ H _ I h=>wpAny_Continue ⟨σ,H,I,h⟩
theorem Inv.quiet {aa:List (Addr×Obj)}{σ:St}{H:Hp}{s:Shared}(I:Inv X aa σ H s):interactive X.env=false:=by simp[interactive,I.ok.kind]
def CD(te:TE):TS:=λD σ H=>te σ H λ_ H1=>D.nx σ H1
theorem yM(he:PE X e te)(hs:swapsWith e none pos.line X.env=pure false:=by rfl):PS X (.Expr e pos) (CD te):=by
 intro aa s σ H D I h;exact wpAny_Expr_any (cq (he aa s σ H _ I h) λv s1 ⟨x,H1,I1,r1,q1⟩=>⟨σ,H1,I1,q1⟩) I.quiet hs
def DV(te:TE):TS:=λD σ H=>te σ H D.rt
theorem sL(he:PE X e te):PS X (.Return (some e) pos) (DV te):=by
 intro aa s σ H D I h;exact wpAny_Return_some (cq (he aa s σ H _ I h) λv s1 ⟨x,H1,I1,r1,q1⟩=>⟨x,σ,H1,I1,r1,q1⟩)
def Ev(c:TT)(t u:TS):TS:=λD σ H=>c σ H λb H1=>if b=true then t D σ H1 else u D σ H1
theorem AE {c:Expr}{a b:List Stmt}{tc:TT}(hc:PT X c tc)(ha:PSs X a t)(hb:PSs X b u):PS X (.If c a b pos) (Ev tc t u):=by
 intro aa s σ H D I h;refine wpAny_If (cq (hc aa s σ H _ I h) λd s1 hq_=>?_);obtain⟨H1,I1,q1⟩:=hq_;cases d with
 |true=>exact ha aa s1 σ H1 D I1 q1
 |false=>exact hb aa s1 σ H1 D I1 q1
end
abbrev TG:=V->St->Hp->(St->Hp->Prop)->Prop
abbrev yx:=List V->St->Hp->(St->Hp->Prop)->Prop
def PG(X:Cx)(target:Expr)(t:TG):Prop:=
 ∀(aa:List (Addr×Obj)) (s:Shared) (σ:St) (H:Hp) (v:V) (u:Value) (Q:St->Hp->Prop),Inv X aa σ H s->RelV v u->t v σ H Q->
  wpAny (model X.prog X.w) X.A (assign target X.env u) (λ_ s'=> ∃σ' H',Inv X aa σ' H' s'/\Q σ' H') X.xe s
def PGs(X:Cx)(ts:List Expr)(t:yx):Prop:=
 ∀(aa:List (Addr×Obj)) (s:Shared) (σ:St) (H:Hp) (vs:List V) (us:List Value) (Q:St->Hp->Prop),Inv X aa σ H s->Vals vs us->t vs σ H Q->
  wpAny (model X.prog X.w) X.A (assignInOrder ((assignEach ts X.env).map (·.2)) us) (λ_ s'=> ∃σ' H',Inv X aa σ' H' s'/\Q σ' H') X.xe s
abbrev Bf:=V->V->V->Hp->(Hp->Prop)->Prop
def C0(X:Cx)(t:Bf):Prop:=
 ∀(aa:List (Addr×Obj)) (s:Shared) (σ:St) (H:Hp) (o i v:V) (ov iv u:Value) (Q:Hp->Prop),Inv X aa σ H s->RelV o ov->RelV i iv->RelV v u->t o i v H Q->
  wpAny (model X.prog X.w) X.A (setItem ov iv u) (λ_ s'=> ∃H',Inv X aa σ H' s'/\Q H') X.xe s
section
variable {X:Cx}{pos:Pos}
def wL(i:Nat):TG:=λv σ H Q=>Q (σ.set i (some v)) H
theorem Al {i:Nat}{x:Str}(hN:X.N.Nodup)(hi:X.N[i]? =some x)(hx:xI X.env.scope x)(hf:X.fn x=true\/X.env.scope.names.lookup x=some .local:=by first|exact .inl rfl|exact .inr rfl|assumption):PG X (.Name x pos) (wL i):=by
 intro aa s σ H v u Q I r h;exact wpAny_assign_Name (mf I hN hi hx r (λs' I'=>⟨_,H,I',h⟩) hf)
def Es:yx:=λvs σ H Q=>vs=[]/\Q σ H
def Cu(t:TG)(u:yx):yx:=λvs σ H Q=> ∃v r,vs=v::r/\t v σ H λσ' H'=>u r σ' H' Q
theorem zg:PGs X [] Es:=by
 intro aa s σ H vs us Q I r h;obtain⟨e,h⟩:=h;subst e;cases r;exact assignInOrder_nil ⟨σ,H,I,h⟩
theorem yi {e:Expr}{es:List Expr}{t:TG}{u:yx}(h1:PG X e t)(h2:PGs X es u)
 (hs:(assignEach (e::es) X.env).map (·.2)=assign e X.env::(assignEach es X.env).map (·.2):=by rfl):PGs X (e::es) (Cu t u):=by
 intro aa s σ H vs us Q I r h;obtain⟨v,vr,e1,h⟩:=h;subst e1;cases r with
 |cons r rr=>
  rw[hs];refine assignInOrder_cons (cq (h1 aa s σ H _ _ _ I r h) λ_ s1 hq_=>?_);obtain⟨σ1,H1,I1,q1⟩:=hq_;exact h2 aa s1 σ1 H1 _ _ Q I1 rr q1
def Ec(K:W.Frag)(n:Nat)(t:yx):TG:=λv σ H Q=> ∃a xs,v=.ref a/\SqT K H a xs/\xs.length=n/\t xs σ H Q
theorem Bo {es:List Expr}{k:Nat}{t:yx}{n:Nat}(hc:X.calm=true)(h:PGs X es t)
 (hn:(assignEach es X.env).length=n:=by rfl) (hst:(assignEach es X.env).findIdx? (·.1)=none:=by rfl):PG X (.Tuple es k pos) (Ec X.K n t):=by
 intro aa s σ H v u Q I r hw;obtain⟨a,xs,e1,hq,hl,hw⟩:=hw;subst e1;cases r;obtain⟨its,rv,ht,hz⟩:=I.tuple hq;refine assign_Tuple_tuple (I.ok.hd hc) ht (by simp[hn,<-hl,rv.length]) hst λh' hx=>?_
 have I1:Inv X aa σ H {s with heap:=h'}:=I.kept (t':=s.toks) λb o e=>hx b o (Nat.ne_of_lt (Heap.lt_size e)) e
 exact h aa _ σ H xs _ Q I1 (by simpa using rv) hw
def Ek(to ti:TE)(t:Bf):TG:=λv σ H Q=>to σ H λo H1=>ti σ H1 λi H2=>t o i v H2 λH3=>Q σ H3
theorem AN {o i:Expr}{to ti:TE}{t:Bf}(ho:PE X o to)(hi:PE X i ti)(hs:C0 X t)
 (ha: ∀v,assign (.Subscript o i pos) X.env v=(do
   let ov <-holding [v] (eval o X.env)
   let iv <-holding [v,ov] (eval i X.env)
   standAt pos
   holding [v,ov,iv] (setItem ov iv v)
   release [v,ov,iv] []):=by intro _;rfl):PG X (.Subscript o i pos) (Ek to ti t):=by
 intro aa s σ H v u Q I r h;rw[ha];refine wpAny_bind (wpAny_holding (cq (ho aa s σ H _ I h) λov s1 hq_=>?_));obtain⟨x,H1,I1,r1,q1⟩:=hq_;refine wpAny_bind (wpAny_holding (cq (hi aa s1 σ H1 _ I1 q1) λiv s2 hq_=>?_));obtain⟨y,H2,I2,r2,q2⟩:=hq_;refine wpAny_bind (wpAny_standAt (wpAny_bind (wpAny_holding (cq (hs aa s2 σ H2 x y v ov iv u _ I2 r1 r2 r q2) λ_ s3 hq_=>?_))));obtain⟨H3,I3,q3⟩:=hq_;exact wpAny_release ⟨σ,H3,I3,q3⟩
def Bp(te:TE)(g:TG):TS:=λD σ H=>te σ H λx H1=>g x σ H1 D.nx
theorem yk {tg e:Expr}{te:TE}{g:TG}(he:PE X e te)(hg:PG X tg g)(hs:swapsWithSole [tg] e pos.line X.env=pure false:=by rfl)(hw:swappedStores [tg] e X.env=pure none:=by rfl)
 (h1:(assignEach [tg] X.env).map (·.2)=[assign tg X.env]:=by rfl):PS X (.Assign [tg] e pos) (Bp te g):=by
 intro aa s σ H D I h;refine wpAny_Assign_stores (cq (he aa s σ H _ I h) λv s1 ⟨x,H1,I1,r1,q1⟩=>?_) hs hw;rw[h1];exact cq (hg aa s1 σ H1 x v _ I1 r1 q1) λ_ s2 q=>q
theorem kD {i:Nat}{x:Str}{e:Expr}{te:TE}{pos':Pos}(hN:X.N.Nodup)(hi:X.N[i]? =some x)(hx:xI X.env.scope x)(he:PE X e te)(hs:swapsWith e (some (.Name x pos')) pos.line X.env=pure false:=by rfl)(hf:X.fn x=true\/X.env.scope.names.lookup x=some .local:=by first|exact .inl rfl|exact .inr rfl|assumption):
 PS X (.Assign [.Name x pos'] e pos) (Bp te (wL i)):=by
 intro aa s σ H D I h;refine wpAny_Assign_Name (cq (he aa s σ H _ I h) λv s1 ⟨y,H1,I1,r1,q1⟩=>?_) hs;exact mf I1 hN hi hx r1 (λs2 I2=>⟨_,H1,I2,q1⟩) hf
end
section
variable {X:Cx}{pos:Pos}
def BC(c:TT)(tb:TS):TS:=λD σ H=> ∃W:Nat->St->Hp->Prop,(∃m,W m σ H)/\ ∀m σ H,W m σ H->
 c σ H λb H1=>if b=true then∃N:St->Hp->Prop,(∀σ' H',N σ' H'-> ∃m',m'<m/\W m' σ' H')/\tb {D with nx:=N,ct:=N,bk:=D.nx} σ H1 else D.nx σ H1
theorem xQ {c:Expr}{body:List Stmt}{tc:TT}{tb:TS}(hp:PassesOwn (model X.prog X.w) X.A X.env X.xe)(hc:PT X c tc)(hb:PSs X body tb):PS X (.While c body [] pos) (BC tc tb):=by
 intro aa s σ H D I h;obtain⟨W,⟨m0,w0⟩,turn⟩:=h;refine wpAny_While (codeAny_whileLoop (λn s'=> ∃σ' H',Inv X aa σ' H' s'/\W n σ' H') ?_ m0 ⟨σ,H,I,w0⟩);rintro n s1 ⟨σ1,H1,I1,w1⟩;refine wpAny_passesOwn hp (cq (hc aa s1 σ1 H1 _ I1 (turn n σ1 H1 w1)) λb s2 hq_=>?_);obtain⟨H2,I2,q2⟩:=hq_;cases b with
 |true=>
  obtain⟨N,hN,q2⟩:=q2;rw[if_pos rfl];refine wpAny_passesOwn hp (cq (hb aa s2 σ1 H2 _ I2 q2) λf s3 q3=>?_);cases f with
  |next=>
   obtain⟨σ3,H3,I3,n3⟩:=q3;obtain⟨m',hm,w3⟩:=hN σ3 H3 n3;exact⟨m',hm,σ3,H3,I3,w3⟩
  |cont=>
   obtain⟨σ3,H3,I3,n3⟩:=q3;obtain⟨m',hm,w3⟩:=hN σ3 H3 n3;exact⟨m',hm,σ3,H3,I3,w3⟩
  |brk=>exact q3
  |ret v=>exact q3
 |false=>
  rw[if_neg Bool.false_ne_true];exact wpAny_execs_nil ⟨σ1,H2,I2,q2⟩
end
structure It where
 go:Nat->Hp->Prop
 yld:Nat->Hp->V->Hp->Prop
 stop:Nat->Hp->Prop
def iA(X:Cx)(aa:List (Addr×Obj))(H:Hp)(b:Addr):Prop:=
 H b=none/\b≠X.env.locals/\b∉X.fs/\(b∈X.ex\/X.s₀.heap.objs.size<=b)/\(∀x c,X.env.cells.lookup x=some c->c≠b)/\ ∀p∈X.pn++aa,p.1≠b
theorem Inv.fpOk {X:Cx}{aa:List (Addr×Obj)}{σ:St}{H H':Hp}{s:Shared}{b:Addr}(I:Inv X aa σ H s)(hb:s.heap.objs.size<=b)(hn:H' b=none):iA X aa H' b:=by
 refine⟨hn,Nat.ne_of_gt (Nat.lt_of_lt_of_le I.lt hb),I.nofs hb,.inr (Nat.le_trans I.sz hb),λx c e z=>?_,λp hp z=>?_⟩
 ·obtain⟨v,q⟩:=I.cell x c e;exact absurd (Nat.lt_of_lt_of_le q.lt (by rw[z];exact hb)) (Nat.lt_irrefl _)
 ·exact absurd (Nat.lt_of_lt_of_le (Heap.lt_size (I.pin p hp).1) (by rw[z];exact hb)) (Nat.lt_irrefl _)
structure Turn(P:Program)(w:World)(K:W.Frag)(tg:Expr)(J:It)(fp:List Addr)(it:Addr)(tn:Nat->Heap->Prop):Prop where
 mem:it∈fp
 obj: ∀i h,tn i h-> ∀b∈fp,∃o,h.get? b=some o/\ ∀v,o.data≠ .cell v
 keep: ∀i h h',tn i h->(∀b∈fp,∀o,h.get? b=some o->h'.get? b=some o)->tn i h'
 item: ∀(X:Cx),X.prog=P->X.w=w->X.K=K->X.calm=true-> ∀(i:Nat) (aa:List (Addr×Obj)) (s:Shared) (σ:St) (H:Hp) (E:Value->Shared->Prop),Inv X aa σ H s->(∀b∈fp,iA X aa H b)->tn i s.heap->J.go i H->
  wpAny (model P w) X.A (pyNext (.ref it)) (λr s1=> ∃u,r=some u/\
   wpAny (model P w) X.A (letOwnedTupleGo tg (.ref it) u) (λ_ s2=> ∃x H',Inv X aa σ H' s2/\RelV x u/\J.yld i H x H'/\tn (i+1) s2.heap/\ ∀b∈fp,H' b=none) E s1) E s
 done: ∀(X:Cx),X.prog=P->X.w=w->X.K=K->X.calm=true-> ∀(i:Nat) (aa:List (Addr×Obj)) (s:Shared) (σ:St) (H:Hp) (E:Value->Shared->Prop),Inv X aa σ H s->(∀b∈fp,iA X aa H b)->tn i s.heap->J.stop i H->
  wpAny (model P w) X.A (pyNext (.ref it)) (λr s1=>r=none/\Inv X aa σ H s1) E s
 self: ∀(A:Around) (i:Nat) (s:Shared) (Q:Value->Shared->Prop) (E:Value->Shared->Prop),tn i s.heap->Q (.ref it) s->wpAny (model P w) A (pyIter (.ref it)) Q E s
abbrev TI:=St->Hp->(It->Hp->Prop)->Prop
def ER(X:Cx)(aa:List (Addr×Obj))(σ:St)(tg:Expr)(R:It->Hp->Prop)(itv:Value)(s2:Shared):Prop:=
 ∃(it:Addr) (fp:List Addr) (tn:Nat->Heap->Prop) (J:It) (H':Hp),itv=.ref it/\Inv X aa σ H' s2/\Turn X.prog X.w X.K tg J fp it tn/\tn 0 s2.heap/\(∀b∈fp,iA X aa H' b)/\R J H'
def PI(X:Cx)(tg iter:Expr)(wi:TI):Prop:=
 ∀(aa:List (Addr×Obj)) (s:Shared) (σ:St) (H:Hp) (R:It->Hp->Prop),Inv X aa σ H s->wi σ H R->
  wpAny (model X.prog X.w) X.A (eval iter X.env) (λv s1=>wpAny (model X.prog X.w) X.A (pyIter v) (ER X aa σ tg R) X.xe s1) X.xe s
theorem tX {M:Model}{A:Around}{E:Value->Shared->Prop}{s:Shared}{tg:Expr}{it:Addr}{u:Value}{o:Obj}{n:String}{vs:Array Value}{Q:Unit->Shared->Prop}(ho:s.heap.get? it=some o)(hc:o.cls=.type n)(hd:o.data=.fields vs)
 (hn:["enumerate","zip","dict_itemiterator","dict_reverseitemiterator","odict_iterator","itertools.zip_longest","itertools.pairwise"].contains n=false) (hQ:Q () s):wpAny M A (letOwnedTupleGo tg (.ref it) u) Q E s:=by
 unfold letOwnedTupleGo;cases tg<;>first
  |exact wpAny_pure hQ
  |(cases u<;>first
     |exact wpAny_pure hQ
     |(refine wpAny_bind (wpAny_load ho ?_)
       rw[hc,hd];show wpAny M A (if(["enumerate","zip","dict_itemiterator","dict_reverseitemiterator","odict_iterator","itertools.zip_longest","itertools.pairwise"].contains n&&vs[0]? ==some (rawInt _))=true then _ else _) Q E s;rw[if_neg (by intro h;rw[hn,Bool.false_and] at h;cases h)]
       exact wpAny_pure hQ))
def Ea(K:W.Frag)(a:Addr):It:=
 ⟨λi H=> ∃xs x,SqL K H a xs/\xs[i]? =some x,λi H x H'=>H'=H/\ ∀xs,SqL K H a xs->xs[i]? =some x,λi H=> ∃xs,SqL K H a xs/\xs.length<=i⟩
def D7(K:W.Frag)(a:Addr):It:=
 ⟨λi H=> ∃xs x,SqT K H a xs/\xs[i]? =some x,λi H x H'=>H'=H/\ ∀xs,SqT K H a xs->xs[i]? =some x,λi H=> ∃xs,SqT K H a xs/\xs.length<=i⟩
def CC(lo:Int)(n:Nat):It:=⟨λi _=>i<n,λi H x H'=>H'=H/\x=.int (lo+i),λi _=>n<=i⟩
theorem uY {P:Program}{w:World}{K:W.Frag}{tg:Expr}(a it:Addr):Turn P w K tg (Ea K a) [it] it (λi h=>h.IsListIter it a i) where
 mem:=by simp
 obj:=λi h st b hb=>by
  have e:b=it:=by simpa using hb
  subst e;obtain⟨o,e,c,d⟩:=st;exact⟨o,e,λv z=>by rw[d] at z;cases z⟩
 keep:=λi h h' st k=>st.at λo e=>k it (by simp) o e
 item:=by
  intro X hP hw hK hc i aa s σ H E I hf st hg;subst hP hw hK;obtain⟨xs,x,hq,hx⟩:=hg;obtain⟨its,rv,p,hz⟩:=I.list hq;obtain⟨u,hu,ru⟩:=rv.get hx;obtain⟨f0,f1,f2,f3,f4,f5⟩:=hf it (by simp);refine wpAny_pyNext_list_item st p.isList (x:=u) (by simpa using hu) λh' st' sb=>?_
  have I1:Inv X aa σ H {s with heap:=h'}:=I.turned (t':=s.toks) (λb o hb e=>(sb.2 b hb).trans e) f0 f1 f3 f4 f5;obtain⟨o,e,c,d⟩:=id st';exact⟨u,rfl,tX (s:={s with heap:=h'}) e c d (by decide) ⟨x,H,I1,ru,⟨rfl,λys hy=>by rw[I.list_inj hy hq];exact hx⟩,st',λb hb=>(hf b hb).1⟩⟩
 done:=by
  intro X hP hw hK hc i aa s σ H E I hf st hg;subst hP hw hK;obtain⟨xs,hq,hx⟩:=hg;obtain⟨its,rv,p,hz⟩:=I.list hq;obtain⟨f0,f1,f2,f3,f4,f5⟩:=hf it (by simp);have hl:=rv.length;exact wpAny_pyNext_list_end (I.ok.hd hc) st p.isList (by simp;omega) λh' eb=>⟨rfl,I.turned (t':=s.toks) (λb o hb e=>eb b o hb e) f0 f1 f3 f4 f5⟩
 self:=λ_ _ _ _ _ st h=>wpAny_pyIter_listiter st h
theorem sT {P:Program}{w:World}{K:W.Frag}{tg:Expr}(a it:Addr):Turn P w K tg (D7 K a) [it] it (λi h=>h.IsTupleIter it a i) where
 mem:=by simp
 obj:=λi h st b hb=>by
  have e:b=it:=by simpa using hb
  subst e;obtain⟨o,e,c,d⟩:=st;exact⟨o,e,λv z=>by rw[d] at z;cases z⟩
 keep:=λi h h' st k=>st.at λo e=>k it (by simp) o e
 item:=by
  intro X hP hw hK hc i aa s σ H E I hf st hg;subst hP hw hK;obtain⟨xs,x,hq,hx⟩:=hg;obtain⟨its,rv,p,hz⟩:=I.tuple hq;obtain⟨u,hu,ru⟩:=rv.get hx;obtain⟨f0,f1,f2,f3,f4,f5⟩:=hf it (by simp);refine wpAny_pyNext_tuple_item st (show s.heap.IsTuple a its.toArray from p) (x:=u) (by simpa using hu) λh' st' sb=>?_
  have I1:Inv X aa σ H {s with heap:=h'}:=I.turned (t':=s.toks) (λb o hb e=>(sb.2 b hb).trans e) f0 f1 f3 f4 f5;obtain⟨o,e,c,d⟩:=id st';exact⟨u,rfl,tX (s:={s with heap:=h'}) e c d (by decide) ⟨x,H,I1,ru,⟨rfl,λys hy=>by rw[I.tuple_inj hy hq];exact hx⟩,st',λb hb=>(hf b hb).1⟩⟩
 done:=by
  intro X hP hw hK hc i aa s σ H E I hf st hg;subst hP hw hK;obtain⟨xs,hq,hx⟩:=hg;obtain⟨its,rv,p,hz⟩:=I.tuple hq;obtain⟨f0,f1,f2,f3,f4,f5⟩:=hf it (by simp);have hl:=rv.length;exact wpAny_pyNext_tuple_end (I.ok.hd hc) st (show s.heap.IsTuple a its.toArray from p) (by simp;omega) λh' eb=>⟨rfl,I.turned (t':=s.toks) (λb o hb e=>eb b o hb e) f0 f1 f3 f4 f5⟩
 self:=λ_ _ _ _ _ st h=>wpAny_pyIter_tupleiter st h
theorem tD {P:Program}{w:World}{K:W.Frag}{tg:Expr}(it:Addr)(lo:Int)(n:Nat):Turn P w K tg (CC lo n) [it] it (λi h=>IsRangeIter h it (lo+(i:Nat)*1) ((n:Int) - (i:Nat)) 1) where
 mem:=by simp
 obj:=λi h st b hb=>by
  have e:b=it:=by simpa using hb
  subst e;exact⟨_,st,λv z=>by
   have z':Data.fields _=Data.cell v:=z
   cases z'⟩
 keep:=λi h h' st k=>k it (by simp) _ st
 item:=by
  intro X hP hw hK hc i aa s σ H E I hf st hg;subst hP hw hK;obtain⟨f0,f1,f2,f3,f4,f5⟩:=hf it (by simp);have W:=Walks.range (prog:=X.prog) (w:=X.w) (I.ok.hd hc) it lo 1 n;refine W.item i s _ _ hg st λv h' tk hv st' kk=>?_
  obtain⟨t,rfl⟩:=hv;have I1:Inv X aa σ H {s with heap:=h',toks:=tk}:=I.turned (λb o hb e=>kk b o (by simpa using hb) e) f0 f1 f3 f4 f5;refine⟨_,rfl,tX (s:={s with heap:=h',toks:=tk}) (n:="range_iterator") st' rfl rfl (by decide) ⟨.int (lo+i),H,I1,⟨t,?_⟩,⟨rfl,rfl⟩,st',λb hb=>(hf b hb).1⟩⟩;rw[Int.mul_one]
 done:=by
  intro X hP hw hK hc i aa s σ H E I hf st hg;subst hP hw hK;obtain⟨f0,f1,f2,f3,f4,f5⟩:=hf it (by simp);exact wpAny_pyNext_range_end (I.ok.hd hc) st (by have:n<=i:=hg;omega) λh' eb=>⟨rfl,I.turned (t':=s.toks) (λb o hb e=>eb b o hb e) f0 f1 f3 f4 f5⟩
 self:=λ_ _ _ _ _ st h=>wpAny_pyIter_rangeiter st h
section
variable {X:Cx}{tg:Expr}
def Cs(K:W.Frag)(tl:TE):TI:=λσ H R=>tl σ H λx H1=> ∃a,x=.ref a/\(∃xs,SqL K H1 a xs)/\R (Ea K a) H1
def EF(K:W.Frag)(tl:TE):TI:=λσ H R=>tl σ H λx H1=> ∃a,x=.ref a/\(∃xs,SqT K H1 a xs)/\R (D7 K a) H1
theorem tN {l:Expr}{tl:TE}(hl:PE X l tl):PI X tg l (Cs X.K tl):=by
 intro aa s σ H R I h;refine cq (hl aa s σ H _ I h) λv s1 hq_=>?_
 obtain⟨x,H1,I1,r1,q1⟩:=hq_;obtain⟨a,e,⟨xs,hq⟩,q⟩:=q1;subst e;cases r1;obtain⟨its,rv,p,hz⟩:=I1.list hq;refine wpAny_pyIter_list p.isList ?_
 refine⟨s1.heap.objs.size,[s1.heap.objs.size],_,_,H1,rfl,I1.kept (t':=s1.toks) λb o e=>Heap.get?_push_of_some _ e,uY a _,⟨_,Heap.get?_push_size _ rfl,rfl,rfl⟩,λb hb=>?_,q⟩;have e:b=s1.heap.objs.size:=by simpa using hb
 subst e;exact I1.fpOk (Nat.le_refl _) (I1.hok.fresh (Nat.le_refl _))
theorem BX {l:Expr}{tl:TE}(hl:PE X l tl):PI X tg l (EF X.K tl):=by
 intro aa s σ H R I h;refine cq (hl aa s σ H _ I h) λv s1 hq_=>?_
 obtain⟨x,H1,I1,r1,q1⟩:=hq_;obtain⟨a,e,⟨xs,hq⟩,q⟩:=q1;subst e;cases r1;obtain⟨its,rv,p,hz⟩:=I1.tuple hq;refine wpAny_pyIter_tuple (show s1.heap.IsTuple a its.toArray from p) ?_
 refine⟨s1.heap.objs.size,[s1.heap.objs.size],_,_,H1,rfl,I1.kept (t':=s1.toks) λb o e=>Heap.get?_push_of_some _ e,sT a _,⟨_,Heap.get?_push_size _ rfl,rfl,rfl⟩,λb hb=>?_,q⟩;have e:b=s1.heap.objs.size:=by simpa using hb
 subst e;exact I1.fpOk (Nat.le_refl _) (I1.hok.fresh (Nat.le_refl _))
theorem pP {aa:List (Addr×Obj)}{σ:St}{H:Hp}{s:Shared}{R:It->Hp->Prop}{E:Value->Shared->Prop}{lo hi:Int}{t u v:Tok}{tk:Nat}(I:Inv X aa σ H s)(h1: -(2^62)<=lo)(h2:lo<2^62)(h3: -(2^62)<=hi)(h4:hi<2^62)
 (q:R (CC lo (hi-lo).toNat) H):wpAny (model X.prog X.w) X.A (pyIter (.ref s.heap.objs.size)) (ER X aa σ tg R) E {s with heap:=s.heap.push {cls:=.type "range",data:=.fields #[.int lo t,.int hi u,.int 1 v]},toks:=tk}:=by
 refine wpAny_pyIter_range (IsRange.new ..) (small_one h1 h2 h3 h4) ?_
 have I1:Inv X aa σ H {s with heap:=s.heap.push {cls:=.type "range",data:=.fields #[.int lo t,.int hi u,.int 1 v]},toks:=tk}:=I.kept λb o e=>Heap.get?_push_of_some _ e
 refine⟨(s.heap.push {cls:=.type "range",data:=.fields #[.int lo t,.int hi u,.int 1 v]}).objs.size,[(s.heap.push {cls:=.type "range",data:=.fields #[.int lo t,.int hi u,.int 1 v]}).objs.size],_,_,H,rfl,
  I1.kept (t':=tk) λb o e=>Heap.get?_push_of_some _ e,tD _ lo (hi-lo).toNat,?_,λb hb=>?_,q⟩
 ·have e1:lo+((0:Nat):Int)*1=lo:=by simp
  have e2:(((hi-lo).toNat:Nat):Int) - ((0:Nat):Int)=Builtin.Range.rangeSize lo hi 1:=by rw[rangeSize_one];split<;>omega
  show IsRangeIter _ _ (lo+((0:Nat):Int)*1) ((((hi-lo).toNat:Nat):Int) - ((0:Nat):Int)) 1;rw[e1,e2];exact Heap.get?_push_size _ rfl
 ·have e:b=(s.heap.push {cls:=.type "range",data:=.fields #[.int lo t,.int hi u,.int 1 v]}).objs.size:=by simpa using hb
  subst e;exact I1.fpOk (Nat.le_refl _) (I1.hok.fresh (Nat.le_refl _))
def CM(ta:TA):TI:=λσ H R=>ta σ H λvs H1=> ∃j:Int,vs=[.int j]/\ -(2^62)<=j/\j<2^62/\R (CC 0 j.toNat) H1
def Dx(ta:TA):TI:=λσ H R=>ta σ H λvs H1=> ∃i j:Int,vs=[.int i,.int j]/\(-(2^62)<=i/\i<2^62/\ -(2^62)<=j/\j<2^62)/\R (CC i (j-i).toNat) H1
theorem nY {a:Expr}{ta:TA}{p pos:Pos}(hg:Gl X "range")(hm:X.mg "range"=none)(ha:PA X [a] ta)(hs:starEach [a] X.env=[(false,eval a X.env)]:=by rfl):PI X tg (.Call (.Name "range" p) [a] [] pos) (CM ta):=by
 intro aa s σ H R I h;refine Call_ (kx I hg hm boot_range (PyProof.Rows.callWith_type1 (cq (ha pos aa s σ H _ I h) λus s1 ⟨vs,H1,I1,r1,q1⟩=>?_) hs rfl));obtain⟨j,e,q1,q2,q⟩:=q1;subst e;cases r1 with
 |cons r rr=>
  cases rr;obtain⟨t,rfl⟩:=r;exact call_range_1 (pP I1 (by omega) (by omega) q1 q2 (by simpa using q))
theorem vL {a b:Expr}{ta:TA}{p pos:Pos}(hg:Gl X "range")(hm:X.mg "range"=none)(ha:PA X [a,b] ta)(hs:starEach [a,b] X.env=[(false,eval a X.env),(false,eval b X.env)]:=by rfl)(hs2:starEach [b] X.env=[(false,eval b X.env)]:=by rfl):
 PI X tg (.Call (.Name "range" p) [a,b] [] pos) (Dx ta):=by
 intro aa s σ H R I h;refine Call_ (kx I hg hm boot_range (PyProof.Rows.callWith_type1 (cq (ha pos aa s σ H _ I h) λus s1 ⟨vs,H1,I1,r1,q1⟩=>?_) (by rw[hs,hs2]) (by rw[hs2];rfl)));obtain⟨i,j,e,⟨q1,q2,q3,q4⟩,q⟩:=q1;subst e;cases r1 with
 |cons r rr=>
  cases rr with
  |cons r' rr=>
   cases rr;obtain⟨t,rfl⟩:=r;obtain⟨t',rfl⟩:=r';exact call_range_2 (pP I1 q1 q2 q3 q4 q)
def Eg(wi:TI)(g:TG)(tb:TS):TS:=λD σ H=>wi σ H λJ H1=> ∃W:Nat->Nat->St->Hp->Prop,(∃m,W 0 m σ H1)/\ ∀i m σ H,W i m σ H->
 (J.stop i H/\D.nx σ H)\/(J.go i H/\ ∃N:St->Hp->Prop,(∀σ' H',N σ' H'-> ∃m',m'<m/\W (i+1) m' σ' H')/\ ∀x H',J.yld i H x H'->g x σ H' λσ2 H2=>tb {D with nx:=N,ct:=N,bk:=D.nx} σ2 H2)
def kr(fp:List Addr)(h:Heap):List (Addr×Obj):=fp.filterMap λb=>(h.get? b).map λo=>(b,o)
theorem eQ {fp:List Addr}{h:Heap}{b:Addr}{o:Obj}(hb:b∈fp)(e:h.get? b=some o):(b,o)∈kr fp h:=List.mem_filterMap.mpr ⟨b,hb,by rw[e];rfl⟩
theorem vU {fp:List Addr}{h:Heap}{p:Addr×Obj}(hp:p∈kr fp h):p.1∈fp/\h.get? p.1=some p.2:=by
 obtain⟨b,hb,e⟩:=List.mem_filterMap.mp hp;cases q:h.get? b with
 |none=>rw[q] at e;cases e
 |some o=>
  rw[q] at e;have e':(b,o)=p:=Option.some.inj e;subst e';exact⟨hb,q⟩
theorem Inv.pinned {aa:List (Addr×Obj)}{σ:St}{H:Hp}{s:Shared}{fp:List Addr}(I:Inv X aa σ H s)(hf: ∀b∈fp,iA X aa H b)(ho: ∀b∈fp,∃o,s.heap.get? b=some o/\ ∀v,o.data≠ .cell v):Inv X (aa++kr fp s.heap) σ H s:=
 I.pins_of λp hp=>(List.mem_append.mp hp).elim (λz=>I.pin p (List.mem_append_right _ z)) λz=>by
  obtain⟨hb,e⟩:=vU z;obtain⟨f0,f1,f2,_⟩:=hf p.1 hb;obtain⟨o,e',d⟩:=ho p.1 hb;rw[e] at e';cases e';exact⟨e,f0,f1,f2,d⟩
theorem Inv.unpinned {aa pl:List (Addr×Obj)}{σ:St}{H:Hp}{s:Shared}(I:Inv X (aa++pl) σ H s):Inv X aa σ H s:=I.pins_of λp hp=>I.pin p (List.mem_append_right _ (List.mem_append_left _ hp))
theorem AT {iter:Expr}{body:List Stmt}{wi:TI}{g:TG}{tb:TS}{pos:Pos}(hp:PassesOwn (model X.prog X.w) X.A X.env X.xe)(hc:X.calm=true)(hi:PI X tg iter wi)(hg:PG X tg g)(hb:PSs X body tb)
 (hs: ∀x,foldedSetIterable iter X.env x=pure x:=by intro _;rfl):PS X (.For tg iter body [] pos) (Eg wi g tb):=by
 intro aa s σ H D I h;refine wpAny_For (cq (hi aa s σ H _ I h) λv s1 h1=>cq h1 λitv s2 h2=>?_) hs;obtain⟨it,fp,tn,J,H2,e,I2,T,st2,f2,W,⟨m0,w0⟩,turn⟩:=h2;subst e;have stat: ∀ {H':Hp},(∀b∈fp,H' b=none)-> ∀b∈fp,iA X aa H' b:=λhn b hb=>⟨hn b hb,(f2 b hb).2⟩
 refine codeAny_forLoop_any (λn s'=> ∃i σ' H',Inv X aa σ' H' s'/\tn i s'.heap/\(∀b∈fp,H' b=none)/\W i n σ' H') ?_ m0 ⟨0,σ,H2,I2,st2,λb hb=>(f2 b hb).1,w0⟩;rintro n s3 ⟨i,σ3,H3,I3,st3,fr3,w3⟩;rcases turn i n σ3 H3 w3 with⟨stop,qn⟩|⟨go,N,hN,step⟩
 ·refine wpAny_passesOwn hp (cq (T.done X rfl rfl rfl hc i aa s3 σ3 H3 X.xe I3 (stat fr3) st3 stop) λr s4 hq_=>?_);obtain⟨hr,I4⟩:=hq_;subst hr;exact wpAny_execs_nil ⟨σ3,H3,I4,qn⟩
 ·refine wpAny_passesOwn hp (cq (T.item X rfl rfl rfl hc i aa s3 σ3 H3 X.xe I3 (stat fr3) st3 go) λr s4 hq_=>?_);obtain⟨u,hr,h4⟩:=hq_;subst hr;refine wpAny_passesOwn hp (cq h4 λ_ s5 hq_=>?_);obtain⟨x,H5,I5,r5,y5,st5,fr5⟩:=hq_;have I5':=I5.pinned (stat fr5) (T.obj _ _ st5);refine wpAny_passesOwn hp (cq (hg _ s5 σ3 H5 x u _ I5' r5 (step x H5 y5)) λ_ s6 hq_=>?_);obtain⟨σ6,H6,I6,q6⟩:=hq_;refine wpAny_passesOwn hp (cq (hb _ s6 σ6 H6 _ I6 q6) λf s7 q7=>?_);have again: ∀ {σ7:St} {H7:Hp},Inv X (aa++kr fp s5.heap) σ7 H7 s7->N σ7 H7-> ∃m,m<n/\ ∃i σ' H',Inv X aa σ' H' s7/\tn i s7.heap/\(∀b∈fp,H' b=none)/\W i m σ' H':=λ{σ7 H7} I7 n7=>by
   obtain⟨m',hm,w7⟩:=hN σ7 H7 n7;refine⟨m',hm,i+1,σ7,H7,I7.unpinned,T.keep _ _ _ st5 λb hb o e=>(I7.pin (b,o) (List.mem_append_right _ (List.mem_append_right _ (eQ hb e)))).1,λb hb=>?_,w7⟩;obtain⟨o,e,d⟩:=T.obj _ _ st5 b hb;exact(I7.pin (b,o) (List.mem_append_right _ (List.mem_append_right _ (eQ hb e)))).2.1
  cases f with
  |next=>obtain⟨σ7,H7,I7,n7⟩:=q7;exact again I7 n7
  |cont=>obtain⟨σ7,H7,I7,n7⟩:=q7;exact again I7 n7
  |brk=>obtain⟨σ7,H7,I7,q7⟩:=q7;exact⟨σ7,H7,I7.unpinned,q7⟩
  |ret v=>obtain⟨x7,σ7,H7,I7,r7,q7⟩:=q7;exact⟨x7,σ7,H7,I7.unpinned,r7,q7⟩
end
abbrev R2:=V->V->Hp->VK->Prop
def lh(X:Cx)(f:Value->Value->Sem Value)(r:R2):Prop:=
 ∀(aa:List (Addr×Obj)) (s:Shared) (σ:St) (H:Hp) (x y:V) (v u:Value) (Q:VK),Inv X aa σ H s->RelV x v->RelV y u->r x y H Q->
  wpAny (model X.prog X.w) X.A (f v u) (EP X aa σ Q) X.xe s
def EG(X:Cx)(f:Value->Sem Value)(r:V->Hp->VK->Prop):Prop:=
 ∀(aa:List (Addr×Obj)) (s:Shared) (σ:St) (H:Hp) (x:V) (v:Value) (Q:VK),Inv X aa σ H s->RelV x v->r x H Q->
  wpAny (model X.prog X.w) X.A (f v) (EP X aa σ Q) X.xe s
def fO(X:Cx)(f:Value)(r:List V->Hp->VK->Prop):Prop:=
 ∀(aa:List (Addr×Obj)) (s:Shared) (σ:St) (H:Hp) (xs:List V) (us:List Value) (Q:VK),Inv X aa σ H s->Vals xs us->r xs H Q->
  wpAny (model X.prog X.w) X.A (call f us) (EP X aa σ Q) X.xe s
def Eu(X:Cx)(r:V->Hp->(Bool->Hp->Prop)->Prop):Prop:=
 ∀(aa:List (Addr×Obj)) (s:Shared) (σ:St) (H:Hp) (x:V) (v:Value) (Q:Bool->Hp->Prop),Inv X aa σ H s->RelV x v->r x H Q->
  wpAny (model X.prog X.w) X.A (truthy v) (TP X aa σ Q) X.xe s
def Ck(r:R2)(ta tb:TE):TE:=λσ H Q=>ta σ H λx H1=>tb σ H1 λy H2=>r x y H2 Q
def Fj(r:V->Hp->VK->Prop)(ta:TE):TE:=λσ H Q=>ta σ H λx H1=>r x H1 Q
def rI(C:Int->Int->Prop)(g:Int->Int->V):R2:=λx y H Q=> ∃i j,x=.int i/\y=.int j/\C i j/\Q (g i j) H
def yT(g:Int->Int->V):R2:=λx y H Q=> ∃i j,x=.int i/\y=.int j/\Q (g i j) H
def rU(g:Int->V):V->Hp->VK->Prop:=λx H Q=> ∃i,x=.int i/\Q (g i) H
section
variable {X:Cx}{a b c:Expr}{ta tb tc:TE}{pos:Pos}
theorem BN(ha:PE X a ta)(hb:PE X b tb){aa:List (Addr×Obj)}{s:Shared}{σ:St}{H:Hp}{R:V->V->Hp->Prop}(I:Inv X aa σ H s)
 (h:ta σ H λx H1=>tb σ H1 λy H2=>R x y H2) {Q:Value->Shared->Prop} {f:Value->Value->Sem Value}
 (hf: ∀v u s2 x y H2,Inv X aa σ H2 s2->RelV x v->RelV y u->R x y H2->wpAny (model X.prog X.w) X.A (f v u) Q X.xe s2):
 wpAny (model X.prog X.w) X.A (eval a X.env) (λv s₁=>wpAny (model X.prog X.w) X.A (eval b X.env) (λu s₂=>wpAny (model X.prog X.w) X.A (f v u) Q X.xe s₂) X.xe s₁) X.xe s:=by
 refine cq (ha aa s σ H _ I h) λv s1 hq_=>?_
 obtain⟨x,H1,I1,r1,q1⟩:=hq_;refine cq (hb aa s1 σ H1 _ I1 q1) λu s2 hq_=>?_
 obtain⟨y,H2,I2,r2,q2⟩:=hq_;exact hf v u s2 x y H2 I2 r1 r2 q2
theorem Aq {op:Operator}{r:R2}(ho:lh X (binaryOp op) r)(ha:PE X a ta)(hb:PE X b tb):PE X (.BinOp a op b pos) (Ck r ta tb):=by
 intro aa s σ H Q I h;exact wpAny_BinOp (BN ha hb I h λv u s2 x y H2 I2 rx ry q=>ho aa s2 σ H2 x y v u Q I2 rx ry q)
theorem C9 {op:UnaryOp}{r:V->Hp->VK->Prop}(ho:EG X (unaryOp op) r)(ha:PE X a ta):PE X (.UnaryOp op a pos) (Fj r ta):=by
 intro aa s σ H Q I h;exact UnaryOp_ (cq (ha aa s σ H _ I h) λv s1 ⟨x,H1,I1,r1,q1⟩=>ho aa s1 σ H1 x v Q I1 r1 q1)
theorem Cj {f:Value->Value->Sem Value}{C:Int->Int->Prop}{g:Int->Int->Int}
 (rule: ∀(i j:Int) (t u:Tok) (s:Shared) (Q:Value->Shared->Prop) (E:Value->Shared->Prop),C i j->Q (.int (g i j) s.toks) {s with toks:=s.toks+1}->wpAny (model X.prog X.w) X.A (f (.int i t) (.int j u)) Q E s):
 lh X f (rI C λi j=>.int (g i j)):=by
 intro aa s σ H x y v u Q I rx ry h;obtain⟨i,j,rfl,rfl,hc,q⟩:=h;obtain⟨t,rfl⟩:=rx;obtain⟨t',rfl⟩:=ry;exact rule i j t t' s _ _ hc ⟨.int (g i j),H,I.tok _,⟨_,rfl⟩,q⟩
theorem Cz {f:Value->Value->Sem Value}{g:Int->Int->Int}
 (rule: ∀(i j:Int) (t u:Tok) (s:Shared) (Q:Value->Shared->Prop) (E:Value->Shared->Prop),Q (.int (g i j) s.toks) {s with toks:=s.toks+1}->wpAny (model X.prog X.w) X.A (f (.int i t) (.int j u)) Q E s):
 lh X f (yT λi j=>.int (g i j)):=by
 intro aa s σ H x y v u Q I rx ry h;obtain⟨i,j,rfl,rfl,q⟩:=h;obtain⟨t,rfl⟩:=rx;obtain⟨t',rfl⟩:=ry;exact rule i j t t' s _ _ ⟨.int (g i j),H,I.tok _,⟨_,rfl⟩,q⟩
theorem Cf {f:Value->Value->Sem Value}{g:Int->Int->Bool}
 (rule: ∀(i j:Int) (t u:Tok) (s:Shared) (Q:Value->Shared->Prop) (E:Value->Shared->Prop),Q (.bool (g i j)) s->wpAny (model X.prog X.w) X.A (f (.int i t) (.int j u)) Q E s):
 lh X f (yT λi j=>.bl (g i j)):=by
 intro aa s σ H x y v u Q I rx ry h;obtain⟨i,j,rfl,rfl,q⟩:=h;obtain⟨t,rfl⟩:=rx;obtain⟨t',rfl⟩:=ry;exact rule i j t t' s _ _ ⟨.bl (g i j),H,I,rfl,q⟩
def AC(i j:Int):Prop:=j≠0/\j.natAbs<1073741824
def Dl(i j:Int):Prop:=0<=j/\j<=1000000/\i.natAbs<2^64
theorem wa:lh X (binaryOp .Add) (yT λi j=>.int (i+j)):=Cz λ_ _ _ _ _ _ _ q=>add_int q
theorem wC:lh X (binaryOp .Sub) (yT λi j=>.int (i-j)):=Cz λ_ _ _ _ _ _ _ q=>sub_int q
theorem ya:lh X (binaryOp .FloorDiv) (rI AC λi j=>.int (i.fdiv j)):=Cj λ_ _ _ _ _ _ _ hc q=>floordiv_int hc.1 q (.inl (PyProof.noPylong_small hc.2))
theorem Bc:lh X (binaryOp .Mod) (rI (λ_ j=>0<j) λi j=>.int (i % j)):=Cj λi j _ _ _ _ _ hc q=>by
 have h1:(0:Int)<j:=hc;exact mod_int' (by omega) (by rw[Int.fmod_eq_emod_of_nonneg i (by omega)];exact q)
theorem y9:lh X (binaryOp .Mod) (rI (λ_ j=>j≠0) λi j=>.int (i.fmod j)):=Cj λ_ _ _ _ _ _ _ hc q=>mod_int' hc q
theorem BA:lh X (binaryOp .Pow) (rI Dl λi j=>.int (i^j.toNat)):=Cj λ_ _ _ _ _ _ _ hc q=>pow_int_small hc.1 hc.2.1 hc.2.2 q
theorem Fa {f:Value->Sem Value}{g:Int->Int}
 (rule: ∀(i:Int) (t:Tok) (s:Shared) (Q:Value->Shared->Prop) (E:Value->Shared->Prop),Q (.int (g i) s.toks) {s with toks:=s.toks+1}->wpAny (model X.prog X.w) X.A (f (.int i t)) Q E s):
 EG X f (rU λi=>.int (g i)):=by
 intro aa s σ H x v Q I rx h;obtain⟨i,rfl,q⟩:=h;obtain⟨t,rfl⟩:=rx;exact rule i t s _ _ ⟨.int (g i),H,I.tok _,⟨_,rfl⟩,q⟩
theorem BQ:EG X (unaryOp .USub) (rU λi=>.int (-i)):=Fa λ_ _ _ _ _ q=>neg_int q
end
section
variable {X:Cx}{a b c:Expr}{ta tb tc:TE}{pos:Pos}
theorem xD:lh X (compareOp .Lt) (yT λi j=>.bl (decide (i<j))):=Cf λ_ _ _ _ _ _ _ q=>lt_int q
theorem yh:lh X (compareOp .Gt) (yT λi j=>.bl (decide (j<i))):=Cf λ_ _ _ _ _ _ _ q=>gt_int q
theorem Cv:lh X (compareOp .GtE) (yT λi j=>.bl (decide (j<=i))):=Cf λ_ _ _ _ _ _ _ q=>ge_int q
theorem bF(b:Expr){op:CmpOp}(h:op≠ .In:=by decide)(h2:op≠ .NotIn:=by decide):behindInMarks op b=false:=by
 have e1:(op==CmpOp.In)=false:=by cases op<;>first|rfl|exact absurd rfl h
 have e2:(op==CmpOp.NotIn)=false:=by cases op<;>first|rfl|exact absurd rfl h2
 cases b<;>simp[behindInMarks,e1,e2]
theorem zm {op:CmpOp}{r:R2}(ho:lh X (compareOp op) r)(ha:PE X a ta)(hb:PE X b tb)(hm:behindInMarks op b=false):PE X (.Compare a [op] [b] pos) (Ck r ta tb):=by
 intro aa s σ H Q I h;exact wpAny_Compare1 (BN ha hb I h λv u s2 x y H2 I2 rx ry q=>ho aa s2 σ H2 x y v u Q I2 rx ry q) hm
def Dz(t:TE):TT:=λσ H Q=>t σ H λx H'=> ∃k,x=.bl k/\Q k H'
theorem zM {op:CmpOp}{r:R2}(ho:lh X (compareOp op) r)(ha:PE X a ta)(hb:PE X b tb)(hm:behindInMarks op b=false):PT X (.Compare a [op] [b] pos) (Dz (Ck r ta tb)):=by
 intro aa s σ H Q I h;refine wpAny_isTrue_Compare1 (cq (ha aa s σ H _ I h) λv s1 ⟨x,H1,I1,r1,q1⟩=>cq (hb aa s1 σ H1 _ I1 q1) λu s2 ⟨y,H2,I2,r2,q2⟩=>
  cq (ho aa s2 σ H2 x y v u _ I2 r1 r2 q2) λc s3 ⟨z,H3,I3,r3,k,e,q3⟩=>?_) hm
 subst e;cases r3;exact wpAny_truthy_bool ⟨H3,I3,q3⟩
def BB(K:W.Frag)(x:V)(H:Hp)(k:Bool):Prop:=
 match x with
 | .non=>k=false
 | .bl b=>k=b
 | .int i=>k=(i !=0)
 | .str y=>y.length<=sizeLine/\k=((y.length:Int) !=0)
 | .byt y=>y.size<=sizeLine/\k=((y.size:Int) !=0)
 | .ref p=>(∃xs,SqL K H p xs/\k= !xs.isEmpty)\/(∃xs,SqT K H p xs/\k= !xs.isEmpty)\/ ∃kvs,H p=some (.dK kvs)/\k= !kvs.isEmpty
 |_=>False
theorem sN {κ:Type}{kvs:List (κ×V)}{vs:List (κ×Value)}(r:KV kvs vs):(!vs.isEmpty)= !kvs.isEmpty:=by
 cases r<;>rfl
theorem lL {xs:List V}{its:List Value}(r:Vals xs its):(!its.toArray.isEmpty)= !xs.isEmpty:=by
 cases r<;>simp
theorem kH:(sizeLine:Nat)<2^63:=by rw[sizeLine_eq];decide
theorem BR:Eu X (λx H Q=> ∃k,BB X.K x H k/\Q k H):=by
 intro aa s σ H x v Q I rx h;obtain⟨k,e,q⟩:=h;have hl:=kH;have hs:sizeLine=16777216:=sizeLine_eq;cases x with
 |non=>
  cases rx;have e':k=false:=e;subst e';exact truthy_none ⟨H,I,q⟩
 |bl b=>
  cases rx;have e':k=b:=e;subst e';exact wpAny_truthy_bool ⟨H,I,q⟩
 |int i=>
  obtain⟨t,rfl⟩:=rx;have e':k=(i !=0):=e;subst e';exact PySem.P.truthy_int ⟨H,I,q⟩
 |str y=>
  obtain⟨t,rfl⟩:=rx;obtain⟨hy,e'⟩:y.length<=sizeLine/\k=((y.length:Int) !=0):=e;subst e';exact PySem.P.truthy_str (by omega) ⟨H,I.tok _,q⟩
 |byt y=>
  obtain⟨t,rfl⟩:=rx;obtain⟨hy,e'⟩:y.size<=sizeLine/\k=((y.size:Int) !=0):=e;subst e';exact W.truthy_bytes (by omega) ⟨H,I.tok _,q⟩
 |ref p=>
  cases rx;have e':(∃xs,SqL X.K H p xs/\k= !xs.isEmpty)\/(∃xs,SqT X.K H p xs/\k= !xs.isEmpty)\/ ∃kvs,H p=some (.dK kvs)/\k= !kvs.isEmpty:=e
  rcases e' with⟨xs,hx,e'⟩|⟨xs,hx,e'⟩|⟨kvs,hx,e'⟩
  ·subst e';obtain⟨its,r,pl,hz⟩:=I.list hx;have hlen:=r.length;exact wpAny_truthy_list pl.isList (by simp only[List.size_toArray];omega) ⟨H,I.tok _,by rw[lL r];exact q⟩
  ·subst e';obtain⟨its,r,pl,hz⟩:=I.tuple hx;have hlen:=r.length;exact truthy_tuple pl (by simp only[List.size_toArray];omega) ⟨H,I.tok _,by rw[lL r];exact q⟩
  ·subst e';obtain⟨hz,hS,vs,r,m⟩:kvs.length<=sizeLine/\(p==sysModules)=false/\ ∃vs,KV kvs vs/\s.heap.DictOf (aY X.prog X.w) p vs:=I.hok p _ hx
   have hlen:kvs.length=vs.length:=Paired.length r;exact wpAny_truthy_dict hS m (by omega) ⟨H,I.tok _,by rw[sN r];exact q⟩
 |_=>exact(show False from e).elim
theorem x4(ha:PE X a ta)(he: ∀whole,isTrue a X.env whole=(do let v <-whole;standAt a.pos;holding [v] (truthy v))):
 PT X a (λσ H Q=>ta σ H λx H'=> ∃k,BB X.K x H' k/\Q k H'):=by
 intro aa s σ H Q I h;exact isTrue_plain (cq (ha aa s σ H _ I h) λv s1 ⟨x,H1,I1,r1,q1⟩=>BR aa s1 σ H1 x v Q I1 r1 q1) (he _)
theorem iS {x:V}{us:List Value}(r:Vals [x] us): ∃u,us=[u]/\RelV x u:=by
 cases r with
 |cons r1 r2=>cases r2;exact⟨_,rfl,r1⟩
theorem Ay {x y:V}{us:List Value}(r:Vals [x,y] us): ∃u w',us=[u,w']/\RelV x u/\RelV y w':=by
 cases r with
 |cons r1 r2=>
  cases r2 with
  |cons r3 r4=>cases r4;exact⟨_,_,rfl,r1,r3⟩
theorem xO:fO X (.builtin "abs") (λxs H Q=> ∃i,xs=[.int i]/\Q (.int (if i<0 then -i else i)) H):=by
 intro aa s σ H xs us Q I r h;obtain⟨i,rfl,q⟩:=h;obtain⟨u,rfl,t,rfl⟩:=iS r;exact call_abs_int λu tk=>⟨.int (if i<0 then -i else i),H,I.tok _,⟨_,rfl⟩,q⟩
theorem vb(hc:X.calm=true):fO X (.builtin "min") (λxs H Q=> ∃i j,xs=[.int i,.int j]/\Q (.int (if j<i then j else i)) H):=by
 intro aa s σ H xs us Q I r h;obtain⟨i,j,rfl,q⟩:=h;obtain⟨u,w',rfl,⟨t,rfl⟩,⟨t',rfl⟩⟩:=Ay r;refine min_two_ints (I.ok.hd hc) λh' tk k=>⟨_,H,I.kept k,?_,q⟩
 by_cases hj:j<i
 ·rw[if_pos hj,if_pos hj];exact⟨_,rfl⟩
 ·rw[if_neg hj,if_neg hj];exact⟨_,rfl⟩
theorem va:fO X (.type "int") (λxs H Q=>(∃i,xs=[.int i]/\Q (.int i) H)\/ ∃k,xs=[.bl k]/\Q (.int (if k then 1 else 0)) H):=by
 intro aa s σ H xs us Q I r h;rcases h with⟨i,rfl,q⟩|⟨k,rfl,q⟩
 ·obtain⟨u,rfl,t,rfl⟩:=iS r;exact call_int_int ⟨.int i,H,I,⟨_,rfl⟩,q⟩
 ·obtain⟨u,rfl,r1⟩:=iS r;cases r1;exact call_int_bool ⟨.int (if k then 1 else 0),H,I.tok _,⟨_,rfl⟩,q⟩
end
theorem RelO.some_of {v:V}{o:Option Value}(r:RelO (some v) o): ∃u,o=some u/\RelV v u:=by
 cases o with
 |none=>exact(show False from r).elim
 |some u=>exact⟨u,rfl,r⟩
structure Room(k:Nat)(A:Around):Prop where
 hd:A.handled=none
 dp:A.depth+3*k+5<recursionLimit
 un:A.units+16*k+200<cLine
theorem Room.mono {j k:Nat}{A:Around}(r:Room k A)(h:j<=k):Room j A:=⟨r.hd,by have:=r.dp;omega,by have:=r.un;omega⟩
theorem Room.deeper {k:Nat}{A:Around}(r:Room (k+1) A)(env:Env):Room k (A.deeper env):=
 ⟨r.hd,by have:=r.dp;show A.depth+1+3*k+5<_;omega,by have:=r.un;show A.units+3+16*k+200<_;omega⟩
theorem Room.depth {k:Nat}{A:Around}(r:Room k A):A.depth<recursionLimit:=by have:=r.dp;omega
theorem Room.units {k:Nat}{A:Around}(r:Room k A):A.units+64<cLine:=by have:=r.un;omega
def Er:TA:=λ_ H Q=>Q [] H
def Di(ta:TE)(tr:TA):TA:=λσ H Q=>ta σ H λx H1=>tr σ H1 λxs H2=>Q (x::xs) H2
section
variable {X:Cx}{e:Expr}{es:List Expr}{te:TE}{t:TA}{pos:Pos}
theorem fu:PA X [] Er:=λ_ _ _ _ H Q I h=>Calls.spliced_nil ⟨[],H,I,.nil,h⟩
theorem bV(ha:PE X e te)(hr:PA X es t)(hs:starEach (e::es) X.env=(false,eval e X.env)::starEach es X.env:=by rfl):PA X (e::es) (Di te t):=by
 intro pos aa s σ H Q I h;rw[hs];show wpAny _ _ (spliced ((false,eval e X.env)::backTo pos (starEach es X.env))) _ _ s;refine Calls.spliced_cons (cq (ha aa s σ H _ I h) λu s1 hq_=>?_);obtain⟨x,H1,I1,r1,q1⟩:=hq_;exact cq (hr pos aa s1 σ H1 _ I1 q1) λus s2 ⟨xs,H2,I2,r2,q2⟩=>⟨x::xs,H2,I2,.cons r1 r2,q2⟩
def DX(t:TA):TE:=λσ H Q=>t σ H λxs H1=>xs.length<=sizeLine/\ ∀p,H1 p=none->Q (.ref p) (cb H1 p (.tup xs))
def D1(t:TA):TE:=λσ H Q=>t σ H λxs H1=>xs.length<=sizeLine/\ ∀p,H1 p=none->Q (.ref p) (cb H1 p (.lst xs))
theorem xp {x1}(h:PA X es t):PE X (.Tuple es x1 pos) (DX t):=by
 intro aa s σ H Q I hq;refine wpAny_Tuple_spliced (cq (h pos aa s σ H _ I hq) λus s1 ⟨xs,H1,I1,r,z,q⟩=>⟨by rw[<-r.length];exact z,?_⟩);have hf:H1 s1.heap.objs.size=none:=I1.hok.fresh (Nat.le_refl _);refine⟨.ref s1.heap.objs.size,cb H1 s1.heap.objs.size (.tup xs),I1.laid (t':=s1.toks) (λb u e=>Heap.get?_push_of_some _ e) (Nat.le_refl _) ?_,rfl,q _ hf⟩;exact⟨z,us,r,⟨_,Heap.get?_push_size _ rfl,rfl,_,rfl⟩,_,Heap.get?_push_size _ rfl,rfl⟩
theorem xV(h:PA X es t):PE X (.List es pos) (D1 t):=by
 intro aa s σ H Q I hq;refine wpAny_List_spliced (cq (h pos aa s σ H _ I hq) λus s1 ⟨xs,H1,I1,r,z,q⟩=>⟨by rw[<-r.length];exact z,?_⟩);have hf:H1 s1.heap.objs.size=none:=I1.hok.fresh (Nat.le_refl _);refine⟨.ref s1.heap.objs.size,cb H1 s1.heap.objs.size (.lst xs),I1.laid (t':=s1.toks) (λb u e=>Heap.get?_push_of_some _ e) (Nat.le_refl _) ?_,rfl,q _ hf⟩;exact⟨z,us,0,r,Heap.get?_push_size _ rfl⟩
end
abbrev Sp:=List V->Hp->VK->XK->Prop
abbrev pH:=List Env->Hp->Shared->XK->Value->Shared->Prop
structure Env0(P:Program)(w:World)(K:W.Frag)(mg:Str->Option Value)(base:Heap)(A:Around)(outer:List Env)(s:Shared)(H:Hp):Prop where
 frames:A.frames=some outer
 mod:Mod K mg base
 bs: ∀b o,base.get? b=some o->s.heap.get? b=some o/\H b=none
 bsz:base.objs.size<=s.heap.objs.size
 funs:s.heap.FunFrames base outer
 frf: ∀b∈frs outer,H b=none
 hok:HOk P w H s.heap
 bare:AllBare s.gens
def CE(outer:List Env)(P:Program)(w:World)(H:Hp)(s:Shared)(Q:VK)(u:Value)(s':Shared):Prop:=
 ∃v H',s'.os=s.os/\AllBare s'.gens/\Un (frs outer) [] H H' s.heap s'.heap/\HOk P w H' s'.heap/\RelV v u/\Q v H'
def CR(CX:pH)(outer:List Env)(P:Program)(w:World)(H:Hp)(s:Shared)(Q:VK)(E:XK)(r:Result)(s':Shared):Prop:=
 match r with
 | .ok (.ret u)=>CE outer P w H s Q u s'
 | .ok _=>False
 | .error e=>CX outer H s E e s'
structure FnOk(P:Program)(w:World)(K:W.Frag)(mg:Str->Option Value)(base:Heap)(CX:pH)(k:Nat)(f:Addr)(fd:FuncData)(ps:List Str)(sp:Sp):Prop where
 len: ∀vs H Q E,sp vs H Q E->vs.length=ps.length
 run: ∀(A:Around) (outer:List Env) (s:Shared) (H:Hp) (args:Args) (us:List Value) (vs:List V) (Q:VK) (E:XK),Room k A->Env0 P w K mg base A outer s H->BindsTo s fd args (ps.zip us)->Vals vs us->sp vs H Q E->
  codeAny (model P w) A (.call (.ref f) args) (CR CX outer P w H s Q E) s
theorem FnOk.imp {P:Program}{w:World}{K:W.Frag}{mg:Str->Option Value}{base:Heap}{CX:pH}{k:Nat}{f:Addr}{fd:FuncData}{ps:List Str}{sp sp':Sp}(F:FnOk P w K mg base CX k f fd ps sp)
 (h: ∀vs H Q E,sp' vs H Q E->sp vs H Q E):FnOk P w K mg base CX k f fd ps sp':=
 ⟨λvs H Q E q=>F.len vs H Q E (h _ _ _ _ q),λA outer s H args us vs Q E hr he hb hv hs=>F.run A outer s H args us vs Q E hr he hb hv (h _ _ _ _ hs)⟩
section
variable {X:Cx}{aa:List (Addr×Obj)}{σ:St}{H:Hp}{s s':Shared}
theorem Inv.env0(I:Inv X aa σ H s):Env0 X.prog X.w X.K X.mg X.base X.A X.stack s H:=
 ⟨I.ok.frames,I.ok.mod,I.bs,Nat.le_trans I.ok.bsz I.sz,I.stack,I.stkFree,I.hok,I.bare⟩
theorem Inv.after {Q:VK}{u:Value}(I:Inv X aa σ H s)(h:CE X.stack X.prog X.w H s Q u s'):EP X aa σ Q u s':=by
 obtain⟨v,H',os,bare,un,hok,r,q⟩:=h;obtain⟨hh,g,d,t,os'⟩:=s';obtain rfl:os'=s.os:=os;exact⟨v,H',I.call (h':=hh) (g':=g) (d':=d) (t':=t) (ch:=[]) un hok bare (λb z=>absurd z (by simp)),r,q⟩
end
def C8(sp:Sp)(dvs:List V)(E:XK)(t:TA):TE:=λσ H Q=>t σ H λvs H1=>sp (vs++dvs) H1 Q E
def Binds(K:W.Frag)(fd:FuncData)(ps:List Str)(ds:List Value):Prop:=
 ∀(s:Shared) (us:List Value),K.In s.heap->(us++ds).length=ps.length->BindsTo s fd ⟨us,[]⟩ (ps.zip (us++ds))
theorem Binds.all {K:W.Frag}{fd:FuncData}{ps:List Str}(h: ∀us:List Value,us.length=ps.length->bindArgs fd ⟨us,[]⟩=pure (ps.zip us)):Binds K fd ps []:=λs us _ hl=>by
 rw[List.append_nil] at hl⊢;exact .of_eq (h us hl)
def sh(CX:pH)(X:Cx)(E:XK):Prop:= ∀(aa:List (Addr×Obj)) (σ:St) (H:Hp) (s:Shared) (e:Value) (s':Shared),Inv X aa σ H s->CX X.stack H s E e s'->X.xe e s'
section
variable {X:Cx}{CX:pH}{k:Nat}{f C:Addr}{fd:FuncData}{ps:List Str}{sp:Sp}{dvs:List V}{ds:List Value}{E:XK}{x m:Str}{p pos apos:Pos}{e o:Expr}{es:List Expr}{ta:TE}{t:TA}
theorem Ce {aa:List (Addr×Obj)}{σ:St}{H:Hp}{s:Shared}{Q:VK}{us:List Value}{vs:List V}(F:FnOk X.prog X.w X.K X.mg X.base CX k f fd ps sp)(hr:Room k X.A)(hb:Binds X.K fd ps ds)(hd:Vals dvs ds)(hx:sh CX X E)
 (I:Inv X aa σ H s) (r:Vals vs us) (h:sp (vs++dvs) H Q E):wpAny (model X.prog X.w) X.A (call (.ref f) us) (EP X aa σ Q) X.xe s:=by
 have r2:Vals (vs++dvs) (us++ds):=r.append hd;have hl:(us++ds).length=ps.length:=by rw[<-r2.length];exact F.len _ _ _ _ h
 refine wpAny_call (codeAny_mono (F.run X.A X.stack s H ⟨us,[]⟩ (us++ds) (vs++dvs) Q E hr I.env0 (hb s us I.kIn hl) r2 h) λr s' hq=>?_);cases r with
 |error e=>exact hx aa σ H s e s' I hq
 |ok fl=>
  cases fl with
  |ret u=>exact I.after hq
  |next=>exact False.elim hq
  |brk=>exact False.elim hq
  |cont=>exact False.elim hq
theorem jT(F:FnOk X.prog X.w X.K X.mg X.base CX k f fd ps sp)(hr:Room k X.A)(hg:Gl X x)(hm:X.mg x=some (.ref f))(hk:W.keepIn X.K (.ref f)=true)(hb:Binds X.K fd ps ds)(hd:Vals dvs ds)(hx:sh CX X E)
 (ha:PA X (e::es) t) (hdb:(x==("__debug__":Str))=false:=by decide) (he:starEach (e::es) X.env=(false,eval e X.env)::starEach es X.env:=by rfl) (hpl:(backTo pos (starEach es X.env)).any (·.1)=false:=by rfl):
 PE X (.Call (.Name x p) (e::es) [] pos) (C8 sp dvs E t):=by
 intro aa s σ H Q I h;refine wpAny_Call_Name_kw (jc I hg hm ?_ hdb);refine W.callWith_K (h₀:=X.base) I.ok.mod.kin hk (cq (ha pos aa s σ H _ I h) λus s1 ⟨vs,H1,I1,r,q⟩=>⟨I1.kIn,?_⟩) he hpl;exact Ce F hr hb hd hx I1 r q
end
structure FnScope(N P:List Str)(sc:Scope):Prop where
 kind:sc.kind=.function
 co:sc.isCoroutine=false
 gen:sc.isGenerator=false
 nd:N.Nodup
 pre:N.take P.length=P
 par: ∀x∈P,sc.names.lookup x=some .local\/sc.names.lookup x=some .cell
 nofree: ∀y∈sc.names,y.2≠ .free
theorem nw {kindOf:Str->Option NameKind}{x:Str}: ∀ {binds:List (Str×Value)} {m:Str->Option Value},(∀v,(x,v)∉binds)->bindL kindOf binds m x=m x
 | [],_,_=>rfl
 |(n,v)::r,m,h=>by
  unfold bindL;rw[nw λw hw=>h w (List.mem_cons_of_mem _ hw)];split
  ·have:x≠n:=by rintro rfl;exact h v List.mem_cons_self
   simp[this]
  ·rfl
theorem n4 {kindOf:Str->Option NameKind}{x:Str}: ∀ {binds:List (Str×Value)} {m:Str->Option Value},(∀v,(x,v)∉binds)->bindC kindOf binds m x=m x
 | [],_,_=>rfl
 |(n,v)::r,m,h=>by
  unfold bindC;rw[n4 λw hw=>h w (List.mem_cons_of_mem _ hw)];split
  ·rfl
  ·have:x≠n:=by rintro rfl;exact h v List.mem_cons_self
   simp[this]
theorem ko {kindOf:Str->Option NameKind}{x:Str}{v:Value}: ∀ {P:List Str} {vs:List Value} {i:Nat} {m:Str->Option Value},P.Nodup->P[i]? =some x->vs[i]? =some v->kindOf x=some .local->
 bindL kindOf (P.zip vs) m x=some v
 | [],_,_,_,_,h,_,_=>by simp at h
 |_::_,[],_,_,_,_,h,_=>by simp at h
 |p::P,w::vs,0,m,nd,h1,h2,hk=>by
  simp at h1 h2;subst h1;subst h2;show bindL kindOf ((p,w)::P.zip vs) m p=_;unfold bindL;rw[nw λv hv=>(List.nodup_cons.mp nd).1 (List.of_mem_zip hv).1,if_pos hk];simp
 |p::P,w::vs,i+1,m,nd,h1,h2,hk=>by
  show bindL kindOf ((p,w)::P.zip vs) m x=_;unfold bindL;exact ko (i:=i) (List.nodup_cons.mp nd).2 (by simpa using h1) (by simpa using h2) hk
theorem kJ {kindOf:Str->Option NameKind}{x:Str}{v:Value}: ∀ {P:List Str} {vs:List Value} {i:Nat} {m:Str->Option Value},P.Nodup->P[i]? =some x->vs[i]? =some v->kindOf x≠some .local->
 bindC kindOf (P.zip vs) m x=some v
 | [],_,_,_,_,h,_,_=>by simp at h
 |_::_,[],_,_,_,_,h,_=>by simp at h
 |p::P,w::vs,0,m,nd,h1,h2,hk=>by
  simp at h1 h2;subst h1;subst h2;show bindC kindOf ((p,w)::P.zip vs) m p=_;unfold bindC;rw[n4 λv hv=>(List.nodup_cons.mp nd).1 (List.of_mem_zip hv).1,if_neg hk];simp
 |p::P,w::vs,i+1,m,nd,h1,h2,hk=>by
  show bindC kindOf ((p,w)::P.zip vs) m x=_;unfold bindC;exact kJ (i:=i) (List.nodup_cons.mp nd).2 (by simpa using h1) (by simpa using h2) hk
def dh(N:List Str)(vs:List V):St:=vs.map some++List.replicate (N.length-vs.length) none
def kQ(CX:pH)(P:Program)(w:World)(K:W.Frag)(mg:Str->Option Value)(base:Heap)(N:List Str)(qual:Str)(scope:Scope)(f:Addr)(cd:Value)(A:Around)(outer:List Env)(s:Shared)(H:Hp)(E:XK):Cx where
 prog:=P
 w:=w
 K:=K
 mg:=mg
 base:=base
 A:=A.deeper (envOfC qual scope s.heap.objs.size f cd)
 N:=N
 s₀:=s
 H₀:=H
 env:=envOfC qual scope s.heap.objs.size f cd
 outer:=outer
 stack:=envOfC qual scope s.heap.objs.size f cd::outer
 ex:=[]
 calm:=true
 fn:=λ_=>true
 pn:=[]
 xe:=λe s'=>wpAny (model P w) (A.deeper (envOfC qual scope s.heap.objs.size f cd)) (leaving (envOfC qual scope s.heap.objs.size f cd) e) (λ_ s''=>CX outer H s E e s'') (λe' s''=>CX outer H s E e' s'') s'
theorem jP {sc:Scope}{n:Nat}{x:Str}(h:sc.names.lookup x=some .cell): ∃c,(cellsFrom n sc.names []).lookup x=some c:=by
 have q:=W.cellsFrom_some sc.names n [] (.inl h);exact Option.isSome_iff_exists.mp q
theorem vY {CX:pH}{P:Program}{w:World}{K:W.Frag}{mg:Str->Option Value}{base:Heap}{N ps:List Str}{qual:Str}{scope:Scope}{f:Addr}{cd:Value}{A:Around}{outer:List Env}{s s1:Shared}{H:Hp}{E:XK}{us:List Value}{vs:List V}
 (S:FnScope N ps scope) (hd:A.handled=none) (e0:Env0 P w K mg base A outer s H) (hl:vs.length=ps.length) (r:Vals vs us)
 (x:InCallC s s.heap.objs.size (bindL (envOfC qual scope s.heap.objs.size f cd).kindOf (ps.zip us) λ_=>none) (cellsFrom (s.heap.objs.size+1) scope.names []) (bindC (envOfC qual scope s.heap.objs.size f cd).kindOf (ps.zip us) λ_=>none) s1):
 Inv (kQ CX P w K mg base N qual scope f cd A outer s H E) [] (dh N vs) H s1:=by
 have hpl:ps.length<=N.length:=by have:=congrArg List.length S.pre;rw[List.length_take] at this;omega
 obtain⟨h1,tk,rfl,hk⟩:=x.done;have noA: ∀b:Addr,b∉(kQ CX P w K mg base N qual scope f cd A outer s H E).ex:=λb z=>absurd (show b∈([]:List Addr) from z) (by simp)
 refine⟨⟨e0.mod,S.kind,rfl,rfl,Nat.le_refl _,λy z c h1 h2=>?_,λy hy=>?_,λy c _ h=>?_,λ_=>hd,Around.frames_deeper e0.frames,.inr ⟨rfl,rfl⟩,λb z=>absurd z (noA b),e0.bs,e0.bsz,λb _ _=>noA b,λb z=>absurd z (noA b),e0.funs,e0.frf⟩,
  rfl,e0.bare,Un.kept hk,⟨_,x.toInCall.ns,λi y v h1 h2 h3=>?_⟩,λy c h=>⟨_,x.cell y c h⟩,e0.hok.fresh (Nat.le_refl _),λy c h=>?_,λp hp=>absurd (show p∈([]:List (Addr×Obj)) from hp) (by simp),e0.hok.kept hk,?_⟩
 ·exact name_of_addr x.apart (PySem.mem_of_lookup h1) (PySem.mem_of_lookup h2)
 ·have hy:scope.names.lookup y=some .cell\/scope.names.lookup y=some .free:=hy;rcases hy with hy|hy
  ·exact jP hy
  ·exact absurd rfl (S.nofree _ (PySem.mem_of_lookup hy))
 ·exact Nat.le_of_lt (x.above y c (PySem.mem_of_lookup h))
 ·have hi:i<vs.length:=by
   unfold dh at h2
   by_cases hi:i<vs.length
   ·exact hi
   ·rw[List.getElem?_append_right (by simpa using hi)] at h2;rw[List.getElem?_replicate] at h2;split at h2<;>cases h2
  have ha:vs[i]? =some v:=by
   unfold dh at h2;rw[List.getElem?_append_left (by simpa using hi),List.getElem?_map] at h2;cases e:vs[i]? with
   |none=>rw[e] at h2;cases h2
   |some a=>rw[e] at h2;cases h2;rfl
  obtain⟨u,hu,rv⟩:=r.get ha;have hp:ps[i]? =some y:=by
   rw[<-S.pre,List.getElem?_take_of_lt (by omega)];exact h1
  have ndP:ps.Nodup:=by rw[<-S.pre];exact S.nd.sublist (List.take_sublist _ _)
  refine⟨u,rv,?_⟩;rcases S.par y (List.mem_of_getElem? hp) with k|k
  ·exact .inl ⟨k,ko ndP hp hu k⟩
  ·obtain⟨c,e⟩:=jP (n:=s.heap.objs.size+1) k;refine .inr ⟨.inl k,c,e,?_⟩;have q:=x.cell y c e;rw[kJ ndP hp hu (by show scope.names.lookup y≠_;rw[k];decide)] at q;exact q
 ·exact e0.hok.fresh (Nat.le_of_lt (x.above y c (PySem.mem_of_lookup h)))
 ·unfold dh;show _=N.length;rw[List.length_append,List.length_map,List.length_replicate];omega
theorem As {CX:pH}{P:Program}{w:World}{K:W.Frag}{mg:Str->Option Value}{base:Heap}{k:Nat}{f:Addr}{name qual:Str}{params:Arguments}{body:List Stmt}{scope:Scope}{dV kV doc pm cdv ct oc:Value}{an od:Option Addr}
 {osl:Array (Option Value)} {N ps:List Str} {sp:Sp} (lk:K.lookup f=some ⟨oc,od,.func (W.fnOf name qual params body scope dV kV doc pm an cdv ct),osl⟩) (hcd:W.codeIn K cdv qual=true) (S:FnScope N ps scope)
 (len: ∀vs H Q E,sp vs H Q E->vs.length=ps.length)
 (hbody: ∀(A:Around) (outer:List Env) (s:Shared) (H:Hp) (vs:List V) (Q:VK) (E:XK),Room k (A.deeper (envOfC qual scope s.heap.objs.size f cdv))->sp vs H Q E->
   ∃t,PSs (kQ CX P w K mg base N qual scope f cdv A outer s H E) body t/\t {nx:=λ_ H'=>Q .non H',rt:=Q} (dh N vs) H):
 FnOk P w K mg base CX (k+1) f (W.fnOf name qual params body scope dV kV doc pm an cdv ct) ps sp:=by
 refine⟨len,λA outer s H args us vs Q E hr e0 hb r hsp=>?_⟩;have hl:=len _ _ _ _ hsp;have KX:K.In s.heap:=e0.mod.kin.keeps λb o e=>(e0.bs b o e).1
 have lim:s.heap.NoLimit:=e0.mod.nolimit.keeps λb o e=>(e0.bs b o e).1
 have hkind: ∀y∈ps.zip us,scope.names.lookup y.1=some .local\/(scope.names.lookup y.1=some .cell/\((cellsFrom (s.heap.objs.size+1) scope.names []).lookup y.1).isSome=true):=λ⟨n,v⟩ hy=>by
  rcases S.par n (List.of_mem_zip hy).1 with q|q
  ·exact .inl q
  ·exact .inr ⟨q,W.cellsFrom_some _ _ _ (.inl q)⟩
 refine codeAny_call_function hr.depth (KX _ _ lk) rfl S.co S.gen rfl (W.codeRec_of KX hcd) (hb _ _ _ _ ?_);refine wpAny_newFunctionEnv_cells S.kind hkind λenv he s1 x=>?_
 subst he;refine⟨lim.keeps x.toInCall.keep,codeAny_func ?_⟩;obtain⟨t,ht,hq⟩:=hbody A outer s H vs Q E (hr.deeper _) hsp;have I:Inv (kQ CX P w K mg base N qual scope f cdv A outer s H E) [] (dh N vs) H s1:=vY S hr.hd e0 hl r x;refine wpAny_mono (ht [] s1 (dh N vs) H _ I hq) (λfl s' hs=>?_) λe s' hs=>hs
 have fin: ∀ {σ':St} {H':Hp} {v:V} {u:Value},Inv (kQ CX P w K mg base N qual scope f cdv A outer s H E) [] σ' H' s'->RelV v u->Q v H'->CE outer P w H s Q u s':=
  λ{σ' H' v u} J rv q=>⟨v,H',J.os,J.bare,J.base,J.hok,rv,q⟩
 cases fl with
 |ret u=>
  obtain⟨v,σ',H',J,rv,q⟩:=hs;exact fin J rv q
 |next=>
  obtain⟨σ',H',J,q⟩:=hs;exact fin (v:=V.non) (u:=Value.none) J rfl q
 |brk=>
  obtain⟨_,_,_,q⟩:=hs;exact False.elim q
 |cont=>
  obtain⟨_,_,_,q⟩:=hs;exact False.elim q
section
variable {X:Cx}{x:Str}{p pos:Pos}{e:Expr}{es:List Expr}{t:TA}{id T:String}{r:List V->Hp->VK->Prop}
def Ee(r:List V->Hp->VK->Prop)(t:TA):TE:=λσ H Q=>t σ H λvs H1=>r vs H1 Q
theorem iQ(hc:fO X (.builtin id) r)(hg:Gl X x)(hm:X.mg x=none)(hv:bootBuiltins x=some (.builtin id))(ha:PA X (e::es) t)(hn:x≠"__name__":=by decide)(hdb:(x==("__debug__":Str))=false:=by decide)
 (he:starEach (e::es) X.env=(false,eval e X.env)::starEach es X.env:=by rfl) (hpl:(backTo pos (starEach es X.env)).any (·.1)=false:=by rfl):PE X (.Call (.Name x p) (e::es) [] pos) (Ee r t):=by
 intro aa s σ H Q I h;refine wpAny_Call_Name_kw (kx I hg hm hv ?_ hn hdb);exact PyProof.Rows.callWith_builtin1 (cq (ha pos aa s σ H _ I h) λus s1 ⟨vs,H1,I1,r1,q1⟩=>hc aa s1 σ H1 vs us Q I1 r1 q1) he hpl
theorem nL(hc:fO X (.type T) r)(hg:Gl X x)(hm:X.mg x=none)(hv:bootBuiltins x=some (.type T))(ha:PA X (e::es) t)(hn:x≠"__name__":=by decide)(hdb:(x==("__debug__":Str))=false:=by decide)
 (he:starEach (e::es) X.env=(false,eval e X.env)::starEach es X.env:=by rfl) (hpl:(backTo pos (starEach es X.env)).any (·.1)=false:=by rfl):PE X (.Call (.Name x p) (e::es) [] pos) (Ee r t):=by
 intro aa s σ H Q I h;refine wpAny_Call_Name_kw (kx I hg hm hv ?_ hn hdb);exact PyProof.Rows.callWith_type1 (cq (ha pos aa s σ H _ I h) λus s1 ⟨vs,H1,I1,r1,q1⟩=>hc aa s1 σ H1 vs us Q I1 r1 q1) he hpl
end
end L2
namespace HT
open PySem PyProof.Rows
section
variable {prog:Program}{w:World}{A:Around}{E:Value->Shared->Prop}{s:Shared}
def sIx(n d:Nat):Option Int->Nat
 |none=>d
 |some v=>if v<0 then(v+(n:Int)).toNat else min v.toNat n
theorem sIx_none(n d:Nat):sIx n d none=d:=rfl
theorem sIx_nat(n d k:Nat):sIx n d (some (k:Int))=min k n:=by
 show(if(k:Int)<0 then((k:Int)+(n:Int)).toNat else min (k:Int).toNat n)=min k n;rw[if_neg (by omega),Int.toNat_natCast]
end
end HT
namespace L2
open PySem PySem.Spec PyProof.Rows
abbrev TO:=St->Hp->(Option Int->Hp->Prop)->Prop
def PO(X:Cx)(e:Option Expr)(t:TO):Prop:=
 ∀(aa:List (Addr×Obj)) (s:Shared) (σ:St) (H:Hp) (Q:Option Int->Hp->Prop),Inv X aa σ H s->t σ H Q->
  wpAny (model X.prog X.w) X.A (evalPart e X.env) (λu s'=> ∃o H',Inv X aa σ H' s'/\IsPart u o/\Q o H') X.xe s
def zE:TO:=λ_ H Q=>Q none H
def Db(t:TE):TO:=λσ H Q=>t σ H λx H1=> ∃i,x=.int i/\Q (some i) H1
section
variable {X:Cx}{e:Expr}{te:TE}{lo hi:Option Expr}{tl th:TO}{pos p2:Pos}
theorem zX:PO X none zE:=by
 intro aa s σ H Q I h;rw[evalPart_none];exact wpAny_pure ⟨none,H,I,.none,h⟩
theorem yO(h:PE X e te):PO X (some e) (Db te):=by
 intro aa s σ H Q I hw;rw[evalPart_some];refine cq (h aa s σ H _ I hw) λu s1 hq_=>?_
 obtain⟨x,H1,I1,r1,q1⟩:=hq_;obtain⟨i,rfl,q⟩:=q1;obtain⟨t,rfl⟩:=r1;exact⟨some i,H1,I1,.int i t,q⟩
def E5(X:Cx)(r:V->Option Int->Option Int->Hp->VK->Prop):Prop:=
 ∀(aa:List (Addr×Obj)) (s:Shared) (σ:St) (H:Hp) (x:V) (v vl vu:Value) (lo hi:Option Int) (sl:Addr) (Q:VK),Inv X aa σ H s->RelV x v->s.heap.IsSliceOf sl vl vu .none->IsPart vl lo->IsPart vu hi->r x lo hi H Q->
  ∃T id,typeLookup (.type T) "__getitem__"=pure (some (.builtin id))/\s.TypeIs v T/\wpAny (model X.prog X.w) X.A (getItem v (.ref sl)) (EP X aa σ Q) X.xe s
def Fh(r:V->Option Int->Option Int->Hp->VK->Prop)(te:TE)(tl th:TO):TE:=λσ H Q=>te σ H λx H1=>tl σ H1 λl H2=>th σ H2 λu H3=>r x l u H3 Q
theorem wc {r:V->Option Int->Option Int->Hp->VK->Prop}(hr:E5 X r)(he:PE X e te)(hl:PO X lo tl)(hu:PO X hi th):PE X (.Subscript e (.Slice lo hi none p2) pos) (Fh r te tl th):=by
 intro aa s σ H Q I h;refine Subscript_ (cq (he aa s σ H _ I h) λv s1 hq_=>?_);obtain⟨x,H1,I1,r1,q1⟩:=hq_;refine wpAny_Slice (cq (hl aa s1 σ H1 _ I1 q1) λvl s2 ⟨l,H2,I2,pl,q2⟩=>cq (hu aa s2 σ H2 _ I2 q2) λvu s3 hq_=>?_);obtain⟨u,H3,I3,pu,q3⟩:=hq_;rw[evalPart_none];refine wpAny_pure ?_
 have I4:Inv X aa σ H3 {s3 with heap:=s3.heap.push {cls:=.type "slice",data:=.fields #[vl,vu,.none]}}:=I3.kept (t':=s3.toks) λb ob q=>Heap.get?_push_of_some _ q
 obtain⟨T,id,hT,ht,hg⟩:=hr aa {s3 with heap:=s3.heap.push {cls:=.type "slice",data:=.fields #[vl,vu,.none]}} σ H3 x v vl vu l u s3.heap.objs.size Q I4 r1 (Heap.IsSliceOf.new ..) pl pu q3;show wpAny (model X.prog X.w) X.A (subscriptTail e (.Slice lo hi none p2) v (.ref s3.heap.objs.size)) (EP X aa σ Q) X.xe {s3 with heap:=s3.heap.push {cls:=.type "slice",data:=.fields #[vl,vu,.none]}};exact tail_any (ops:=[.ref s3.heap.objs.size,v]) ht hT hg (by with_unfolding_all rfl)
def vp(xs:List V)(lo hi:Option Int):List V:=(xs.drop (HT.sIx xs.length 0 lo)).take (HT.sIx xs.length xs.length hi-HT.sIx xs.length 0 lo)
theorem qh(xs:List V)(lo hi:Option Int):(vp xs lo hi).length<=xs.length:=by
 unfold vp;rw[List.length_take,List.length_drop];omega
end
def uN(n:Nat)(i:Int):Option Nat:=if 0<=i then(if i<n then some i.toNat else none) else if -(n:Int)<=i then some (i+n).toNat else none
def oO {α:Type}(xs:List α)(i:Int):Option α:=(uN xs.length i).bind λj=>xs[j]?
theorem ux {n:Nat}{i:Int}{j:Nat}(h:uN n i=some j):seqIndex? i n=some j/\j<n/\ -(n:Int)<=i/\i<n:=by
 unfold uN at h
 by_cases h0:0<=i
 ·rw[if_pos h0] at h
  by_cases h1:i<n
  ·rw[if_pos h1] at h;have e:i.toNat=j:=Option.some.inj h;exact⟨by rw[seqIndex_of h0 h1,e],by omega,by omega,h1⟩
  ·rw[if_neg h1] at h;cases h
 ·rw[if_neg h0] at h
  by_cases h1: -(n:Int)<=i
  ·rw[if_pos h1] at h;have e:(i+n).toNat=j:=Option.some.inj h;exact⟨by rw[seqIndex_neg (by omega) h1,e],by omega,h1,by omega⟩
  ·rw[if_neg h1] at h;cases h
theorem oC {α:Type}{xs:List α}{i:Int}{v:α}(h:oO xs i=some v): ∃j,seqIndex? i xs.length=some j/\xs[j]? =some v/\j<xs.length/\ -(xs.length:Int)<=i/\i<xs.length:=by
 unfold oO at h;cases e:uN xs.length i with
 |none=>rw[e] at h;cases h
 |some j=>
  rw[e] at h;obtain⟨h1,h2,h3,h4⟩:=ux e;exact⟨j,h1,h,h2,h3,h4⟩
def ol(b:Expr):Prop:= ∀o i,subscripted b false o i=operate [o,i] (getItem o i)
def IxR(X:Cx)(r:R2):Prop:=
 ∀(value slice:Expr) (aa:List (Addr×Obj)) (s:Shared) (σ:St) (H:Hp) (x y:V) (v u:Value) (Q:VK),Inv X aa σ H s->RelV x v->RelV y u->r x y H Q->
  subscripted slice false v u=operate [v,u] (getItem v u)->wpAny (model X.prog X.w) X.A (subscriptTail value slice v u) (EP X aa σ Q) X.xe s
def EJ(X:Cx)(id:String)(r:V->List V->Hp->VK->Prop):Prop:=
 ∀(aa:List (Addr×Obj)) (s:Shared) (σ:St) (H:Hp) (x:V) (xs:List V) (v:Value) (us:List Value) (Q:VK),Inv X aa σ H s->RelV x v->Vals xs us->r x xs H Q->
  wpAny (model X.prog X.w) X.A (call (.builtin id) (v::us)) (EP X aa σ Q) X.xe s
section
variable {X:Cx}{a b:Expr}{ta tb:TE}{pos:Pos}
theorem IxR.or {r r':R2}(h:IxR X r)(h':IxR X r'):IxR X (λx y H Q=>r x y H Q\/r' x y H Q):=by
 intro value slice aa s σ H x y v u Q I rx ry q hs;rcases q with q|q
 ·exact h value slice aa s σ H x y v u Q I rx ry q hs
 ·exact h' value slice aa s σ H x y v u Q I rx ry q hs
theorem AI {r:R2}(hr:IxR X r)(ha:PE X a ta)(hb:PE X b tb)(hs:ol b):PE X (.Subscript a b pos) (Ck r ta tb):=by
 intro aa s σ H Q I h;exact Subscript_ (BN ha hb I h λv u s2 x y H2 I2 rx ry q=>hr a b aa s2 σ H2 x y v u Q I2 rx ry q (hs _ _))
def CP(K:W.Frag):R2:=λx y H Q=> ∃p xs i v,x=.ref p/\y=.int i/\SqL K H p xs/\oO xs i=some v/\Q v H
def Cw(K:W.Frag):R2:=λx y H Q=> ∃p xs i v,x=.ref p/\y=.int i/\SqT K H p xs/\oO xs i=some v/\Q v H
def CF:R2:=λx y H Q=> ∃z i c,x=.str z/\y=.int i/\z.length<=sizeLine/\oO z.cps.toList i=some c/\Q (.str ⟨#[c]⟩) H
theorem ix_list:IxR X (CP X.K):=by
 intro value slice aa s σ H x y v u Q I rx ry h hs;obtain⟨p,xs,i,z,rfl,rfl,hq,he,q⟩:=h;cases rx;obtain⟨t,rfl⟩:=ry;obtain⟨its,r,pl,hz⟩:=I.list hq;obtain⟨j,h1,h2,h3,h4,h5⟩:=oC he;obtain⟨w,ew,rw'⟩:=r.get h2;have hl:=r.length;have hn:=kH;have fin:EP X aa σ Q w s:=⟨z,H,I,rw',q⟩
 by_cases h0:0<=i
 ·have hj:i.toNat=j:=by
   rw[seqIndex_of h0 h5] at h1;exact Option.some.inj h1
  exact item_listR pl.isList h0 (by omega) (by rw[hj];simpa using ew) fin hs
 ·have hj:(i+(its.toArray.size:Int)).toNat=j:=by
   rw[seqIndex_neg (by omega) h4] at h1;rw[List.size_toArray,<-hl];exact Option.some.inj h1
  exact subscriptTail_builtinR (x:=w) pl.isList.typeIs slot_list_getitem.lookup
   (wpAny_getItem_list_neg (Q:=λr s'=>r=w/\EP X aa σ Q r s') pl.isList (by omega) (by rw[List.size_toArray]<;>omega) (by omega) (by rw[hj];simpa using ew) ⟨rfl,fin⟩) hs
theorem ix_tup:IxR X (Cw X.K):=by
 intro value slice aa s σ H x y v u Q I rx ry h hs;obtain⟨p,xs,i,z,rfl,rfl,hq,he,q⟩:=h;cases rx;obtain⟨t,rfl⟩:=ry;obtain⟨its,r,pl,hz⟩:=I.tuple hq;obtain⟨j,h1,h2,h3,h4,h5⟩:=oC he;obtain⟨w,ew,rw'⟩:=r.get h2;have hl:=r.length;have hn:=kH;have fin:EP X aa σ Q w s:=⟨z,H,I,rw',q⟩
 exact subscriptTail_builtinR (x:=w) pl.typeIs slot_tuple_getitem.lookup
  (getItem_tuple (j:=j) (Q:=λr s'=>r=w/\EP X aa σ Q r s') pl (by omega) (by omega) (by rw[List.size_toArray,<-hl];exact h1) (by simpa using ew) ⟨rfl,fin⟩) hs
theorem AQ:IxR X CF:=by
 intro value slice aa s σ H x y v u Q I rx ry h hs;obtain⟨z,i,c,rfl,rfl,hz,he,q⟩:=h;obtain⟨t,rfl⟩:=rx;obtain⟨t',rfl⟩:=ry;obtain⟨j,h1,h2,h3,h4,h5⟩:=oC he;have hl:z.cps.toList.length=z.length:=by simp[Str.length]
 rw[hl] at h1 h4 h5;have hn:=kH
 exact tail_any (typeIs_str s z t) slot_str_getitem.lookup (getItem_str (c:=c) (by
  have e1:decide (i< -(2^63:Int))=false:=decide_eq_false (by omega);have e2:decide (i≥2^63)=false:=decide_eq_false (by omega)
  rw[e1,e2,Bool.or_false]) (by rw[h1];simpa using h2) ⟨.str ⟨#[c]⟩,H,I.tok _,⟨_,rfl⟩,q⟩) hs
def E1(K:W.Frag):R2:=λx y H Q=>CP K x y H Q\/Cw K x y H Q\/CF x y H Q
theorem aQ:IxR X (E1 X.K):=ix_list.or (ix_tup.or AQ)
theorem sM(its:List Value)(n j:Nat)(u:Value):Obj.mapSeq (·.setIfInBounds j u) {cls:=.type "list",data:=.seq its.toArray n}={cls:=.type "list",data:=.seq (its.set j u).toArray n}:=by
 simp[Obj.mapSeq]
theorem Inv.lst {aa:List (Addr×Obj)}{σ:St}{H:Hp}{s:Shared}{p:Addr}{xs:List V}(I:Inv X aa σ H s)(h:H p=some (.lst xs)):
 ∃(its:List Value) (n:Nat),Vals xs its/\s.heap.get? p=some {cls:=.type "list",data:=.seq its.toArray n}/\xs.length<=sizeLine:=by
 obtain⟨z,its,n,r,e⟩:=I.hok p _ h;exact⟨its,n,r,e,z⟩
theorem Inv.lstUpd {aa:List (Addr×Obj)}{σ:St}{H:Hp}{s:Shared}{p:Addr}{xs ys:List V}{its its':List Value}{n n':Nat}{f:Obj->Obj}(I:Inv X aa σ H s)(h:H p=some (.lst xs))
 (ho:s.heap.get? p=some {cls:=.type "list",data:=.seq its.toArray n}) (hf:f {cls:=.type "list",data:=.seq its.toArray n}={cls:=.type "list",data:=.seq its'.toArray n'}) (r:Vals ys its') (hz:ys.length<=sizeLine) (t:Nat):
 Inv X aa σ (cb H p (.lst ys)) {s with heap:=s.heap.update p f,toks:=t}:=by
 have e:(s.heap.update p f).get? p=some {cls:=.type "list",data:=.seq its'.toArray n'}:=by
  rw[Heap.get?_update_self f ho (by rw[hf]<;>rfl),hf]
 refine I.write (x:=p) (e:=p) (by rw[h];trivial) (.inl rfl) (λb u hb q=>(Heap.get?_update_other _ _ (Ne.symm hb)).trans q) ⟨_,e⟩ ?_
 exact⟨hz,its',n',r,e⟩
def CU:V->V->V->Hp->(Hp->Prop)->Prop:=λo i v H Q=> ∃p xs k j,o=.ref p/\i=.int k/\H p=some (.lst xs)/\uN xs.length k=some j/\Q (cb H p (.lst (xs.set j v)))
theorem x9:C0 X CU:=by
 intro aa s σ H o i v ov iv u Q I ro ri rv h;obtain⟨p,xs,k,j,rfl,rfl,hp,hj,q⟩:=h;cases ro;obtain⟨t,rfl⟩:=ri;obtain⟨its,n,r,ho,hz⟩:=I.lst hp;obtain⟨h1,h2,h3,h4⟩:=ux hj;have hl:=r.length;have hn:=kH;have I':Inv X aa σ (cb H p (.lst (xs.set j v))) {s with heap:=s.heap.update p (Obj.mapSeq (·.setIfInBounds j u))}:=
  I.lstUpd hp ho (sM its n j u) (r.set rv j) (by rw[List.length_set];exact hz) s.toks
 by_cases h0:0<=k
 ·have hk:k.toNat=j:=by
   rw[seqIndex_of h0 h4] at h1;exact Option.some.inj h1
  exact W.ki_setAt ho h0 (by omega) (by rw[List.size_toArray,<-hl];exact h4) (by rw[hk];exact⟨_,I',q⟩)
 ·have hk:(k+(its.toArray.size:Int)).toNat=j:=by
   rw[seqIndex_neg (by omega) h3] at h1;rw[List.size_toArray,<-hl];exact Option.some.inj h1
  exact W.ki_setBack ho (by omega) (by rw[List.size_toArray,<-hl];exact h3) (by omega) (by rw[hk];exact⟨_,I',q⟩)
theorem oq(lo hi:Option Int)(n:Nat):(sliceBounds lo hi none n).1=((HT.sIx n 0 lo:Nat):Int)/\(sliceBounds lo hi none n).2.1=((HT.sIx n n hi:Nat):Int)/\(sliceBounds lo hi none n).2.2=1:=by
 refine⟨?_,?_,rfl⟩
 ·cases lo with
  |none=>simp[sliceBounds,HT.sIx]
  |some i=>
   simp only[sliceBounds,HT.sIx,Option.getD_none,show(1:Int)>0 by decide,if_true]
   by_cases h:i<0
   ·simp only[h,if_true]<;>omega
   ·simp only[h,if_false]<;>omega
 ·cases hi with
  |none=>simp[sliceBounds,HT.sIx]
  |some i=>
   simp only[sliceBounds,HT.sIx,Option.getD_none,show(1:Int)>0 by decide,if_true]
   by_cases h:i<0
   ·simp only[h,if_true]<;>omega
   ·simp only[h,if_false]<;>omega
theorem mZ(its:List Value)(lo hi:Option Int):slicePick its.toArray lo hi none=((its.drop (HT.sIx its.length 0 lo)).take (HT.sIx its.length its.length hi-HT.sIx its.length 0 lo)).toArray:=by
 obtain⟨h1,h2,h3⟩:=oq lo hi its.toArray.size;unfold slicePick;rw[h1,h2,h3];simp only[sliceRange_one,pick_run,List.size_toArray]<;>rfl
def EA(K:W.Frag):V->Option Int->Option Int->Hp->VK->Prop:=λx lo hi H Q=> ∃a xs,x=.ref a/\SqL K H a xs/\ ∀p,H p=none->Q (.ref p) (cb H p (.lst (vp xs lo hi)))
theorem yW:E5 X (EA X.K):=by
 intro aa s σ H x v vl vu lo hi sl Q I rx hs pl pu h;obtain⟨a,xs,rfl,hx,q⟩:=h;cases rx;obtain⟨its,r,ht,hz⟩:=I.list hx;have hlen:=r.length;refine⟨"list",_,slot_list_getitem.lookup,ht.isList.typeIs,?_⟩;refine wpAny_getItem_list_slice ht.isList hs pl pu .none (by simp) ?_ (by rw[List.size_toArray]<;>omega)
 rw[mZ,<-hlen];refine⟨.ref s.heap.objs.size,_,I.laid (t':=s.toks) (o:=.lst (vp xs lo hi)) (λb ob q=>Heap.get?_push_of_some _ q) (Nat.le_refl _) ?_,rfl,q _ (I.hok.fresh (Nat.le_refl _))⟩;exact⟨Nat.le_trans (qh xs lo hi) hz,_,0,(r.drop (HT.sIx xs.length 0 lo)).take (HT.sIx xs.length xs.length hi-HT.sIx xs.length 0 lo),Heap.get?_push_size _ rfl⟩
theorem h8:fO X (.builtin "len") (λxs H Q=> ∃p ys,xs=[.ref p]/\(SqL X.K H p ys\/SqT X.K H p ys)/\Q (.int ys.length) H):=by
 intro aa s σ H xs us Q I r h;obtain⟨p,ys,rfl,hq,q⟩:=h;obtain⟨u,rfl,rx⟩:=iS r;cases rx;have hn:=kH;rcases hq with hq|hq
 ·obtain⟨its,r',pl,hz⟩:=I.list hq;have hlen:=r'.length;exact Calls.call_len_list pl.isList (by simp only[List.size_toArray]<;>omega) ⟨.int ys.length,H,I.tok _,⟨s.toks+1,by rw[List.size_toArray,hlen]⟩,q⟩
 ·obtain⟨its,r',pl,hz⟩:=I.tuple hq;have hlen:=r'.length;exact len_tuple pl (by simp only[List.size_toArray]<;>omega) ⟨.int ys.length,H,I.tok _,⟨s.toks+1,by rw[List.size_toArray,hlen]⟩,q⟩
theorem ig:fO X (.type "list") (λxs H Q=> ∃p ys,xs=[.ref p]/\(SqL X.K H p ys\/SqT X.K H p ys)/\ ∀l,H l=none->Q (.ref l) (cb H l (.lst ys))):=by
 intro aa s σ H xs us Q I r h;obtain⟨p,ys,rfl,hq,q⟩:=h;obtain⟨u,rfl,rx⟩:=iS r;cases rx;have fin: ∀(its:List Value),Vals ys its->ys.length<=sizeLine-> ∀(h':Heap) (c':Nat),(∀b o',s.heap.get? b=some o'->h'.get? b=some o')->
  h'.get? s.heap.objs.size=some {cls:=.type "list",dict:=none,data:=.seq its.toArray c',slots:= #[]}->EP X aa σ Q (.ref s.heap.objs.size) {s with heap:=h'}:=λits r' hz h' c' kp e=>
  ⟨.ref s.heap.objs.size,_,I.laid (t':=s.toks) kp (Nat.le_refl _) (show ObjOk X.prog X.w _ h' _ (.lst ys) from⟨hz,its,c',r',e⟩),rfl,q _ (I.hok.fresh (Nat.le_refl _))⟩
 rcases hq with hq|hq
 ·obtain⟨its,r',pl,hz⟩:=I.list hq;have hlen:=r'.length;obtain⟨o,ho,hc,n,hd⟩:=pl.isList;exact call_list_seq p (.inl rfl) ho hc hd (λh' c' kp e=>fin its r' hz h' c' kp e) (by simp only[List.size_toArray]<;>omega)
 ·obtain⟨its,r',pl,hz⟩:=I.tuple hq;have hlen:=r'.length;obtain⟨o,ho,hc,n,hd⟩:=pl;exact call_list_seq p (.inr rfl) ho hc hd (λh' c' kp e=>fin its r' hz h' c' kp e) (by simp only[List.size_toArray]<;>omega)
def E4(K:W.Frag)(T:String)(x:V)(H:Hp):Prop:=match x with
 | .str _=>T="str"
 | .int _=>T="int"
 | .ref p=>(T="list"/\ ∃xs,SqL K H p xs)\/(T="tuple"/\ ∃xs,SqT K H p xs)\/
    (T="dict"/\((∃kvs,H p=some (.dK kvs))\/ ∃kvs,H p=some (.dT kvs)))\/(T="set"/\ ∃S n,H p=some (.set S n))\/(T="set"/\ ∃xs,H p=some (.tst xs))
 |_=>False
theorem BG {aa:List (Addr×Obj)}{σ:St}{H:Hp}{s:Shared}{T:String}{x:V}{v:Value}(I:Inv X aa σ H s)(r:RelV x v)(ty:E4 X.K T x H):
 s.TypeIs v T/\ ∀a,v=.ref a-> ∃ob,s.heap.get? a=some ob/\ob.dict=none:=by
 cases x with
 |str z=>
  obtain⟨t,rfl⟩:=r;cases (show T="str" from ty);exact⟨typeIs_str s z t,λ_ e=>nomatch e⟩
 |int i=>
  obtain⟨t,rfl⟩:=r;cases (show T="int" from ty);exact⟨typeIs_int s i t,λ_ e=>nomatch e⟩
 |ref p=>
  cases r;rcases ty with⟨rfl,xs,hq⟩|⟨rfl,xs,hq⟩|⟨rfl,hk⟩|⟨rfl,S,n,hk⟩|⟨rfl,xs,hk⟩
  ·obtain⟨its,_,pl,_⟩:=I.list hq;refine⟨pl.isList.typeIs,λa e=>?_⟩;cases e;obtain⟨o,n,e,c,hd,_⟩:=pl;exact⟨o,e,hd⟩
  ·obtain⟨⟨ob,ho,hc⟩,o2,h2,hd⟩:=I.tupleN hq;refine⟨⟨ob,ho,hc⟩,λa e=>?_⟩;cases e;exact⟨o2,h2,hd⟩
  ·have z: ∃o,s.heap.get? p=some o/\o.ExactDict:=by
    rcases hk with⟨kvs,hk⟩|⟨kvs,hk⟩
    ·obtain⟨_,_,_,_,o,_,_,e,ex,_⟩:=I.hok p _ hk;exact⟨o,e,ex⟩
    ·obtain⟨_,_,_,_,o,_,_,e,ex,_⟩:=I.hok p _ hk;exact⟨o,e,ex⟩
   obtain⟨o,e,ex⟩:=z;refine⟨⟨o,e,ex.1⟩,λa e2=>?_⟩;cases e2;exact⟨o,e,ex.2.1⟩
  ·obtain⟨o,_,_,_,e,ex,_⟩:=I.hok p _ hk;refine⟨⟨o,e,ex.1⟩,λa e2=>?_⟩;cases e2;exact⟨o,e,ex.2.1⟩
  ·obtain⟨o,_,_,_,e,ex⟩:=I.hok p _ hk;refine⟨⟨o,e,ex.ex.1⟩,λa e2=>?_⟩;cases e2;exact⟨o,e,ex.ex.2.1⟩
 |_=>exact False.elim ty
def Fl(K:W.Frag)(T:String)(r:V->List V->Hp->VK->Prop)(to:TE)(t:TA):TE:=λσ H Q=>to σ H λx H1=>E4 K T x H1/\t σ H1 λxs H2=>r x xs H2 Q
variable {o e:Expr}{es:List Expr}{to:TE}{t:TA}{name:Str}{apos cpos:Pos}{T id:String}{r:V->List V->Hp->VK->Prop}
theorem uw(pa:PlainAttrs T)(slot:Slot T name id)(hty:typeOf (.builtin id)=pure (.type "method_descriptor"))(hm:EJ X id r)(ho:PE X o to)(ha:PA X (e::es) t)
 (hbase:attributeBase o name X.env (eval o X.env)=eval o X.env:=by rfl)
 (hfew:((backTo cpos (starEach (e::es) X.env)).all (λx=> !x.1)&&(backToKw cpos (keywordEach [] X.env)).all (λx=>x.1.isSome)
   &&decide ((e::es).length+([]:List Keyword).length+(if([]:List Keyword).isEmpty then 0 else 1)<30))=true:=by rfl)
 (hline:(apos.endLine==cpos.line)=true:=by rfl) (hs:starEach (e::es) X.env=(false,eval e X.env)::starEach es X.env:=by rfl) (hplain:(backTo cpos (starEach es X.env)).any (·.1)=false:=by rfl):
 PE X (.Call (.Attribute o name apos) (e::es) [] cpos) (Fl X.K T r to t):=by
 intro aa s σ H Q I h;refine wpAny_Call_method_late hbase hfew hline rfl (cq (ho aa s σ H _ I h) λv s1 hq_=>?_);obtain⟨x,H1,I1,r1,ty,q1⟩:=hq_;obtain⟨h1,h2⟩:=BG I1 r1 ty;refine⟨T,id,pa,slot,hty,h1,h2,?_⟩;have hA:=ha cpos aa s1 σ H1 _ I1 q1;rw[hs] at hA⊢;refine Calls.callWith_builtin (by show(false||(backTo cpos (starEach es X.env)).any (·.1))=false;rw[hplain]<;>rfl) (Calls.evalArgs_plain ?_);exact cq hA λus s2 ⟨vs,H2,I2,r2,q2⟩=>hm aa s2 σ H2 x vs v us Q I2 r1 r2 q2
end
def EH(X:Cx)(id:String)(r:V->List V->Hp->VK->Prop):Prop:=
 ∀(aa:List (Addr×Obj)) (s:Shared) (σ:St) (H:Hp) (x:V) (xs:List V) (v:Value) (us:List Value) (Q:VK),Inv X aa σ H s->RelV x v->Vals xs us->r x xs H Q->
  wpAny (model X.prog X.w) X.A (call (.builtin id) (v::us)) (EP X aa σ Q) X.xe s
theorem Vals.one: ∀ {x:V} {us:List Value},Vals [x] us-> ∃u,us=[u]/\RelV x u
 |_,_,.cons r .nil=>⟨_,rfl,r⟩
section
variable {X:Cx}{aa:List (Addr×Obj)}{σ:St}{H:Hp}{s:Shared}{l b:Addr}{xs ys zs:List V}
theorem Inv.lset {its its':List Value}{n:Nat}{f:Array Value->Array Value}{t':Nat}(I:Inv X aa σ H s)(hH:H l=some (.lst xs))
 (e:s.heap.get? l=some {cls:=.type "list",data:=.seq its.toArray n}) (hf:f its.toArray=its'.toArray) (hv:Vals ys its') (hz:ys.length<=sizeLine):
 Inv X aa σ (cb H l (.lst ys)) {s with heap:=s.heap.update l (Obj.mapSeq f),toks:=t'}:=by
 have q:=PySem.IsL.update e f;rw[hf] at q;refine I.write (x:=l) (e:=l) (by rw[hH];exact trivial) (.inl rfl) (λb' u hb hu=>(Heap.get?_update_other s.heap (Obj.mapSeq f) (Ne.symm hb)).trans hu) ⟨_,q⟩ ?_
 exact⟨hz,its',_,hv,q⟩
theorem Inv.lnew {its:List Value}{t':Nat}(I:Inv X aa σ H s)(hv:Vals ys its)(hz:ys.length<=sizeLine):
 Inv X aa σ (cb H s.heap.objs.size (.lst ys)) {s with heap:=s.heap.push {cls:=.type "list",data:=.seq its.toArray},toks:=t'}:=
 I.laid (λ_ _ q=>Heap.get?_push_of_some _ q) (Nat.le_refl _) ⟨hz,its,0,hv,Heap.get?_push_size _ rfl⟩
theorem Inv.fresh(I:Inv X aa σ H s):H s.heap.objs.size=none:=I.hok.fresh (Nat.le_refl _)
theorem Inv.lstM(I:Inv X aa σ H s)(hH:H l=some (.lst xs)):xs.length<=sizeLine/\ ∃(its:List Value) (n:Nat),Vals xs its/\xs.length=its.length/\s.heap.get? l=some {cls:=.type "list",data:=.seq its.toArray n}:=by
 obtain⟨z,its,n,r,e⟩:=I.hok l _ hH;exact⟨z,its,n,r,r.length,e⟩
theorem xw {n:Nat}(h:n<=sizeLine):Builtin.List.listTooLong n=false:=by
 unfold Builtin.List.listTooLong;exact decide_eq_false (by omega)
end
section
variable {X:Cx}
def tS:V->List V->Hp->VK->Prop:=λx vs H Q=> ∃l xs y,x=.ref l/\vs=[y]/\H l=some (.lst xs)/\xs.length<sizeLine/\Q .non (cb H l (.lst (xs++[y])))
theorem fH:EH X "list.append" tS:=by
 intro aa s σ H x vs v us Q I rx rv h;obtain⟨l,xs,y,rfl,rfl,hH,hz,q⟩:=h;cases rx;obtain⟨u,rfl,ru⟩:=rv.one;obtain⟨z,its,n,r,hl,e⟩:=I.lstM hH;refine call_meets F.slot_list_append ⟨_,e,rfl⟩ F.entry_list_append (F.args_list_append_2 _ _) (PySem.list_append l its.toArray n u (by rw[List.size_toArray];omega)) ⟨e,?_⟩;refine⟨.non,_,I.lset (its':=its++[u]) hH e (by simp) (r.append (.cons ru .nil)) ?_,rfl,q⟩;rw[List.length_append,List.length_singleton];omega
def Aj:V->List V->Hp->VK->Prop:=λx vs H Q=> ∃l b xs zs,x=.ref l/\vs=[.ref b]/\H l=some (.lst xs)/\H b=some (.lst zs)/\xs.length+zs.length<=sizeLine/\Q .non (cb H l (.lst (xs++zs)))
theorem vD:EH X "list.extend" Aj:=by
 intro aa s σ H x vs v us Q I rx rv h;obtain⟨l,b,xs,zs,rfl,rfl,hH,hB,hz,q⟩:=h;cases rx;obtain⟨u,rfl,ru⟩:=rv.one;cases ru;obtain⟨z,its,n,r,hl,e⟩:=I.lstM hH;obtain⟨z2,its2,n2,r2,hl2,e2⟩:=I.lstM hB;have hsz:its.toArray.size+its2.toArray.size<=sizeLine:=by rw[List.size_toArray,List.size_toArray];omega
 have hlong: ¬(!its.toArray.isEmpty&&Builtin.List.listTooLong (its.toArray.size+its2.toArray.size))=true:=by
  rw[xw hsz,Bool.and_false];exact Bool.false_ne_true
 refine call_meets F.slot_list_extend ⟨_,e,rfl⟩ F.entry_list_extend (F.args_list_extend_2 _ _)
  (AutoSeq1.list_extend_list_list_0 l its.toArray n b its2.toArray n2 hlong (by rw[List.size_toArray];omega) (by omega)) ⟨e,e2,?_⟩
 refine⟨.non,_,I.lset (its':=its++its2) hH e (by simp) (r.append r2) ?_,rfl,q⟩;rw[List.length_append];omega
end
end L2
namespace Att
open PySem PySem.W PySem.Calls PyProof.Rows
theorem li {P:Params}{h:Heap}: ∀(ns:List Int) (vs:List Value),WellAll P h vs (ns.map WData.int)->IntsAre vs ns:=by
 intro ns
 induction ns with
 |nil=>
  intro vs w;rw[List.map_nil] at w;cases w;exact .nil
 |cons n ns ih=>
  intro vs w;rw[List.map_cons] at w;cases w with
  |cons a b=>
   cases a;exact .cons _ _ (ih _ b)
theorem vQ {l:OpenLaw}{n:Nat}(hn:l.most=some n){P:Params}{h:Heap}{args:List WData}{vals:List Value}
 (hpre:l.row.toRowW.claim.pre args=true) (hwl:WellAll P h vals args):
 ∃a vs ns,vals=[Value.ref a]/\args=[WData.list (ns.map WData.int)]/\h.get? a=some {cls:=.type "list",data:=.seq vs.toArray}/\IntsAre vs ns/\ns.length<=n:=by
 have hsh:WShape.hasAll [] args [.list .int]=true:=(pre_splitW hpre).1;have hc:l.pre.holds [] {args:=args}=true:=(pre_splitW hpre).2;obtain⟨d,r,rfl,h1,h2⟩:=hasAllW_cons hsh;obtain rfl:=hasAllW_nil h2;obtain⟨xs,rfl,h3⟩:=hasW_list h1;obtain⟨ns,rfl⟩:=items_int h3;have hlen:ns.length<=n:=by
  unfold OpenLaw.pre at hc;have h4:(WTm.not (.lt (.lit (.int (n:Int))) (.len (.arg 0)))).holds [] {args:=[.list (ns.map .int)]}=true:=by
   have h4:=(holds_andW hc).1;rw[hn] at h4;exact h4
  have h5:=condW_of h4 (w_not (w_lt w_lit (w_len_list (w_arg rfl))));rw[List.length_map] at h5;refine Nat.le_of_not_lt λq=>?_
  have q':(n:Int)<((ns.length:Nat):Int):=by omega
  first
   |(rw[decide_eq_true q'] at h5;exact absurd h5 (by decide))
   |(simp at h5;omega)
 cases hwl with
 |cons w1 w2=>
  cases w2;cases w1 with
  |list ho hall=>exact⟨_,_,ns,rfl,rfl,ho,li ns _ hall,hlen⟩
theorem u5(l:OpenLaw)(args:List WData):l.row.toRowW.claim.post args (.bool true) args=true:=
 postW_of (r:=l.row.toRowW) (X:=(true==true))
  (show WShape.has [] (.bool true) .bool=true by first|rfl|decide|simp[WShape.has,WShape.arms,WShape.armsAll])
  (show(WTm.eq .res (.lit (.bool true))).value [] {args:=args,res:=some (.bool true),after:=args}=some (.bool (true==true)) from w_eq_bool (w_res rfl) w_lit) rfl
theorem attach_call {l:OpenLaw}{n:Nat}{q:Program}{loose:List Str}{XP:(Str->Option Value)->Heap->Prop}{YP:World->Heap->Prop}{d:DefRec}
 (hn:l.most=some n) (hdf:d.params.defaults=[])
 (call: ∀(w:World) (s₀ s₁:Shared) (mg mb:Str->Option Value) (fa:Addr) (o:Obj) (pm cd doc:Value) (a:Addr) (vs:List Value) (ns:List Int),
   Ground q loose [] XP w s₀ mg mb s₁.heap->YP w s₁.heap->
   s₁.heap.get? fa=some o->o.data=.func (docDef d.name d.params d.body d.scope pm cd doc)->s₁.heap.CodeRec cd d.name->mg d.name=some (.ref fa)->
   s₁.heap.get? a=some {cls:=.type "list",data:=.seq vs.toArray}->IntsAre vs ns->ns.length<=n->s₁.gens= #[]->
   codeAny (model l.prog w) callerA (.call (.ref fa) ⟨[.ref a],[]⟩) (λr s'=>r=.ok (.ret (.bool true))/\OldK s₁.heap s'.heap/\s'.os=s₁.os/\AllBare s'.gens) s₁):
 WalkO q loose XP YP l.row.toRowW d [] (λf vs=>PySem.call f vs):=by
 intro w s₀ s₁ mg mb G Y fa o pm cd doc dV kV ho hd hcd hD hmg hg args vals as hpre hlay hrd hwl hlo;obtain rfl:dV=.none:=Dflts.none hD hdf;obtain rfl:kV=.none:=Dflts.noKw hD;obtain⟨a,vs,ns,rfl,rfl,hobj,hints,hlen⟩:=vQ hn hpre hwl;refine enter_call (codeAny_mono (call w s₀ s₁ mg mb fa o pm cd doc a vs ns G Y ho (fd_plain hd) hcd hmg hobj hints hlen hg) λr s' hq=>?_);obtain⟨rfl,h2,h3,h4⟩:=hq;exact⟨.inl ⟨.bool true,.bool true,[],rfl,λ_=>rfl,.bool true,u5 l _,λ_=>⟨List.Pairwise.nil,λ_ hm=>(nomatch hm)⟩⟩,h2,h3,h4⟩
end Att
namespace L2
open PySem PySem.Spec PyProof.Rows
theorem nu: ∀ {vs:List Value} {ns:List Int},IntsAre vs ns->Vals (ns.map V.int) vs
 |_,_,.nil=>.nil
 |_,_,.cons n t h=>.cons ⟨t,rfl⟩ (nu h)
def Bw(H:Hp):Prop:= ∀b,H b=none\/ ∃o xs,H b=some (.frz o (.lst xs))
theorem wy {P:Program}{w:World}{K:W.Frag}{mg mb:Str->Option Value}{CX:pH}{k:Nat}{fa a:Addr}{fd:FuncData}{x:Str}{sp:Sp}{s₁:Shared}{vs:List Value}{ns:List Int}
 (KX:K.In s₁.heap) (hns:s₁.heap.Ns mainGlobals mg) (hb:s₁.heap.Ns builtinsNs mb) (hbb: ∀x:Str,x≠"__name__"->mb x=bootBuiltins x) (hlim:s₁.heap.NoLimit) (hg:s₁.gens= #[])
 (ha:s₁.heap.get? a=some {cls:=.type "list",data:=.seq vs.toArray}) (hi:IntsAre vs ns) (hl:ns.length<=sizeLine) (hr:Room k callerA)
 (F: ∀base:Heap,K.In base->base.Ns mainGlobals mg->FnOk P w K mg base CX k fa fd [x] sp) (hbind: ∀(s:Shared) (u:Value),BindsTo s fd ⟨[u],[]⟩ [(x,u)])
 (hsp: ∀H:Hp,Bw H->SqL K H a (ns.map V.int)->sp [.ref a] H (λv _=>v=.bl true) λ_ _ _=>False)
 (hCX: ∀H e s',CX [] H s₁ (λ_ _ _=>False) e s'->False):
 codeAny (model P w) callerA (.call (.ref fa) ⟨[.ref a],[]⟩) (λr s'=>r=.ok (.ret (.bool true))/\OldK s₁.heap s'.heap/\s'.os=s₁.os/\AllBare s'.gens) s₁:=by
 have rv:=nu hi;have lenV:=hi.length;have core: ∀H:Hp,Bw H->SqL K H a (ns.map V.int)->HOk P w H s₁.heap->(∀b,H b≠none->b=a)->(H a≠none->K.lookup a=none)->
  codeAny (model P w) callerA (.call (.ref fa) ⟨[.ref a],[]⟩) (λr s'=>r=.ok (.ret (.bool true))/\OldK s₁.heap s'.heap/\s'.os=s₁.os/\AllBare s'.gens) s₁:=by
  intro H hO hS hok hA hK;have base_of: ∀ {b:Addr} {o:Obj},s₁.heap.get? b=some o->H b=none->(pF s₁.heap H).get? b=some o:=λe n=>yq e n
  have noA: ∀ {b:Addr} {o:Obj} {es:Array DictEntry} {ep:Nat},s₁.heap.get? b=some o->o.data=.dict es ep->H b=none:=λ{b o es ep} e d=>by
   cases q:H b with
   |none=>rfl
   |some u=>
    have e':b=a:=hA b (by rw[q];simp);subst e';rw[ha] at e;cases e;have d':Data.seq vs.toArray _=Data.dict es ep:=d;cases d'
  have nsK: ∀ {b:Addr} {m:Str->Option Value},s₁.heap.Ns b m->(pF s₁.heap H).Ns b m:=λ{b m} ⟨o,es,ep,e,d,r⟩=>⟨o,es,ep,base_of e (noA e d),d,r⟩
  have hKb:K.In (pF s₁.heap H):=λb o e=>base_of (KX b o e) (by
   cases q:H b with
   |none=>rfl
   |some u=>
    have e':b=a:=hA b (by rw[q];simp)
    subst e';rw[hK (by rw[q];simp)] at e;cases e)
  have hM:Mod K mg (pF s₁.heap H):=⟨hKb,nsK hns,⟨mb,nsK hb,hbb⟩,let⟨mc,h1,h2⟩:=hlim;⟨mc,nsK h1,h2⟩⟩
  have e0:Env0 P w K mg (pF s₁.heap H) callerA [] s₁ H:=⟨rfl,hM,λb o e=>Am e,Nat.le_of_eq (uS _ _),trivial,λb hb=>absurd (show b∈([]:List Addr) from hb) (by simp),hok,.of_eq hg⟩
  refine codeAny_mono ((F _ hKb (nsK hns)).run callerA [] s₁ H ⟨[.ref a],[]⟩ [.ref a] [.ref a] _ _ hr e0 (hbind s₁ (.ref a)) (.cons rfl .nil) (hsp H hO hS)) λr s' h=>?_
  cases r with
  |error e=>exact(hCX H e s' h).elim
  |ok fl=>
   cases fl with
   |next=>exact False.elim h
   |brk=>exact False.elim h
   |cont=>exact False.elim h
   |ret u=>
    obtain⟨v,H',os,bare,un,hok',r',q⟩:=h;have q':v=.bl true:=q;subst q';obtain rfl:u=Value.bool true:=r';refine⟨rfl,OldK.of_keep λb o e=>?_,os,bare⟩;cases q:H b with
    |none=>exact un.keep b o e q (by intro z;exact absurd (show b∈([]:List Addr) from z) (by simp)) (by simp)
    |some u=>
     rcases hO b with z|⟨ob,xs,z⟩
     ·rw[q] at z;cases z
     ·have z2:=un.frzs b ob _ z;obtain⟨e1,_⟩:=hok b _ z;obtain⟨e2,_⟩:=hok' b _ z2;rw[e] at e1;cases e1;exact e2
 cases hk:K.lookup a with
 |some o=>
  have e:=KX a o hk;rw[ha] at e;cases e;refine core (λ_=>none) (λ_=>.inl rfl) (.inr ⟨_,vs.toArray,_,hk,rfl,rfl,rfl,by rw[List.size_toArray,lenV];exact hl,by simpa using rv⟩) (λb u z=>by have z':(none:Option HO)=some u:=z;cases z') (λb z=>absurd rfl z) λz=>absurd rfl z
 |none=>
  refine core (λb=>if b=a then some (.frz {cls:=.type "list",data:=.seq vs.toArray} (.lst (ns.map V.int))) else none) (λb=>?_) (.inl (.inr ⟨{cls:=.type "list",data:=.seq vs.toArray},if_pos rfl⟩)) (λb u z=>?_) (λb z=>?_) λ_=>hk
  ·by_cases hb:b=a
   ·exact .inr ⟨_,_,if_pos hb⟩
   ·exact .inl (if_neg hb)
  ·by_cases hb:b=a
   ·have z':=(if_pos hb).symm.trans z;cases z';subst hb;exact⟨ha,by rw[List.length_map];exact hl,vs,_,rv,ha⟩
   ·have z':=(if_neg hb).symm.trans z;cases z'
  ·by_cases hb:b=a
   ·exact hb
   ·exact absurd (if_neg hb) z
theorem walk_of {l:W.OpenLaw}{n k:Nat}{q:Program}{loose:List Str}{XP:(Str->Option Value)->Heap->Prop}{YP:World->Heap->Prop}{d:DefRec}{K:Params->W.Frag}{CX:World->pH}{sp:World->Sp}{x:Str}
 (hn:l.most=some n) (hn2:n<=sizeLine) (hdf:d.params.defaults=[]) (hr:Room k callerA)
 (hY: ∀(w:World) (h:Heap),YP w h->(K w.params).In h)
 (F: ∀(w:World) (mg:Str->Option Value) (fa:Addr) (h:Heap),(K w.params).In h->h.Ns mainGlobals mg->mg d.name=some (.ref fa)->
   ∃fd:FuncData,(∀(s:Shared) (u:Value),BindsTo s fd ⟨[u],[]⟩ [(x,u)])/\
    ∀base:Heap,(K w.params).In base->base.Ns mainGlobals mg->FnOk l.prog w (K w.params) mg base (CX w) k fa fd [x] (sp w))
 (hsp: ∀(w:World) (H:Hp) (a:Addr) (ns:List Int),ns.length<=n->Bw H->SqL (K w.params) H a (ns.map V.int)->sp w [.ref a] H (λv _=>v=.bl true) λ_ _ _=>False)
 (hCX: ∀(w:World) (H:Hp) (s:Shared) (e:Value) (s':Shared),CX w [] H s (λ_ _ _=>False) e s'->False):
 W.WalkO q loose XP YP l.row.toRowW d [] (λf vs=>PySem.call f vs):=by
 refine Att.attach_call hn hdf λw s₀ s₁ mg mb fa o pm cd doc a vs ns G Y ho hd hcd hmg hobj hints hlen hg=>?_
 have KX:=hY w _ Y;obtain⟨fd,hb,hF⟩:=F w mg fa _ KX G.T.g hmg;exact wy KX G.T.g G.T.b G.T.builtins G.T.nolimit hg hobj hints (Nat.le_trans hlen hn2) hr hF hb (λH hO hS=>hsp w H a ns hlen hO hS) λH e s'=>hCX w H s₁ e s'
def bd(s:Stmt):Arguments:=match s with
 | .FunctionDef _ a _ _ _ _ _ _ _ _=>a
 |_=>{posonlyargs:=[],args:=[],vararg:=none,kwonlyargs:=[],kw_defaults:=[],kwarg:=none,defaults:=[]}
def aR(s:Stmt):List Stmt:=match s with
 | .FunctionDef _ _ b _ _ _ _ _ _ _=>b
 |_=>[]
def au(s:Stmt):Scope:=match s with
 | .FunctionDef _ _ _ _ _ _ sc _ _ _=>sc
 |_=>{kind:=.function,names:=[],isGenerator:=false,isCoroutine:=false}
abbrev nU:pH:=λ_ _ _ _ _ _=>False
abbrev E0:XK:=λ_ _ _=>False
theorem pU {X:Cx}:sh nU X E0:=λ_ _ _ _ _ _ _ h=>h.elim
structure Fun(K:W.Frag)(x qual:Str)(st:Stmt)(f:Addr)(fd:FuncData):Prop where
 ex: ∃(oc:Value) (od:Option Addr) (kV doc pm:Value) (an:Option Addr) (cdv ct:Value) (osl:Array (Option Value)),
  fd=W.fnOf x qual (bd st) (aR st) (au st) .none kV doc pm an cdv ct/\K.lookup f=some ⟨oc,od,.func fd,osl⟩/\W.codeIn K cdv qual=true
 kp:W.keepIn K (.ref f)=true
section
variable {P:Program}{w:World}{K:W.Frag}{mg:Str->Option Value}{base:Heap}
theorem Fun.ok {x qual:Str}{st:Stmt}{f:Addr}{fd:FuncData}{N ps:List Str}{k:Nat}{sp:Sp}(F:Fun K x qual st f fd)(S:FnScope N ps (au st))(len: ∀vs H Q E,sp vs H Q E->vs.length=ps.length)
 (hbody: ∀(cdv:Value) (A:Around) (outer:List Env) (s:Shared) (H:Hp) (vs:List V) (Q:VK) (E:XK),Room k (A.deeper (envOfC qual (au st) s.heap.objs.size f cdv))->sp vs H Q E->
   ∃t,PSs (kQ nU P w K mg base N qual (au st) f cdv A outer s H E).nox (aR st) t/\t {nx:=λ_ H'=>Q .non H',rt:=Q} (dh N vs) H):FnOk P w K mg base nU (k+1) f fd ps sp:=by
 obtain⟨oc,od,kV,doc,pm,an,cdv,ct,osl,rfl,lk,hcd⟩:=F.ex;refine As lk hcd S len λA outer s H vs Q E hr hsp=>?_
 obtain⟨t,h,q⟩:=hbody cdv A outer s H vs Q E hr hsp;exact⟨t,h.nox,q⟩
theorem Fun.binds {x qual:Str}{st:Stmt}{f:Addr}{fd:FuncData}{ps:List Str}(F:Fun K x qual st f fd)
 (h: ∀(kV doc pm:Value) (an:Option Addr) (cdv ct:Value) (us:List Value),us.length=ps.length->bindArgs (W.fnOf x qual (bd st) (aR st) (au st) .none kV doc pm an cdv ct) ⟨us,[]⟩=pure (ps.zip us)):Binds K fd ps []:=by
 obtain⟨oc,od,kV,doc,pm,an,cdv,ct,osl,rfl,lk,hcd⟩:=F.ex;exact .all (h kV doc pm an cdv ct)
theorem cF {x qual:Str}{st:Stmt}{f:Addr}{oc:Value}{od an:Option Addr}{osl:Array (Option Value)}{kV doc pm cdv ct:Value}(l:K.lookup f=some ⟨oc,od,.func (W.fnOf x qual (bd st) (aR st) (au st) .none kV doc pm an cdv ct),osl⟩)
 (c:W.codeIn K cdv qual=true) (k:W.keepIn K (.ref f)=true):Fun K x qual st f (W.fnOf x qual (bd st) (aR st) (au st) .none kV doc pm an cdv ct):=⟨⟨oc,od,kV,doc,pm,an,cdv,ct,osl,rfl,l,c⟩,k⟩
end
theorem il {A:Around}{k:Nat}(hr:Room k A):A.units+1<cLine:=Nat.lt_of_le_of_lt (Nat.add_le_add_left (by decide:1<=64) _) hr.units
theorem kj {n:Nat}(h:n<=1000):n<sizeLine:=Nat.lt_of_le_of_lt h (by decide)
section
variable {X:Cx}
theorem pv(i:Nat){x:Str}{pos:Pos}(hN:X.N[i]? =some x:=by rfl)(hv:nB X.env.scope x:=by first|exact Or.inl rfl|exact Or.inr (Or.inl rfl)|exact Or.inr (Or.inr rfl))(hd:(x==("__debug__":Str))=false:=by decide)
 (hcd:(x==("__classdict__":Str))=false:=by decide):PE X (.Name x pos) (Dj i):=BY hN hv hd hcd
end
theorem sQ {A B:Prop}(h:B):if false=true then A else B:=by
 rw[if_neg Bool.false_ne_true];exact h
theorem ss {A B:Prop}(h:A):if true=true then A else B:=by
 rw[if_pos rfl];exact h
def Same(H H':Hp):Prop:= ∀b o,H b=some o->H' b=some o
theorem Same.refl(H:Hp):Same H H:=λ_ _ h=>h
theorem Same.trans {H H1 H2:Hp}(a:Same H H1)(b:Same H1 H2):Same H H2:=λc o h=>b c o (a c o h)
theorem Same.free {H H':Hp}(e:Same H H'){l:Addr}(h:H' l=Option.none):H l=Option.none:=by
 cases q:H l with
 |none=>rfl
 |some o=>
  rw[e l o q] at h;cases h
theorem Same.seq {K:W.Frag}{H H':Hp}{a:Addr}{xs:List V}(e:Same H H')(h:SqL K H a xs):SqL K H' a xs:=by
 rcases h with(h|⟨o,h⟩)|h
 ·exact .inl (.inl (e _ _ h))
 ·exact .inl (.inr ⟨o,e _ _ h⟩)
 ·exact .inr h
inductive D where
 |non|bl (b:Bool)|int (i:Int)|str (x:Str)|tup (ds:List D)|lst (ds:List D)
 |scr (ds:List D)
def SqR(K:W.Frag)(H:Hp)(a:Addr)(xs:List V):Prop:=
 (∃o,H a=some (.frz o (.lst xs)))\/
   ∃(o:Obj) (its:Array Value) (n:Nat),K.lookup a=some o/\o.cls=.type "list"/\o.dict=none/\o.data=.seq its n/\its.size<=sizeLine/\Vals xs its.toList
theorem SqR.seq {K:W.Frag}{H:Hp}{a:Addr}{xs:List V}(h:SqR K H a xs):SqL K H a xs:=h.elim (λh=>.inl (.inr h)) .inr
theorem Same.seqR {K:W.Frag}{H H':Hp}{a:Addr}{xs:List V}(e:Same H H')(h:SqR K H a xs):SqR K H' a xs:=h.elim (λ⟨o,h⟩=>.inl ⟨o,e _ _ h⟩) .inr
mutual
inductive Rep (K:W.Frag) (F:Hp):V->D->Prop
 |non:Rep K F .non .non
 |bl {b:Bool}:Rep K F (.bl b) (.bl b)
 |int {i:Int}:Rep K F (.int i) (.int i)
 |str {x:Str}:Rep K F (.str x) (.str x)
 |tup {a:Addr} {xs:List V} {ds:List D}:SqT K F a xs->Reps K F xs ds->Rep K F (.ref a) (.tup ds)
 |lst {a:Addr} {xs:List V} {ds:List D}:F a=some (.lst xs)->Reps K F xs ds->Rep K F (.ref a) (.lst ds)
 |scr {a:Addr} {xs:List V} {ds:List D}:SqR K F a xs->Reps K F xs ds->Rep K F (.ref a) (.scr ds)
inductive Reps (K:W.Frag) (F:Hp):List V->List D->Prop
 |nil:Reps K F [] []
 |cons {x:V} {d:D} {xs:List V} {ds:List D}:Rep K F x d->Reps K F xs ds->Reps K F (x::xs) (d::ds)
end
theorem Same.seqT {K:W.Frag}{H H':Hp}{a:Addr}{xs:List V}(e:Same H H')(h:SqT K H a xs):SqT K H' a xs:=by
 rcases h with(h|⟨o,h⟩)|h
 ·exact .inl (.inl (e _ _ h))
 ·exact .inl (.inr ⟨o,e _ _ h⟩)
 ·exact .inr h
mutual
theorem Rep.mono {K:W.Frag}{F G:Hp}(s:Same F G): ∀ {v:V} {d:D},Rep K F v d->Rep K G v d
 |_,_,.non=>.non
 |_,_,.bl=>.bl
 |_,_,.int=>.int
 |_,_,.str=>.str
 |_,_,.tup h r=>.tup (Same.seqT s h) (Reps.mono s r)
 |_,_,.lst h r=>.lst (s _ _ h) (Reps.mono s r)
 |_,_,.scr h r=>.scr (Same.seqR s h) (Reps.mono s r)
theorem Reps.mono {K:W.Frag}{F G:Hp}(s:Same F G): ∀ {v:List V} {d:List D},Reps K F v d->Reps K G v d
 |_,_,.nil=>.nil
 |_,_,.cons r t=>.cons (Rep.mono s r) (Reps.mono s t)
end
section
variable {K:W.Frag}{F G H:Hp}
theorem Reps.length: ∀ {xs:List V} {ds:List D},Reps K F xs ds->xs.length=ds.length
 |_,_,.nil=>rfl
 |_,_,.cons _ t=>by simp[t.length]
theorem Reps.get: ∀ {xs:List V} {ds:List D} {i:Nat} {d:D},Reps K F xs ds->ds[i]? =some d-> ∃x,xs[i]? =some x/\Rep K F x d
 |_,_,_,_,.nil,e=>by simp at e
 |_,_,0,_,.cons r _,e=>by simp at e;subst e;exact⟨_,rfl,r⟩
 |_,_,i+1,d,.cons _ t,e=>by
  obtain⟨u,h1,h2⟩:=Reps.get (i:=i) (d:=d) t (by simpa using e);exact⟨u,by simpa using h1,h2⟩
theorem Reps.get' {xs:List V}{ds:List D}{i:Nat}{x:V}(r:Reps K F xs ds)(e:xs[i]? =some x): ∃d,ds[i]? =some d/\Rep K F x d:=by
 have hl:=r.length;have hi:=(List.getElem?_eq_some_iff.mp e).1;have e2:ds[i]? =some ds[i]:=List.getElem?_eq_getElem (by omega);obtain⟨y,h1,h2⟩:=r.get e2;rw[e] at h1;cases h1;exact⟨_,e2,h2⟩
theorem Reps.append: ∀ {xs ys:List V} {us ws:List D},Reps K F xs us->Reps K F ys ws->Reps K F (xs++ys) (us++ws)
 |_,_,_,_,.nil,s=>s
 |_,_,_,_,.cons r t,s=>.cons r (Reps.append t s)
theorem Reps.set {x:V}{u:D}(r:Rep K F x u): ∀ {xs:List V} {us:List D} (i:Nat),Reps K F xs us->Reps K F (xs.set i x) (us.set i u)
 |_,_,_,.nil=>.nil
 |_,_,0,.cons _ t=>.cons r t
 |_,_,i+1,.cons q t=>.cons q (Reps.set r i t)
theorem Reps.take: ∀ {xs:List V} {us:List D} (n:Nat),Reps K F xs us->Reps K F (xs.take n) (us.take n)
 |_,_,0,_=>.nil
 |_,_,_+1,.nil=>.nil
 |_,_,n+1,.cons r t=>.cons r (Reps.take n t)
theorem Reps.drop: ∀ {xs:List V} {us:List D} (n:Nat),Reps K F xs us->Reps K F (xs.drop n) (us.drop n)
 |_,_,0,r=>r
 |_,_,_+1,.nil=>.nil
 |_,_,n+1,.cons _ t=>Reps.drop n t
end
abbrev bw:=Addr->Bool
def vw(H:Hp)(hid:bw):Hp:=λb=>if hid b=true then none else H b
def bY(hid:bw)(a:Addr):bw:=λb=>hid b||decide (b=a)
def gC(hid:bw)(a:Addr):bw:=λb=>hid b&& !decide (b=a)
theorem vw_some {H:Hp}{hid:bw}{b:Addr}{o:HO}:vw H hid b=some o↔hid b=false/\H b=some o:=by
 unfold vw;cases hb:hid b<;>simp
theorem di(H:Hp)(hid:bw):Same (vw H hid) H:=λb o h=>(vw_some.mp h).2
theorem aM {H H':Hp}{hid:bw}(s:Same H H'):Same (vw H hid) (vw H' hid):=λb o h=>vw_some.mpr ⟨(vw_some.mp h).1,s _ _ (vw_some.mp h).2⟩
theorem t5 {H H':Hp}{hid:bw}(s: ∀b o,H b=some o->hid b=false->H' b=some o):Same (vw H hid) (vw H' hid):=λb o h=>vw_some.mpr ⟨(vw_some.mp h).1,s _ _ (vw_some.mp h).2 (vw_some.mp h).1⟩
theorem eL {H:Hp}{hid:bw}{a:Addr}{o:HO}(h:hid a=true):vw (cb H a o) hid=vw H hid:=by
 funext b;unfold vw cb
 by_cases e:b=a
 ·subst e;simp[h]
 ·simp[e]
theorem eZ {H:Hp}{hid hid':bw}(h: ∀b,hid' b=true->hid b=true):Same (vw H hid) (vw H hid'):=λb o q=>by
 obtain⟨q1,q2⟩:=vw_some.mp q;refine vw_some.mpr ⟨?_,q2⟩;cases e:hid' b with
 |false=>rfl
 |true=>rw[h b e] at q1;cases q1
theorem oZ {H:Hp}{hid:bw}{a:Addr}{o:HO}(h:H a=none):vw (cb H a o) (bY hid a)=vw H hid:=by
 funext b;unfold vw cb bY
 by_cases e:b=a
 ·subst e;cases hb:hid b<;>simp[h]
 ·simp[e]
inductive NO where
 |l (ds:List D)
 |k (kvs:List (ba×D))
inductive Ob where
 |nst (us:List NO)
 |dR (kvs:List (ba×D))
 |dRs (l:List (List (ba×D)))
 |exc (x:Str) (n:Int)
 |dK (kvs:List (ba×D))
 |dT (kvs:List (List ba×D))
 |set (ds:List D)
 |old (d:D)
 |jnk
 |tset (ks:List (List Int))
 |dF (kvs:List (List ba×D))
 |dQ (kvs:List (List ba×D))
 |frs (d:D)
inductive Sl where
 |no
 |v (d:D)
 |own (ds:List D)
 |arg (ds:List D)
 |ob (b:Ob)
abbrev aG:=List Sl
structure Ct where
 H₀:Hp
 hid₀:bw
 mu:Addr->Bool
def ExcAt(K:W.Frag)(x:Str)(n:Int)(a:Addr)(h:Heap):Prop:= ∃C o,W.nsIn K mainGlobals x=some (some (.ref C))/\h.get? a=some o/\o.cls=.ref C/\o.dict=none/\W.notCls o=true
def pC:Option HO->Bool
 |some (.lst _)=>true
 |_=>false
def fv(c:Ct)(F:Hp):Hp:=λb=>if(c.H₀ b).isSome=true/\pC (F b)=true then none else F b
def ov(c:Ct)(F:Hp):Hp:=λb=>if(c.H₀ b).isSome=true then F b else none
theorem fv_some {c:Ct}{F:Hp}{b:Addr}{o:HO}:fv c F b=some o↔(pC (some o)=true->c.H₀ b=none)/\F b=some o:=by
 unfold fv;constructor
 ·intro h;split at h
  ·cases h
  ·rename_i hn
   refine⟨λq=>?_,h⟩;rw[h] at hn;cases hb:c.H₀ b with
   |none=>rfl
   |some u=>exact absurd ⟨by rw[hb];rfl,q⟩ hn
 ·rintro⟨h1,h2⟩;rw[if_neg,h2];rintro⟨q1,q2⟩;rw[h2] at q2;rw[h1 q2] at q1;cases q1
theorem ov_some {c:Ct}{F:Hp}{b:Addr}{o:HO}:ov c F b=some o↔(∃u,c.H₀ b=some u)/\F b=some o:=by
 unfold ov;cases hb:c.H₀ b<;>simp
theorem uu {c:Ct}{F G:Hp}(s:Same F G):Same (fv c F) (fv c G):=λb o h=>fv_some.mpr ⟨(fv_some.mp h).1,s _ _ (fv_some.mp h).2⟩
theorem y6 {c:Ct}{F G:Hp}(s:Same F G):Same (ov c F) (ov c G):=λb o h=>ov_some.mpr ⟨(ov_some.mp h).1,s _ _ (ov_some.mp h).2⟩
def NOk(K:W.Frag)(c:Ct)(hid:bw)(H:Hp)(p a:Addr):NO->Prop
 | .l ds=>(hid a=true/\c.H₀ a=none)/\ ∃xs:List V,H a=some (.nst p (.lst xs))/\Reps K (vw H hid) xs ds
 | .k kvs=>(hid a=true/\c.H₀ a=none)/\ ∃us:List (ba×V),H a=some (.nst p (.dK us))/\us.map (·.1)=kvs.map (·.1)/\Reps K (vw H hid) (us.map (·.2)) (kvs.map (·.2))
theorem NOk.mono {K:W.Frag}{c:Ct}{hid hid':bw}{H H':Hp}{p a:Addr}{b:NO}(h:NOk K c hid H p a b)(k: ∀u,H a=some (.nst p u)->H' a=some (.nst p u))(s:Same (vw H hid) (vw H' hid'))(w:(∃u,H a=some (.nst p u))->hid' a=true):NOk K c hid' H' p a b:=by
 cases b with
 |l ds=>obtain⟨h1,us,h2,h3⟩:=h;exact⟨⟨w ⟨_,h2⟩,h1.2⟩,us,k _ h2,h3.mono s⟩
 |k kvs=>obtain⟨h1,us,h2,h3,h4⟩:=h;exact⟨⟨w ⟨_,h2⟩,h1.2⟩,us,k _ h2,h3,h4.mono s⟩
def DRd(K:W.Frag)(W:Hp)(a:Addr)(kvs:List (ba×D)):Prop:= ∃o us,W a=some (.frz o (.dK us))/\us.map (·.1)=kvs.map (·.1)/\Reps K W (us.map (·.2)) (kvs.map (·.2))
theorem DRd.mono {K:W.Frag}{W W':Hp}{a:Addr}{kvs:List (ba×D)}(h:DRd K W a kvs)(s:Same W W'):DRd K W' a kvs:=by
 obtain⟨o,us,h1,h2,h3⟩:=h;exact⟨o,us,s _ _ h1,h2,h3.mono s⟩
def DQd(K:W.Frag)(W:Hp)(a:Addr)(kvs:List (List ba×D)):Prop:= ∃o us,W a=some (.frz o (.dT us))/\us.map (·.1)=kvs.map (·.1)/\Reps K W (us.map (·.2)) (kvs.map (·.2))
theorem DQd.mono {K:W.Frag}{W W':Hp}{a:Addr}{kvs:List (List ba×D)}(h:DQd K W a kvs)(s:Same W W'):DQd K W' a kvs:=by
 obtain⟨o,us,h1,h2,h3⟩:=h;exact⟨o,us,s _ _ h1,h2,h3.mono s⟩
def ObOk(K:W.Frag)(c:Ct)(hid:bw)(H:Hp)(a:Addr):Ob->Prop
 | .nst us=>(hid a=true/\c.H₀ a=none)/\ ∃bs:List Addr,H a=some (.lst (bs.map V.ref))/\bs.Nodup/\Paired (NOk K c hid H a) bs us
 | .dR kvs=>DRd K (vw H hid) a kvs
 | .dQ kvs=>DQd K (vw H hid) a kvs
 | .frs d=>Rep K (fv c (vw H hid)) (.ref a) d
 | .dRs l=> ∃bs:List Addr,vw H hid a=some (.lst (bs.map V.ref))/\Paired (DRd K (vw H hid)) bs l
 | .exc x n=> ∃φ,vw H hid a=some (.ext φ)/\ ∀h,φ h->ExcAt K x n a h
 | .dK kvs=>(hid a=true/\c.H₀ a=none)/\ ∃us:List (ba×V),H a=some (.dK us)/\us.map (·.1)=kvs.map (·.1)/\Reps K (vw H hid) (us.map (·.2)) (kvs.map (·.2))
 | .dT kvs=>(hid a=true/\c.H₀ a=none)/\ ∃us:List (List ba×V),H a=some (.dT us)/\us.map (·.1)=kvs.map (·.1)/\Reps K (vw H hid) (us.map (·.2)) (kvs.map (·.2))
 | .set ds=>(hid a=true/\c.H₀ a=none)/\ ∃xs:List V,H a=some (.lst xs)/\Reps K (fv c (vw H hid)) xs ds
 | .old d=>Rep K (ov c (vw H hid)) (.ref a) d
 | .jnk=>(hid a=true/\c.H₀ a=none)/\ ∃xs:List V,H a=some (.lst xs)
 | .tset ks=>(hid a=true/\c.H₀ a=none)/\ ∃xs:List (List Int×Addr),H a=some (.tst xs)/\(xs.map (·.1)).Perm ks/\Reps K (vw H hid) (xs.map λx=>V.ref x.2) (xs.map λx=>D.tup (x.1.map D.int))
 | .dF kvs=>(hid a=true/\c.H₀ a=none)/\ ∃(o:Obj) (us:List (List ba×V)),H a=some (.frz o (.dT us))/\us.map (·.1)=kvs.map (·.1)/\Reps K (vw H hid) (us.map (·.2)) (kvs.map (·.2))
def n8:Ob->Prop
 | .exc _ _=>False
 | .old _=>False
 | .dR _=>False
 | .dRs _=>False
 | .dQ _=>False
 | .frs _=>False
 |_=>True
def At(H:Hp)(a x:Addr):Prop:=x=a\/ ∃u,H x=some (.nst a u)
theorem At.ne {H:Hp}{a a' x:Addr}{o:HO}(hx:At H a' x)(ne:a'≠a)(ha:H a=some o)(hn: ∀p u,o≠ .nst p u:=by intro _ _ e;cases e):x≠a:=λe=>by
 subst e;rcases hx with rfl|⟨u,hu⟩
 ·exact ne rfl
 ·rw[ha] at hu;cases hu;exact hn _ _ rfl
theorem ObOk.mono {K:W.Frag}{c:Ct}{hid hid':bw}{H H':Hp}{a:Addr}{b:Ob}(h:ObOk K c hid H a b)(k:n8 b-> ∀x,At H a x-> ∀o,H x=some o->H' x=some o)(s:Same (vw H hid) (vw H' hid'))(w:n8 b-> ∀x,At H a x->hid x=true->hid' x=true):ObOk K c hid' H' a b:=by
 have k1:n8 b-> ∀o,H a=some o->H' a=some o:=λo=>k o a (.inl rfl)
 have w1:n8 b->hid a=true->hid' a=true:=λo=>w o a (.inl rfl)
 cases b with
 |nst us=>
  obtain⟨h1,bs,h2,h3,h4⟩:=h;refine⟨⟨w1 trivial h1.1,h1.2⟩,bs,k1 trivial _ h2,h3,Paired.mapP h4 λx y z=>z.mono (λu q=>k trivial x (.inr ⟨u,q⟩) _ q) s λq=>w trivial x (.inr q) ?_⟩;cases y with
  |l ds=>exact z.1.1
  |k kvs=>exact z.1.1
 |dR kvs=>exact DRd.mono h s
 |dQ kvs=>exact DQd.mono h s
 |frs d=>exact Rep.mono (uu s) h
 |dRs l=>obtain⟨bs,h1,h2⟩:=h;exact⟨bs,s _ _ h1,Paired.mapP h2 λ_ _ z=>z.mono s⟩
 |exc x n=>obtain⟨φ,h1,h2⟩:=h;exact⟨φ,s _ _ h1,h2⟩
 |dK kvs=>obtain⟨h1,us,h2,h3,h4⟩:=h;exact⟨⟨w1 trivial h1.1,h1.2⟩,us,k1 trivial _ h2,h3,h4.mono s⟩
 |dT kvs=>obtain⟨h1,us,h2,h3,h4⟩:=h;exact⟨⟨w1 trivial h1.1,h1.2⟩,us,k1 trivial _ h2,h3,h4.mono s⟩
 |set ds=>obtain⟨h1,us,h2,h3⟩:=h;exact⟨⟨w1 trivial h1.1,h1.2⟩,us,k1 trivial _ h2,h3.mono (uu s)⟩
 |old d=>exact Rep.mono (y6 s) h
 |jnk=>obtain⟨h1,us,h2⟩:=h;exact⟨⟨w1 trivial h1.1,h1.2⟩,us,k1 trivial _ h2⟩
 |tset ks=>obtain⟨h1,us,h2,h3,h4⟩:=h;exact⟨⟨w1 trivial h1.1,h1.2⟩,us,k1 trivial _ h2,h3,h4.mono s⟩
 |dF kvs=>obtain⟨h1,o,us,h2,h3,h4⟩:=h;exact⟨⟨w1 trivial h1.1,h1.2⟩,o,us,k1 trivial _ h2,h3,h4.mono s⟩
theorem ObOk.hid {K:W.Frag}{c:Ct}{hid:bw}{H:Hp}{a:Addr}{b:Ob}(h:ObOk K c hid H a b)(o:n8 b):hid a=true:=by
 cases b with
 |nst us=>exact h.1.1
 |dQ kvs=>exact o.elim
 |frs d=>exact o.elim
 |dR kvs=>exact o.elim
 |dRs l=>exact o.elim
 |exc x n=>exact o.elim
 |dK kvs=>exact h.1.1
 |dT kvs=>exact h.1.1
 |set ds=>exact h.1.1
 |old d=>exact o.elim
 |jnk=>exact h.1.1
 |tset ks=>exact h.1.1
 |dF kvs=>exact h.1.1
def SlOk(K:W.Frag)(c:Ct)(hid:bw)(σ:St)(H:Hp)(i:Nat):Sl->Prop
 | .no=>True
 | .v d=> ∃x,σ[i]? =some (some x)/\Rep K (vw H hid) x d
 | .own ds=> ∃a xs,σ[i]? =some (some (.ref a))/\H a=some (.lst xs)/\hid a=true/\c.H₀ a=none/\Reps K (vw H hid) xs ds
 | .arg ds=> ∃a xs,σ[i]? =some (some (.ref a))/\H a=some (.lst xs)/\hid a=true/\c.mu a=true/\Reps K (vw H hid) xs ds
 | .ob b=> ∃a,σ[i]? =some (some (.ref a))/\ObOk K c hid H a b
def Ow:Option Sl->Prop
 |some (.own _)=>True
 |some (.arg _)=>True
 |some (.ob b)=>n8 b
 |_=>False
structure SR(K:W.Frag)(c:Ct)(hid:bw)(ρ:aG)(σ:St)(H:Hp):Prop where
 tr: ∀b,hid b=true-> ∃o,H b=some o
 ht: ∀b xs,hid b=true->H b≠some (.tup xs)
 h0: ∀b,c.hid₀ b=true->hid b=true
 kp: ∀b o,c.H₀ b=some o->c.mu b=false->H b=some o
 t0: ∀b o,c.H₀ b=some o-> ∃o',H b=some o'
 c0: ∀b,c.hid₀ b=true-> ∃o,c.H₀ b=some o
 m0: ∀b,c.mu b=true->c.hid₀ b=true
 len:σ.length=ρ.length
 sl: ∀(i:Nat) (s:Sl),ρ[i]? =some s->SlOk K c hid σ H i s
 ap: ∀(i j:Nat) (a:Addr),i≠j->Ow ρ[i]? ->Ow ρ[j]? ->σ[i]? =some (some (.ref a))->σ[j]? =some (some (.ref a))->False
section
variable {K:W.Frag}{c:Ct}{hid:bw}{ρ:aG}{σ:St}{H H':Hp}{i:Nat}
theorem SlOk.ext {s:Sl}(h:SlOk K c hid σ H i s)(e:Same H H'):SlOk K c hid σ H' i s:=by
 cases s with
 |no=>trivial
 |v d=>obtain⟨x,h1,h2⟩:=h;exact⟨x,h1,h2.mono (aM e)⟩
 |own ds=>obtain⟨a,xs,h1,h2,h3,h4,h5⟩:=h;exact⟨a,xs,h1,e _ _ h2,h3,h4,h5.mono (aM e)⟩
 |arg ds=>obtain⟨a,xs,h1,h2,h3,h4,h5⟩:=h;exact⟨a,xs,h1,e _ _ h2,h3,h4,h5.mono (aM e)⟩
 |ob b=>obtain⟨a,h1,h2⟩:=h;exact⟨a,h1,h2.mono (λ_ x _=>e x) (aM e) λ_ _ _ q=>q⟩
theorem SR.ext(h:SR K c hid ρ σ H)(e:Same H H'):SR K c hid ρ σ H' where
 tr:=λb hb=>let⟨o,q⟩:=h.tr b hb;⟨o,e _ _ q⟩
 ht:=λb xs hb q=>let⟨o,w⟩:=h.tr b hb;by have z:=e _ _ w;rw[q] at z;cases z;exact h.ht b xs hb w
 h0:=h.h0
 kp:=λb o q m=>e _ _ (h.kp b o q m)
 t0:=λb o q=>let⟨o',q'⟩:=h.t0 b o q;⟨o',e _ _ q'⟩
 c0:=h.c0
 m0:=h.m0
 len:=h.len
 sl:=λi s q=>(h.sl i s q).ext e
 ap:=h.ap
def B9(hid:bw)(H:Hp):Prop:=(∀b,hid b=true-> ∃o,H b=some o)/\ ∀b xs,hid b=true->H b≠some (.tup xs)
theorem SR.trk(h:SR K c hid ρ σ H):B9 hid H:=⟨h.tr,h.ht⟩
theorem SR.fresh(h:SR K c hid ρ σ H){a:Addr}(n:H a=none):hid a=false:=by
 cases e:hid a with
 |false=>rfl
 |true=>obtain⟨o,q⟩:=h.tr a e;rw[n] at q;cases q
theorem SR.fresh0(h:SR K c hid ρ σ H){a:Addr}(n:H a=none):c.H₀ a=none:=by
 cases e:c.H₀ a with
 |none=>rfl
 |some o=>obtain⟨o',q⟩:=h.t0 a o e;rw[n] at q;cases q
end
inductive Kd where
 |b|s|n
 deriving DecidableEq
def Rep1(K:W.Frag)(H W:Hp)(v:V)(d:D):Prop:=Rep K W v d\/ ∃a xs ds,v=.ref a/\d=.lst ds/\H a=some (.lst xs)/\Reps K W xs ds
def RN(K:W.Frag)(H H':Hp)(hid:bw)(v:V)(d:D):Prop:= ∃a xs ds,d=.lst ds/\v=.ref a/\H a=none/\H' a=some (.lst xs)/\Reps K (vw H' (bY hid a)) xs ds
def RK(K:W.Frag)(k:Kd)(H H':Hp)(hid:bw)(v:V)(d:D):Prop:=match k with
 | .b=>Rep1 K H' (vw H' hid) v d
 | .s=>Rep K (vw H' hid) v d
 | .n=>RN K H H' hid v d
section
variable {K:W.Frag}{c:Ct}{hid:bw}{ρ:aG}{σ:St}{H H' H'':Hp}{i:Nat}{v:V}{d:D}
theorem RN.rep(h:RN K H H' hid v d)(hf: ∀a,H a=none->hid a=false):Rep K (vw H' hid) v d:=by
 obtain⟨a,xs,ds,rfl,rfl,h1,h2,h3⟩:=h;refine .lst (vw_some.mpr ⟨hf a h1,h2⟩) (h3.mono (eZ λb q=>?_));unfold bY;rw[q];rfl
theorem RK.b(k:Kd)(h:RK K k H H' hid v d)(hf: ∀a,H a=none->hid a=false):Rep1 K H' (vw H' hid) v d:=by
 cases k with
 |b=>exact h
 |s=>exact .inl h
 |n=>exact .inl (RN.rep h hf)
theorem Rep1.ext {hid:bw}(h:Rep1 K H (vw H hid) v d)(e:Same H H'):Rep1 K H' (vw H' hid) v d:=by
 rcases h with h|⟨a,xs,ds,h1,h2,h3,h4⟩
 ·exact .inl (h.mono (aM e))
 ·exact .inr ⟨a,xs,ds,h1,h2,e _ _ h3,h4.mono (aM e)⟩
theorem Rep1.int {i:Int}(h:Rep1 K H (vw H hid) v (.int i)):v=.int i:=by
 rcases h with h|⟨a,xs,ds,h1,h2,_⟩
 ·cases h;rfl
 ·cases h2
theorem Rep1.bl {i:Bool}(h:Rep1 K H (vw H hid) v (.bl i)):v=.bl i:=by
 rcases h with h|⟨a,xs,ds,h1,h2,_⟩
 ·cases h;rfl
 ·cases h2
theorem Rep1.str {i:Str}(h:Rep1 K H (vw H hid) v (.str i)):v=.str i:=by
 rcases h with h|⟨a,xs,ds,h1,h2,_⟩
 ·cases h;rfl
 ·cases h2
theorem Rep1.non(h:Rep1 K H (vw H hid) v .non):v=.non:=by
 rcases h with h|⟨a,xs,ds,h1,h2,_⟩
 ·cases h;rfl
 ·cases h2
theorem Rep1.tup {ds:List D}(h:Rep1 K H (vw H hid) v (.tup ds)): ∃a xs,v=.ref a/\SqT K (vw H hid) a xs/\SqT K H a xs/\Reps K (vw H hid) xs ds:=by
 rcases h with h|⟨a,xs,ds,h1,h2,_⟩
 ·cases h with
  |tup q r=>exact⟨_,_,rfl,q,Same.seqT (di _ _) q,r⟩
 ·cases h2
theorem Rep1.lst {ds:List D}(h:Rep1 K H (vw H hid) v (.lst ds)): ∃a xs,v=.ref a/\SqL K H a xs/\Reps K (vw H hid) xs ds:=by
 rcases h with h|⟨a,xs,ds,h1,h2,h3,h4⟩
 ·cases h with
  |lst q r=>exact⟨_,_,rfl,SqL.of (di _ _ _ _ q),r⟩
 ·cases h2;exact⟨a,xs,h1,SqL.of h3,h4⟩
theorem Rep1.scr {ds:List D}(h:Rep1 K H (vw H hid) v (.scr ds)): ∃a xs,v=.ref a/\SqL K H a xs/\Reps K (vw H hid) xs ds:=by
 rcases h with h|⟨a,xs,ds,h1,h2,h3,h4⟩
 ·cases h with
  |scr q r=>exact⟨_,_,rfl,(di _ _).seq q.seq,r⟩
 ·cases h2
end
theorem PE.imp {X:Cx}{e:Expr}{t t':TE}(h:PE X e t)(i: ∀σ H Q,t' σ H Q->t σ H Q):PE X e t':=λaa s σ H Q I q=>h aa s σ H Q I (i σ H Q q)
theorem PT.imp {X:Cx}{e:Expr}{t t':TT}(h:PT X e t)(i: ∀σ H Q,t' σ H Q->t σ H Q):PT X e t':=λaa s σ H Q I q=>h aa s σ H Q I (i σ H Q q)
theorem PW.imp {X:Cx}{e:Expr}{t t':TT}(h:PW X e t)(i: ∀σ H Q,t' σ H Q->t σ H Q):PW X e t':=λwh aa s σ H Q I q=>h wh aa s σ H Q I (i σ H Q q)
theorem PA.imp {X:Cx}{e:List Expr}{t t':TA}(h:PA X e t)(i: ∀σ H Q,t' σ H Q->t σ H Q):PA X e t':=λp aa s σ H Q I q=>h p aa s σ H Q I (i σ H Q q)
theorem PS.imp {X:Cx}{e:Stmt}{t t':TS}(h:PS X e t)(i: ∀D σ H,t' D σ H->t D σ H):PS X e t':=λaa s σ H D I q=>h aa s σ H D I (i D σ H q)
theorem PSs.imp {X:Cx}{e:List Stmt}{t t':TS}(h:PSs X e t)(i: ∀D σ H,t' D σ H->t D σ H):PSs X e t':=λaa s σ H D I q=>h aa s σ H D I (i D σ H q)
abbrev FE:=aG->Option D
abbrev FT:=aG->Option Bool
abbrev FA:=aG->Option (List D)
def Cm(K:W.Frag)(c:Ct)(hid:bw)(k:Kd)(f:FE)(ρ:aG):TE:=λσ H Q=>SR K c hid ρ σ H/\ ∃d,f ρ=some d/\ ∀v H',Same H H'->RK K k H H' hid v d->Q v H'
def Eh(K:W.Frag)(c:Ct)(hid:bw)(f:FT)(ρ:aG):TT:=λσ H Q=>SR K c hid ρ σ H/\ ∃d,f ρ=some d/\ ∀H',Same H H'->Q d H'
def Fe(K:W.Frag)(c:Ct)(hid:bw)(f:FA)(ρ:aG):TA:=λσ H Q=>SR K c hid ρ σ H/\ ∃d,f ρ=some d/\ ∀vs H',Same H H'->Reps K (vw H' hid) vs d->Q vs H'
def DP(X:Cx)(c:Ct)(k:Kd)(e:Expr)(f:FE):Prop:= ∀hid ρ,PE X e (Cm X.K c hid k f ρ)
def DT(X:Cx)(c:Ct)(e:Expr)(f:FT):Prop:= ∀hid ρ,PT X e (Eh X.K c hid f ρ)
def DW(X:Cx)(c:Ct)(e:Expr)(f:FT):Prop:= ∀hid ρ,PW X e (Eh X.K c hid f ρ)
def DA(X:Cx)(c:Ct)(es:List Expr)(f:FA):Prop:= ∀hid ρ,PA X es (Fe X.K c hid f ρ)
section
variable {X:Cx}{c:Ct}{e a b:Expr}{es:List Expr}{f g:FE}{k:Kd}{pos:Pos}
theorem DP.toS(h:DP X c .n e f):DP X c .s e f:=λhid ρ=>PE.imp (h hid ρ) λσ H Q ⟨sr,d,hd,q⟩=>⟨sr,d,hd,λv H' s r=>q v H' s (RN.rep r λa n=>sr.fresh n)⟩
def ai(i:Nat):FE:=λρ=>match ρ[i]? with
 |some (.v d)=>some d
 |_=>none
def iz(i:Nat):FE:=λρ=>match ρ[i]? with
 |some (.v d)=>some d
 |some (.own ds)=>some (.lst ds)
 |some (.arg ds)=>some (.lst ds)
 |_=>none
theorem aj(i:Nat){x:Str}(hN:X.N[i]? =some x:=by rfl)(hv:nB X.env.scope x:=by first|exact Or.inl rfl|exact Or.inr (Or.inl rfl)|exact Or.inr (Or.inr rfl))(hd:(x==("__debug__":Str))=false:=by decide)
 (hcd:(x==("__classdict__":Str))=false:=by decide):DP X c .s (.Name x pos) (ai i):=λhid ρ=>PE.imp (pv i hN hv hd hcd) λσ H Q hq_=>by
 obtain⟨sr,d,hd,q⟩:=hq_;unfold ai at hd;split at hd
 ·rename_i d' e'
  cases hd;obtain⟨x,h1,h2⟩:=sr.sl i _ e';exact⟨x,h1,q x H (Same.refl _) h2⟩
 ·cases hd
theorem fQ(i:Nat){x:Str}(hN:X.N[i]? =some x:=by rfl)(hv:nB X.env.scope x:=by first|exact Or.inl rfl|exact Or.inr (Or.inl rfl)|exact Or.inr (Or.inr rfl))(hd:(x==("__debug__":Str))=false:=by decide)
 (hcd:(x==("__classdict__":Str))=false:=by decide):DP X c .b (.Name x pos) (iz i):=λhid ρ=>PE.imp (pv i hN hv hd hcd) λσ H Q hq_=>by
 obtain⟨sr,d,hd,q⟩:=hq_;unfold iz at hd;split at hd
 ·rename_i d' e'
  cases hd;obtain⟨x,h1,h2⟩:=sr.sl i _ e';exact⟨x,h1,q x H (Same.refl _) (.inl h2)⟩
 ·rename_i d' e'
  cases hd;obtain⟨a,xs,h1,h2,h3,h4,h5⟩:=sr.sl i _ e';exact⟨_,h1,q _ H (Same.refl _) (.inr ⟨a,xs,_,rfl,rfl,h2,h5⟩)⟩
 ·rename_i d' e'
  cases hd;obtain⟨a,xs,h1,h2,h3,h4,h5⟩:=sr.sl i _ e';exact⟨_,h1,q _ H (Same.refl _) (.inr ⟨a,xs,_,rfl,rfl,h2,h5⟩)⟩
 ·cases hd
def am(d:D):FE:=λ_=>some d
theorem ah {i:Int}{j pos}:DP X c .s (.Constant (.int i) j pos) (am (.int i)):=λhid ρ=>PE.imp BT λσ H Q hq_=>by
 obtain⟨sr,d,hd,q⟩:=hq_;cases hd;exact q _ H (Same.refl _) .int
theorem iV {i:Bool}{j pos}:DP X c .s (.Constant (.bool i) j pos) (am (.bl i)):=λhid ρ=>PE.imp CL λσ H Q hq_=>by
 obtain⟨sr,d,hd,q⟩:=hq_;cases hd;exact q _ H (Same.refl _) .bl
theorem A7 {i:Str}{j pos}:DP X c .s (.Constant (.str i) j pos) (am (.str i)):=λhid ρ=>PE.imp AO λσ H Q hq_=>by
 obtain⟨sr,d,hd,q⟩:=hq_;cases hd;exact q _ H (Same.refl _) .str
theorem sY {j pos}:DP X c .s (.Constant .none j pos) (am .non):=λhid ρ=>PE.imp A8 λσ H Q hq_=>by
 obtain⟨sr,d,hd,q⟩:=hq_;cases hd;exact q _ H (Same.refl _) .non
def ao(F:D->D->Option D)(f g:FE):FE:=λρ=>(f ρ).bind λx=>(g ρ).bind λy=>F x y
theorem mx {F:D->D->Option D}{ρ:aG}{d:D}(h:ao F f g ρ=some d): ∃x y,f ρ=some x/\g ρ=some y/\F x y=some d:=by
 unfold ao at h;cases e1:f ρ with
 |none=>rw[e1] at h;cases h
 |some x=>
  cases e2:g ρ with
  |none=>rw[e1,e2] at h;cases h
  |some y=>rw[e1,e2] at h;exact⟨x,y,rfl,rfl,h⟩
def mX(K:W.Frag)(k:Kd)(r:R2)(F:D->D->Option D):Prop:= ∀(H:Hp) (hid:bw) (v u:V) (x y d:D) (Q:VK),(∀a,H a=none->hid a=false)->F x y=some d->Rep1 K H (vw H hid) v x->Rep1 K H (vw H hid) u y->
 (∀w H',Same H H'->RK K k H H' hid w d->Q w H')->r v u H Q
theorem RK.left {K:W.Frag}{H H1 H':Hp}{hid:bw}{v:V}{d:D}(s:Same H H1)(h:RK K k H1 H' hid v d):RK K k H H' hid v d:=by
 cases k with
 |b=>exact h
 |s=>exact h
 |n=>
  obtain⟨a,xs,ds,h1,h2,h3,h4⟩:=h;exact⟨a,xs,ds,h1,h2,s.free h3,h4⟩
theorem DF {r:R2}{F:D->D->Option D}{k1 k2:Kd}{hid:bw}{ρ:aG}(hF:mX X.K k r F){σ:St}{H:Hp}{Q:VK}(h:Cm X.K c hid k (ao F f g) ρ σ H Q):Ck r (Cm X.K c hid k1 f ρ) (Cm X.K c hid k2 g ρ) σ H Q:=by
 obtain⟨sr,d,hd,q⟩:=h;obtain⟨x,y,e1,e2,e3⟩:=mx hd;refine⟨sr,x,e1,λv H1 s1 r1=>⟨sr.ext s1,y,e2,λu H2 s2 r2=>?_⟩⟩;have b1:=(RK.b k1 r1 λa n=>sr.fresh n).ext s2;have b2:=RK.b k2 r2 λa n=>(sr.ext s1).fresh n
 exact hF H2 hid v u x y d Q (λa n=>((sr.ext s1).ext s2).fresh n) e3 b1 b2 λw H' s3 r3=>q w H' ((s1.trans s2).trans s3) (RK.left (s1.trans s2) r3)
theorem jS {op:Operator}{r:R2}{F:D->D->Option D}{k1 k2:Kd}(ho:lh X (binaryOp op) r)(hF:mX X.K k r F)(ha:DP X c k1 a f)(hb:DP X c k2 b g):DP X c k (.BinOp a op b pos) (ao F f g):=λhid ρ=>
 PE.imp (Aq ho (ha hid ρ) (hb hid ρ)) λσ H Q h=>DF hF h
theorem xB {op:CmpOp}{r:R2}{F:D->D->Option D}{k1 k2:Kd}(ho:lh X (compareOp op) r)(hF:mX X.K .s r F)(ha:DP X c k1 a f)(hb:DP X c k2 b g)(hm:behindInMarks op b=false):DP X c .s (.Compare a [op] [b] pos) (ao F f g):=λhid ρ=>
 PE.imp (zm ho (ha hid ρ) (hb hid ρ) hm) λσ H Q h=>DF hF h
def zD:Option D->Option Bool
 |some (.bl b)=>some b
 |_=>none
theorem bO {op:CmpOp}{r:R2}{F:D->D->Option D}{k1 k2:Kd}(ho:lh X (compareOp op) r)(hF:mX X.K .s r F)(ha:DP X c k1 a f)(hb:DP X c k2 b g)(hm:behindInMarks op b=false):DT X c (.Compare a [op] [b] pos) (λρ=>zD (ao F f g ρ)):=λhid ρ=>
 PT.imp (zM ho (ha hid ρ) (hb hid ρ) hm) λσ H Q hq_=>by
  obtain⟨sr,d,hd,q⟩:=hq_;refine DF (X:=X) (k:=.s) (F:=F) hF ?_
  dsimp only at hd;cases e:ao F f g ρ with
  |none=>rw[e] at hd;cases hd
  |some x=>
   rw[e] at hd;cases x with
   |bl z=>
    cases hd;refine⟨sr,_,e,λv H' s r=>⟨d,?_,q H' s⟩⟩;cases r;rfl
   |_=>cases hd
theorem bC {r:R2}{F:D->D->Option D}{k1 k2:Kd}(hr:IxR X r)(hF:mX X.K k r F)(ha:DP X c k1 a f)(hb:DP X c k2 b g)(hs:ol b):DP X c k (.Subscript a b pos) (ao F f g):=λhid ρ=>
 PE.imp (AI hr (ha hid ρ) (hb hid ρ) hs) λσ H Q h=>DF hF h
end
def i2(C:Int->Int->Bool)(G:Int->Int->D):D->D->Option D
 | .int i,.int j=>if C i j=true then some (G i j) else none
 |_,_=>none
section
variable {K:W.Frag}
theorem oJ {C:Int->Int->Bool}{G:Int->Int->D}{x y d:D}(h:i2 C G x y=some d): ∃i j,x=.int i/\y=.int j/\C i j=true/\d=G i j:=by
 unfold i2 at h;split at h
 ·split at h
  ·cases h;exact⟨_,_,rfl,rfl, ‹_›,rfl⟩
  ·cases h
 ·cases h
theorem vx {C:Int->Int->Prop}{B:Int->Int->Bool}{g:Int->Int->Int}(hC: ∀i j,B i j=true->C i j):mX K .s (rI C λi j=>.int (g i j)) (i2 B λi j=>.int (g i j)):=by
 intro H hid v u x y d Q hf h r1 r2 q;obtain⟨i,j,rfl,rfl,hc,rfl⟩:=oJ h;cases r1.int;cases r2.int;exact⟨i,j,rfl,rfl,hC i j hc,q _ H (Same.refl _) .int⟩
theorem uJ {g:Int->Int->Int}:mX K .s (yT λi j=>.int (g i j)) (i2 (λ_ _=>true) λi j=>.int (g i j)):=by
 intro H hid v u x y d Q hf h r1 r2 q;obtain⟨i,j,rfl,rfl,hc,rfl⟩:=oJ h;cases r1.int;cases r2.int;exact⟨i,j,rfl,rfl,q _ H (Same.refl _) .int⟩
theorem lV {g:Int->Int->Bool}:mX K .s (yT λi j=>.bl (g i j)) (i2 (λ_ _=>true) λi j=>.bl (g i j)):=by
 intro H hid v u x y d Q hf h r1 r2 q;obtain⟨i,j,rfl,rfl,hc,rfl⟩:=oJ h;cases r1.int;cases r2.int;exact⟨i,j,rfl,rfl,q _ H (Same.refl _) .bl⟩
end
section
variable {X:Cx}{c:Ct}{e a b:Expr}{es rest:List Expr}{f g:FE}{p q:FT}{k:Kd}{pos:Pos}
def A6:D->Option Bool
 | .non=>some false
 | .bl b=>some b
 | .int i=>some (i !=0)
 | .str y=>if y.length<=sizeLine then some ((y.length:Int) !=0) else none
 | .lst ds=>some (!ds.isEmpty)
 | .tup ds=>some (!ds.isEmpty)
 | .scr ds=>some (!ds.isEmpty)
theorem Reps.isEmpty {K:W.Frag}{F:Hp}{xs:List V}{ds:List D}(r:Reps K F xs ds):xs.isEmpty=ds.isEmpty:=by cases r<;>rfl
theorem Bk {K:W.Frag}{H:Hp}{hid:bw}{v:V}{d:D}{b:Bool}(h:A6 d=some b)(r:Rep1 K H (vw H hid) v d):BB K v H b:=by
 cases d with
 |non=>cases r.non;cases h;rfl
 |bl x=>cases r.bl;cases h;rfl
 |int i=>cases r.int;cases h;rfl
 |str y=>
  cases r.str;have h':(if y.length<=sizeLine then some ((y.length:Int) !=0) else none)=some b:=h;split at h'
  ·cases h';exact⟨‹_›,rfl⟩
  ·cases h'
 |lst ds=>
  obtain⟨a,xs,rfl,h1,h2⟩:=r.lst;cases h;exact .inl ⟨xs,h1,by rw[h2.isEmpty]⟩
 |tup ds=>
  obtain⟨a,xs,rfl,_,h1,h2⟩:=r.tup;cases h;exact .inr (.inl ⟨xs,h1,by rw[h2.isEmpty]⟩)
 |scr ds=>
  obtain⟨a,xs,rfl,h1,h2⟩:=r.scr;cases h;exact .inl ⟨xs,h1,by rw[h2.isEmpty]⟩
def eJ(f:FE):FT:=λρ=>(f ρ).bind A6
theorem gb(ha:DP X c k a f)(he: ∀whole,isTrue a X.env whole=(do let v <-whole;standAt a.pos;holding [v] (truthy v)):=by intro _;rfl):DT X c a (eJ f):=λhid ρ=>
 PT.imp (x4 (ha hid ρ) he) λσ H Q hq_=>by
  obtain⟨sr,d,hd,q⟩:=hq_;unfold eJ at hd;cases e:f ρ with
  |none=>rw[e] at hd;cases hd
  |some x=>
   rw[e] at hd;exact⟨sr,x,e,λv H' s r=>⟨d,Bk hd (RK.b k r λa n=>sr.fresh n),q H' s⟩⟩
def jL(p q:FT):FT:=λρ=>(p ρ).bind λb=>if b=true then q ρ else some false
def lj(p q:FT):FT:=λρ=>(p ρ).bind λb=>if b=true then some true else q ρ
def eD(p:FT):FT:=λρ=>(p ρ).map (!·)
theorem yG(ha:DT X c a p):DW X c (.BoolOp .And [a] pos) p:=λhid ρ=>pw_and1 (ha hid ρ)
theorem kf(ha:DT X c a p):DW X c (.BoolOp .Or [a] pos) p:=λhid ρ=>pw_or1 (ha hid ρ)
theorem BZ(ha:DT X c a p)(hb:DW X c (.BoolOp .And (b::rest) pos) q):DW X c (.BoolOp .And (a::b::rest) pos) (jL p q):=λhid ρ=>
 PW.imp (pw_and (ha hid ρ) (hb hid ρ)) λσ H Q hq_=>by
  obtain⟨sr,d,hd,hq⟩:=hq_;unfold jL at hd;cases e:p ρ with
  |none=>rw[e] at hd;cases hd
  |some x=>
   rw[e] at hd;refine⟨sr,x,e,λH1 s1=>?_⟩;cases x with
   |true=>exact ss ⟨sr.ext s1,d,hd,λH2 s2=>hq H2 (s1.trans s2)⟩
   |false=>cases hd;exact sQ (hq H1 s1)
theorem jM(ha:DT X c a p)(hb:DW X c (.BoolOp .Or (b::rest) pos) q):DW X c (.BoolOp .Or (a::b::rest) pos) (lj p q):=λhid ρ=>
 PW.imp (pw_or (ha hid ρ) (hb hid ρ)) λσ H Q hq_=>by
  obtain⟨sr,d,hd,hq⟩:=hq_;unfold lj at hd;cases e:p ρ with
  |none=>rw[e] at hd;cases hd
  |some x=>
   rw[e] at hd;refine⟨sr,x,e,λH1 s1=>?_⟩;cases x with
   |false=>exact sQ ⟨sr.ext s1,d,hd,λH2 s2=>hq H2 (s1.trans s2)⟩
   |true=>cases hd;exact ss (hq H1 s1)
theorem DW.dt(h:DW X c e p):DT X c e p:=λhid ρ=>(h hid ρ).pt
theorem gw(ha:DT X c a p):DT X c (.UnaryOp .Not a pos) (eD p):=λhid ρ=>
 PT.imp (Bu (ha hid ρ)) λσ H Q hq_=>by
  obtain⟨sr,d,hd,hq⟩:=hq_;unfold eD at hd;cases e:p ρ with
  |none=>rw[e] at hd;cases hd
  |some x=>rw[e] at hd;cases hd;exact⟨sr,x,e,λH1 s1=>hq H1 s1⟩
def tz(p:FT):FE:=λρ=>(p ρ).map D.bl
def bH(f:FE):FT:=λρ=>zD (f ρ)
theorem ma {ρ:aG}{b:Bool}(h:bH f ρ=some b):f ρ=some (.bl b):=by
 unfold bH zD at h;split at h
 ·cases h;assumption
 ·cases h
theorem yg(ha:DP X c .s a f)(hb:DP X c .s (.BoolOp .And (b::rest) pos) g):DP X c .s (.BoolOp .And (a::b::rest) pos) (tz (jL (bH f) (bH g))):=λhid ρ=>
 PE.imp (AU (ha hid ρ) (hb hid ρ)) λσ H Q hq_=>by
  obtain⟨sr,d,hd,hq⟩:=hq_;unfold tz jL at hd;cases e:bH f ρ with
  |none=>rw[e] at hd;cases hd
  |some x=>
   rw[e] at hd;refine⟨sr,_,ma e,λv H1 s1 r=>?_⟩;cases r;refine⟨x,rfl,?_⟩;cases x with
   |true=>
    refine ss ?_
    cases e2:bH g ρ with
    |none=>rw[show(some true:Option Bool).bind (λb=>if b=true then bH g ρ else some false)=bH g ρ from rfl,e2] at hd;cases hd
    |some y=>
     rw[show(some true:Option Bool).bind (λb=>if b=true then bH g ρ else some false)=bH g ρ from rfl,e2] at hd;cases hd;exact⟨sr.ext s1,_,ma e2,λv2 H2 s2 r2=>hq v2 H2 (s1.trans s2) r2⟩
   |false=>cases hd;exact sQ (hq _ H1 s1 .bl)
theorem xf {op}(h:DP X c k a f):DP X c k (.BoolOp op [a] pos) f:=λhid ρ=>BP (h hid ρ)
theorem xG(ha:DP X c .s a f):DP X c .s (.UnaryOp .Not a pos) (tz (eD (bH f))):=λhid ρ=>
 PE.imp (BD (ha hid ρ)) λσ H Q hq_=>by
  obtain⟨sr,d,hd,hq⟩:=hq_;unfold tz eD at hd;cases e:bH f ρ with
  |none=>rw[e] at hd;cases hd
  |some x=>
   rw[e] at hd;cases hd;refine⟨sr,_,ma e,λv H1 s1 r=>?_⟩;cases r;exact⟨x,rfl,hq _ H1 s1 .bl⟩
variable {r r':R2}{h:FE}{e3:Expr}
end
section
variable {X:Cx}{c:Ct}{e a b:Expr}{es rest:List Expr}{f g:FE}{fs:FA}{k:Kd}{pos:Pos}
def ag:FA:=λ_=>some []
def ae(f:FE)(fs:FA):FA:=λρ=>(f ρ).bind λd=>(fs ρ).map λr=>d::r
theorem mH {ρ:aG}{ds:List D}(h:ae f fs ρ=some ds): ∃d r,f ρ=some d/\fs ρ=some r/\ds=d::r:=by
 unfold ae at h;cases e1:f ρ with
 |none=>rw[e1] at h;cases h
 |some d=>
  cases e2:fs ρ with
  |none=>rw[e1,e2] at h;cases h
  |some r=>rw[e1,e2] at h;cases h;exact⟨d,r,rfl,rfl,rfl⟩
theorem ak:DA X c [] ag:=λhid ρ=>PA.imp fu λσ H Q ⟨sr,d,hd,q⟩=>by cases hd;exact q [] H (Same.refl _) .nil
theorem af(ha:DP X c .s e f)(hr:DA X c es fs)(hs:starEach (e::es) X.env=(false,eval e X.env)::starEach es X.env:=by rfl):DA X c (e::es) (ae f fs):=λhid ρ=>
 PA.imp (bV (ha hid ρ) (hr hid ρ) hs) λσ H Q hq_=>by
  obtain⟨sr,d,hd,q⟩:=hq_;obtain⟨d1,r,e1,e2,rfl⟩:=mH hd;exact⟨sr,d1,e1,λv H1 s1 r1=>⟨sr.ext s1,r,e2,λvs H2 s2 r2=>q _ H2 (s1.trans s2) (.cons (Rep.mono (aM s2) r1) r2)⟩⟩
def bZ(fs:FA):FE:=λρ=>(fs ρ).bind λds=>if ds.length<=sizeLine then some (.tup ds) else none
def aX(fs:FA):FE:=λρ=>(fs ρ).bind λds=>if ds.length<=sizeLine then some (.lst ds) else none
theorem uV {ρ:aG}{d:D}(h:bZ fs ρ=some d): ∃ds,fs ρ=some ds/\ds.length<=sizeLine/\d=.tup ds:=by
 unfold bZ at h;cases e1:fs ρ with
 |none=>rw[e1] at h;cases h
 |some ds=>
  rw[e1] at h;have h':(if ds.length<=sizeLine then some (D.tup ds) else none)=some d:=h;split at h'
  ·cases h';exact⟨ds,rfl, ‹_›,rfl⟩
  ·cases h'
theorem uT {ρ:aG}{d:D}(h:aX fs ρ=some d): ∃ds,fs ρ=some ds/\ds.length<=sizeLine/\d=.lst ds:=by
 unfold aX at h;cases e1:fs ρ with
 |none=>rw[e1] at h;cases h
 |some ds=>
  rw[e1] at h;have h':(if ds.length<=sizeLine then some (D.lst ds) else none)=some d:=h;split at h'
  ·cases h';exact⟨ds,rfl, ‹_›,rfl⟩
  ·cases h'
theorem bq {H:Hp}{p:Addr}(h:H p=none)(o:HO):Same H (cb H p o):=λb u q=>by rw[aH (bo q h)];exact q
theorem mI {K:W.Frag}{H:Hp}{hid:bw}{p:Addr}{xs:List V}{ds:List D}(hn:H p=none)(hf:hid p=false)(r:Reps K (vw H hid) xs ds):Rep K (vw (cb H p (.tup xs)) hid) (.ref p) (.tup ds):=
 .tup (SqT.of (vw_some.mpr ⟨hf,aN⟩)) (r.mono (aM (bq hn _)))
theorem ka {K:W.Frag}{H H0:Hp}{hid:bw}{p:Addr}{xs:List V}{ds:List D}(hn:H p=none)(s:Same H0 H)(r:Reps K (vw H hid) xs ds):RN K H0 (cb H p (.lst xs)) hid (.ref p) (.lst ds):=
 ⟨p,xs,ds,rfl,rfl,s.free hn,aN,by rw[oZ hn];exact r⟩
theorem cW {x1}(h:DA X c es fs):DP X c .s (.Tuple es x1 pos) (bZ fs):=λhid ρ=>PE.imp (xp (h hid ρ)) λσ H Q hq_=>by
 obtain⟨sr,d,hd,q⟩:=hq_;obtain⟨ds,e1,hz,rfl⟩:=uV hd;exact⟨sr,ds,e1,λvs H1 s1 r1=>⟨by rw[r1.length];exact hz,λp hp=>q _ _ (s1.trans (bq hp _)) (mI hp ((sr.ext s1).fresh hp) r1)⟩⟩
theorem br(h:DA X c es fs):DP X c .n (.List es pos) (aX fs):=λhid ρ=>PE.imp (xV (h hid ρ)) λσ H Q hq_=>by
 obtain⟨sr,d,hd,q⟩:=hq_;obtain⟨ds,e1,hz,rfl⟩:=uT hd;exact⟨sr,ds,e1,λvs H1 s1 r1=>⟨by rw[r1.length];exact hz,λp hp=>q _ _ (s1.trans (bq hp _)) (ka hp s1 r1)⟩⟩
abbrev Reps1(K:W.Frag)(H W:Hp):List V->List D->Prop:=Paired (Rep1 K H W)
def EV(K:W.Frag)(c:Ct)(hid:bw)(f:FA)(ρ:aG):TA:=λσ H Q=>SR K c hid ρ σ H/\ ∃d,f ρ=some d/\ ∀vs H',Same H H'->Reps1 K H' (vw H' hid) vs d->Q vs H'
def DB(X:Cx)(c:Ct)(es:List Expr)(f:FA):Prop:= ∀hid ρ,PA X es (EV X.K c hid f ρ)
theorem dZ:DB X c [] ag:=λhid ρ=>PA.imp fu λσ H Q ⟨sr,d,hd,q⟩=>by cases hd;exact q [] H (Same.refl _) .nil
theorem cu(ha:DP X c k e f)(hr:DB X c es fs)(hs:starEach (e::es) X.env=(false,eval e X.env)::starEach es X.env:=by rfl):DB X c (e::es) (ae f fs):=λhid ρ=>
 PA.imp (bV (ha hid ρ) (hr hid ρ) hs) λσ H Q hq_=>by
  obtain⟨sr,d,hd,q⟩:=hq_;obtain⟨d1,r,e1,e2,rfl⟩:=mH hd;exact⟨sr,d1,e1,λv H1 s1 r1=>⟨sr.ext s1,r,e2,λvs H2 s2 r2=>q _ H2 (s1.trans s2) (.cons ((RK.b k r1 λa n=>sr.fresh n).ext s2) r2)⟩⟩
def jl(K:W.Frag)(k:Kd)(r:List V->Hp->VK->Prop)(F:List D->Option D):Prop:= ∀(H:Hp) (hid:bw) (vs:List V) (ds:List D) (d:D) (Q:VK),(∀a,H a=none->hid a=false)->F ds=some d->Reps1 K H (vw H hid) vs ds->
 (∀w H',Same H H'->RK K k H H' hid w d->Q w H')->r vs H Q
def aA(F:List D->Option D)(fs:FA):FE:=λρ=>(fs ρ).bind F
theorem gW {F:List D->Option D}{ρ:aG}{d:D}(h:aA F fs ρ=some d): ∃ds,fs ρ=some ds/\F ds=some d:=by
 unfold aA at h;cases e1:fs ρ with
 |none=>rw[e1] at h;cases h
 |some ds=>rw[e1] at h;exact⟨ds,rfl,h⟩
theorem CV {r:List V->Hp->VK->Prop}{F:List D->Option D}{hid:bw}{ρ:aG}(hF:jl X.K k r F){σ:St}{H:Hp}{Q:VK}(h:Cm X.K c hid k (aA F fs) ρ σ H Q):Ee r (EV X.K c hid fs ρ) σ H Q:=by
 obtain⟨sr,d,hd,q⟩:=h;obtain⟨ds,e1,e2⟩:=gW hd;exact⟨sr,ds,e1,λvs H1 s1 r1=>hF H1 hid vs ds d Q (λa n=>(sr.ext s1).fresh n) e2 r1 λw H' s2 r2=>q w H' (s1.trans s2) (RK.left s1 r2)⟩
variable {x:Str}{p:Pos}{id T:String}{r:List V->Hp->VK->Prop}{F:List D->Option D}
theorem fm(hc:fO X (.builtin id) r)(hF:jl X.K k r F)(hm:X.mg x=none)(ha:DB X c (e::es) fs)(hg:Gl X x:=by rfl)(hv:bootBuiltins x=some (.builtin id):=by first|exact PySem.boot_len|rfl|kernel_rfl)(hn:x≠"__name__":=by decide)(hdb:(x==("__debug__":Str))=false:=by decide)
 (he:starEach (e::es) X.env=(false,eval e X.env)::starEach es X.env:=by rfl) (hpl:(backTo pos (starEach es X.env)).any (·.1)=false:=by rfl):DP X c k (.Call (.Name x p) (e::es) [] pos) (aA F fs):=λhid ρ=>
 PE.imp (iQ hc hg hm hv (ha hid ρ) hn hdb he hpl) λσ H Q h=>CV hF h
theorem ja(hc:fO X (.type T) r)(hF:jl X.K k r F)(hm:X.mg x=none)(ha:DB X c (e::es) fs)(hg:Gl X x:=by rfl)(hv:bootBuiltins x=some (.type T):=by first|rfl|kernel_rfl)(hn:x≠"__name__":=by decide)(hdb:(x==("__debug__":Str))=false:=by decide)
 (he:starEach (e::es) X.env=(false,eval e X.env)::starEach es X.env:=by rfl) (hpl:(backTo pos (starEach es X.env)).any (·.1)=false:=by rfl):DP X c k (.Call (.Name x p) (e::es) [] pos) (aA F fs):=λhid ρ=>
 PE.imp (nL hc hg hm hv (ha hid ρ) hn hdb he hpl) λσ H Q h=>CV hF h
end
section
variable {K:W.Frag}
theorem Reps1.one {H W:Hp}{v:List V}{d:D}(r:Reps1 K H W v [d]): ∃x,v=[x]/\Rep1 K H W x d:=by
 cases r with
 |cons r t=>cases t;exact⟨_,rfl,r⟩
theorem Reps1.two {H W:Hp}{v:List V}{d d':D}(r:Reps1 K H W v [d,d']): ∃x y,v=[x,y]/\Rep1 K H W x d/\Rep1 K H W y d':=by
 cases r with
 |cons r t=>cases t with
  |cons r' t=>cases t;exact⟨_,_,rfl,r,r'⟩
def j9:List D->Option D
 | [.lst ds]=>some (.int ds.length)
 | [.tup ds]=>some (.int ds.length)
 | [.scr ds]=>some (.int ds.length)
 |_=>none
theorem tm:jl K .s (λxs H Q=> ∃p ys,xs=[.ref p]/\(SqL K H p ys\/SqT K H p ys)/\Q (.int ys.length) H) j9:=by
 intro H hid vs ds d Q hf h r q;unfold j9 at h;split at h
 ·cases h;obtain⟨x,rfl,r1⟩:=Reps1.one r;obtain⟨a,xs,rfl,h1,h2⟩:=r1.lst;exact⟨a,xs,rfl,.inl h1,by rw[h2.length];exact q _ H (Same.refl _) .int⟩
 ·cases h;obtain⟨x,rfl,r1⟩:=Reps1.one r;obtain⟨a,xs,rfl,_,h1,h2⟩:=r1.tup;exact⟨a,xs,rfl,.inr h1,by rw[h2.length];exact q _ H (Same.refl _) .int⟩
 ·cases h;obtain⟨x,rfl,r1⟩:=Reps1.one r;obtain⟨a,xs,rfl,h1,h2⟩:=r1.scr;exact⟨a,xs,rfl,.inl h1,by rw[h2.length];exact q _ H (Same.refl _) .int⟩
 ·cases h
def qI:List D->Option D
 | [.int i]=>some (.int (if i<0 then -i else i))
 |_=>none
theorem BK:jl K .s (λxs H Q=> ∃i,xs=[.int i]/\Q (.int (if i<0 then -i else i)) H) qI:=by
 intro H hid vs ds d Q hf h r q;unfold qI at h;split at h
 ·cases h;obtain⟨x,rfl,r1⟩:=Reps1.one r;cases r1.int;exact⟨_,rfl,q _ H (Same.refl _) .int⟩
 ·cases h
def mz:List D->Option D
 | [.int i,.int j]=>some (.int (if j<i then j else i))
 |_=>none
theorem Ab:jl K .s (λxs H Q=> ∃i j,xs=[.int i,.int j]/\Q (.int (if j<i then j else i)) H) mz:=by
 intro H hid vs ds d Q hf h r q;unfold mz at h;split at h
 ·cases h;obtain⟨x,y,rfl,r1,r2⟩:=Reps1.two r;cases r1.int;cases r2.int;exact⟨_,_,rfl,q _ H (Same.refl _) .int⟩
 ·cases h
def kW:List D->Option D
 | [.lst ds]=>some (.lst ds)
 | [.tup ds]=>some (.lst ds)
 |_=>none
theorem oo:jl K .n (λxs H Q=> ∃p ys,xs=[.ref p]/\(SqL K H p ys\/SqT K H p ys)/\ ∀l,H l=none->Q (.ref l) (cb H l (.lst ys))) kW:=by
 intro H hid vs ds d Q hf h r q;unfold kW at h;split at h
 ·cases h;obtain⟨x,rfl,r1⟩:=Reps1.one r;obtain⟨a,xs,rfl,h1,h2⟩:=r1.lst;exact⟨a,xs,rfl,.inl h1,λl hl=>q _ _ (bq hl _) (ka hl (Same.refl _) h2)⟩
 ·cases h;obtain⟨x,rfl,r1⟩:=Reps1.one r;obtain⟨a,xs,rfl,_,h1,h2⟩:=r1.tup;exact⟨a,xs,rfl,.inr h1,λl hl=>q _ _ (bq hl _) (ka hl (Same.refl _) h2)⟩
 ·cases h
def aW:D->D->Option D
 | .lst ds,.int i=>oO ds i
 | .tup ds,.int i=>oO ds i
 | .scr ds,.int i=>oO ds i
 |_,_=>none
theorem oA {F:Hp}{xs:List V}{ds:List D}{i:Int}{d:D}(r:Reps K F xs ds)(h:oO ds i=some d): ∃x,oO xs i=some x/\Rep K F x d:=by
 unfold oO at h⊢;rw[r.length];cases e:uN ds.length i with
 |none=>rw[e] at h;cases h
 |some j=>
  rw[e] at h;obtain⟨x,h1,h2⟩:=r.get (i:=j) h;exact⟨x,h1,h2⟩
theorem bn:mX K .s (E1 K) aW:=by
 intro H hid v u x y d Q hf h r1 r2 q;unfold aW at h;split at h
 ·cases r2.int;obtain⟨a,xs,rfl,h1,h2⟩:=r1.lst;obtain⟨z,h3,h4⟩:=oA h2 h;exact .inl ⟨a,xs,_,z,rfl,rfl,h1,h3,q _ H (Same.refl _) h4⟩
 ·cases r2.int;obtain⟨a,xs,rfl,_,h1,h2⟩:=r1.tup;obtain⟨z,h3,h4⟩:=oA h2 h;exact .inr (.inl ⟨a,xs,_,z,rfl,rfl,h1,h3,q _ H (Same.refl _) h4⟩)
 ·cases r2.int;obtain⟨a,xs,rfl,h1,h2⟩:=r1.scr;obtain⟨z,h3,h4⟩:=oA h2 h;exact .inl ⟨a,xs,_,z,rfl,rfl,h1,h3,q _ H (Same.refl _) h4⟩
 ·cases h
end
abbrev GE:=aG->Option (D×aG)
abbrev GA:=aG->Option (List D×aG)
def Kept(hid:bw)(H H':Hp):Prop:= ∀b o,H b=some o->hid b=false->H' b=some o
theorem Kept.of {hid:bw}{H H':Hp}(s:Same H H'):Kept hid H H':=λb o q _=>s b o q
theorem Kept.trans {hid:bw}{H H1 H2:Hp}(a:Kept hid H H1)(b:Kept hid H1 H2):Kept hid H H2:=λc o q h=>b c o (a c o q h) h
theorem Kept.vw {hid:bw}{H H':Hp}(a:Kept hid H H'):Same (vw H hid) (vw H' hid):=t5 a
def PostE(K:W.Frag)(c:Ct)(hid:bw)(k:Kd)(ρ':aG)(σ:St)(H H':Hp)(v:V)(d:D):Prop:=Kept hid H H'/\match k with
 | .n=> ∃a xs ds,d=.lst ds/\v=.ref a/\H a=none/\H' a=some (.lst xs)/\c.H₀ a=none/\hid a=false/\SR K c (bY hid a) ρ' σ H'/\Reps K (vw H' (bY hid a)) xs ds/\ ∀i:Nat,Ow ρ'[i]? ->σ[i]? ≠some (some (.ref a))
 |_=>SR K c hid ρ' σ H'/\Rep K (vw H' hid) v d
def DJ(K:W.Frag)(c:Ct)(hid:bw)(k:Kd)(f:GE)(ρ:aG):TE:=λσ H Q=>SR K c hid ρ σ H/\ ∃d ρ',f ρ=some (d,ρ')/\ ∀v H',PostE K c hid k ρ' σ H H' v d->Q v H'
def DE(X:Cx)(c:Ct)(k:Kd)(e:Expr)(f:GE):Prop:= ∀hid ρ,PE X e (DJ X.K c hid k f ρ)
def pu(f:FE):GE:=λρ=>(f ρ).map λd=>(d,ρ)
theorem yR {f:FE}{ρ ρ':aG}{d:D}(h:pu f ρ=some (d,ρ')):f ρ=some d/\ρ'=ρ:=by
 unfold pu at h;cases e:f ρ with
 |none=>rw[e] at h;cases h
 |some x=>rw[e] at h;cases h;exact⟨rfl,rfl⟩
section
variable {K:W.Frag}{c:Ct}{hid hid':bw}{ρ:aG}{σ:St}{H H':Hp}{i:Nat}{a:Addr}
theorem cY {hid:bw}{a b:Addr}(h:hid b=true):bY hid a b=true:=by unfold bY;rw[h];rfl
theorem fM {hid:bw}{a:Addr}:bY hid a a=true:=by unfold bY;simp
theorem SR.hide(h:SR K c hid ρ σ H)(e:Same H H')(n:H a=none){o:HO}(ho:H' a=some o)(hn: ∀xs,o≠ .tup xs:=by intro _ e;cases e):SR K c (bY hid a) ρ σ H':=by
 have sm:Same (vw H hid) (vw H' (bY hid a)):=λb o q=>by
  obtain⟨q1,q2⟩:=vw_some.mp q;refine vw_some.mpr ⟨?_,e _ _ q2⟩;unfold bY;rw[q1];have:b≠a:=bo q2 n;simp[this]
 refine⟨λb hb=>?_,λb xs hb q=>by
  by_cases eb:b=a
  ·subst eb;rw[ho] at q;exact hn _ (Option.some.inj q)
  ·unfold bY at hb
   exact(h.ext e).ht b xs (by simpa [eb] using hb) q,λb q=>cY (h.h0 b q),(h.ext e).kp,(h.ext e).t0,h.c0,h.m0,h.len,λi s q=>?_,h.ap⟩
 ·by_cases eb:b=a
  ·subst eb;exact⟨_,ho⟩
  ·unfold bY at hb;have:hid b=true:=by simpa [eb] using hb
   obtain⟨o',q⟩:=h.tr b this;exact⟨o',e _ _ q⟩
 ·have z:=h.sl i s q;cases s with
  |no=>trivial
  |v d=>obtain⟨x,h1,h2⟩:=z;exact⟨x,h1,h2.mono sm⟩
  |own ds=>obtain⟨a',xs,h1,h2,h3,h4,h5⟩:=z;exact⟨a',xs,h1,e _ _ h2,cY h3,h4,h5.mono sm⟩
  |arg ds=>obtain⟨a',xs,h1,h2,h3,h4,h5⟩:=z;exact⟨a',xs,h1,e _ _ h2,cY h3,h4,h5.mono sm⟩
  |ob b=>obtain⟨a',h1,h2⟩:=z;exact⟨a',h1,h2.mono (λ_ x _=>e x) sm λ_ _ _=>cY⟩
theorem SR.show (h:SR K c (bY hid a) ρ σ H)(h0: ∀b,c.hid₀ b=true->hid b=true)(no: ∀i:Nat,Ow ρ[i]? ->σ[i]? ≠some (some (.ref a))){o:HO}(ha:H a=some o)(hn: ∀p u,o≠ .nst p u:=by intro _ _ e;cases e):SR K c hid ρ σ H:=by
 have sm:Same (vw H (bY hid a)) (vw H hid):=eZ λb q=>cY q
 have un: ∀b,b≠a->bY hid a b=true->hid b=true:=λb nb hb=>by unfold bY at hb;simpa [nb] using hb
 refine⟨λb hb=>h.tr b (cY hb),λb xs hb=>h.ht b xs (cY hb),h0,h.kp,h.t0,h.c0,h.m0,h.len,λi s q=>?_,h.ap⟩;have z:=h.sl i s q;cases s with
 |no=>trivial
 |v d=>obtain⟨x,h1,h2⟩:=z;exact⟨x,h1,h2.mono sm⟩
 |own ds=>
  obtain⟨a',xs,h1,h2,h3,h4,h5⟩:=z;have:a'≠a:=λe=>by subst e;exact no i (by rw[q];trivial) h1
  exact⟨a',xs,h1,h2,un a' this h3,h4,h5.mono sm⟩
 |arg ds=>
  obtain⟨a',xs,h1,h2,h3,h4,h5⟩:=z;have:a'≠a:=λe=>by subst e;exact no i (by rw[q];trivial) h1
  exact⟨a',xs,h1,h2,un a' this h3,h4,h5.mono sm⟩
 |ob b=>
  obtain⟨a',h1,h2⟩:=z;exact⟨a',h1,h2.mono (λ_ _ _ _ q=>q) sm λow x hx=>un x (hx.ne (λe=>by subst e;exact no i (by rw[q];exact ow) h1) ha hn)⟩
theorem SR.notOw(h:SR K c hid ρ σ H)(n:hid a=false)(i:Nat)(o:Ow ρ[i]?):σ[i]? ≠some (some (.ref a)):=λe=>by
 cases q:ρ[i]? with
 |none=>rw[q] at o;exact o
 |some s=>
  rw[q] at o;have z:=h.sl i s q;cases s with
  |no=>exact o
  |v d=>exact o
  |own ds=>obtain⟨a',xs,h1,h2,h3,_⟩:=z;rw[e] at h1;cases h1;rw[n] at h3;cases h3
  |arg ds=>obtain⟨a',xs,h1,h2,h3,_⟩:=z;rw[e] at h1;cases h1;rw[n] at h3;cases h3
  |ob b=>obtain⟨a',h1,h2⟩:=z;rw[e] at h1;cases h1;have:=h2.hid o;rw[n] at this;cases this
theorem SR.post {k:Kd}{v:V}{d:D}(h:SR K c hid ρ σ H)(e:Same H H')(r:RK K k H H' hid v d)(hk:k≠ .b):PostE K c hid k ρ σ H H' v d:=by
 cases k with
 |b=>exact absurd rfl hk
 |s=>exact⟨.of e,h.ext e,r⟩
 |n=>
  obtain⟨a,xs,ds,h1,h2,h3,h4,h5⟩:=r;exact⟨.of e,a,xs,ds,h1,h2,h3,h4,h.fresh0 h3,h.fresh h3,h.hide e h3 h4,h5,h.notOw (h.fresh h3)⟩
theorem PostE.left {k:Kd}{ρ':aG}{H1:Hp}{v:V}{d:D}(s:Kept hid H H1)(p:PostE K c hid k ρ' σ H1 H' v d):PostE K c hid k ρ' σ H H' v d:=by
 cases k with
 |b=>exact⟨s.trans p.1,p.2⟩
 |s=>exact⟨s.trans p.1,p.2⟩
 |n=>
  obtain⟨kp,a,xs,ds,h1,h2,hn,h3,h4,h5,h6⟩:=p;refine⟨s.trans kp,a,xs,ds,h1,h2,?_,h3,h4,h5,h6⟩;cases e:H a with
  |none=>rfl
  |some o=>rw[s a o e h5] at hn;cases hn
theorem PostE.toS {ρ':aG}{v:V}{d:D}(h0: ∀b,c.hid₀ b=true->hid b=true)(p:PostE K c hid .n ρ' σ H H' v d):PostE K c hid .s ρ' σ H H' v d:=by
 obtain⟨kp,a,xs,ds,rfl,rfl,hn,h1,h2,h3,h4,h5,h6⟩:=p;exact⟨kp,h4.show h0 h6 h1,.lst (vw_some.mpr ⟨h3,h1⟩) (h5.mono (eZ λb q=>cY q))⟩
end
section
variable {X:Cx}{c:Ct}{e a b:Expr}{es rest:List Expr}{f g:GE}{k:Kd}{pos:Pos}
theorem DP.ef {f:FE}(h:DP X c k e f)(hk:k≠ .b:=by decide):DE X c k e (pu f):=λhid ρ=>PE.imp (h hid ρ) λσ H Q hq_=>by
 obtain⟨sr,d,ρ',hd,q⟩:=hq_;obtain⟨h1,rfl⟩:=yR hd;exact⟨sr,d,h1,λv H' s r=>q v H' (sr.post s r hk)⟩
theorem DE.toS(h:DE X c .n e f):DE X c .s e f:=λhid ρ=>PE.imp (h hid ρ) λσ H Q ⟨sr,d,ρ',hd,q⟩=>⟨sr,d,ρ',hd,λv H' p=>q v H' (p.toS sr.h0)⟩
def bE {α:Type}(f:GE)(g:D->aG->Option α):aG->Option α:=λρ=>(f ρ).bind λp=>g p.1 p.2
theorem oa {α:Type}{g:D->aG->Option α}{ρ:aG}{z:α}(h:bE f g ρ=some z): ∃d ρ',f ρ=some (d,ρ')/\g d ρ'=some z:=by
 unfold bE at h;cases e:f ρ with
 |none=>rw[e] at h;cases h
 |some p=>rw[e] at h;exact⟨p.1,p.2,rfl,h⟩
def bu(F:D->D->Option D)(f g:GE):GE:=bE f λx=>bE g λy ρ=>(F x y).map λd=>(d,ρ)
theorem vi {F:D->D->Option D}{ρ ρ':aG}{d:D}(h:bu F f g ρ=some (d,ρ')): ∃x ρ1 y,f ρ=some (x,ρ1)/\g ρ1=some (y,ρ')/\F x y=some d:=by
 obtain⟨x,ρ1,h1,h2⟩:=oa h;obtain⟨y,ρ2,h3,h4⟩:=oa h2;cases e:F x y with
 |none=>rw[e] at h4;cases h4
 |some z=>rw[e] at h4;cases h4;exact⟨x,ρ1,y,h1,h3,e⟩
theorem C2 {r:R2}{F:D->D->Option D}{hid:bw}{ρ:aG}(hF:mX X.K k r F)(hk:k≠ .b){σ:St}{H:Hp}{Q:VK}(h:DJ X.K c hid k (bu F f g) ρ σ H Q):Ck r (DJ X.K c hid .s f ρ) (λσ H Q=> ∃ρ1,DJ X.K c hid .s g ρ1 σ H Q) σ H Q:=by
 obtain⟨sr,d,ρ',hd,q⟩:=h;obtain⟨x,ρ1,y,e1,e2,e3⟩:=vi hd;refine⟨sr,x,ρ1,e1,λv H1 ⟨k1,s1,r1⟩=>⟨ρ1,s1,y,ρ',e2,λu H2 ⟨k2,s2,r2⟩=>?_⟩⟩;exact hF H2 hid v u x y d Q (λa n=>s2.fresh n) e3 (.inl (r1.mono k2.vw)) (.inl r2) λw H' s3 r3=>q w H' (PostE.left (k1.trans k2) (s2.post s3 r3 hk))
theorem jW {α:Type}{t:α->TE}(h: ∀z,PE X e (t z)):PE X e (λσ H Q=> ∃z,t z σ H Q):=λaa s σ H Q I ⟨z,q⟩=>h z aa s σ H Q I q
theorem we {op:Operator}{r:R2}{F:D->D->Option D}(ho:lh X (binaryOp op) r)(hF:mX X.K k r F)(ha:DE X c .s a f)(hb:DE X c .s b g)(hk:k≠ .b:=by decide):DE X c k (.BinOp a op b pos) (bu F f g):=λhid ρ=>
 PE.imp (Aq ho (ha hid ρ) (jW λρ1=>hb hid ρ1)) λσ H Q h=>C2 hF hk h
def Fm(K:W.Frag)(c:Ct)(hid:bw)(f:GA)(ρ:aG):TA:=λσ H Q=>SR K c hid ρ σ H/\ ∃d ρ',f ρ=some (d,ρ')/\ ∀vs H',Kept hid H H'->SR K c hid ρ' σ H'->Reps K (vw H' hid) vs d->Q vs H'
def DG(X:Cx)(c:Ct)(es:List Expr)(f:GA):Prop:= ∀hid ρ,PA X es (Fm X.K c hid f ρ)
def bi(f:FA):GA:=λρ=>(f ρ).map λd=>(d,ρ)
theorem qC {f:FA}{ρ ρ':aG}{d:List D}(h:bi f ρ=some (d,ρ')):f ρ=some d/\ρ'=ρ:=by
 unfold bi at h;cases e:f ρ with
 |none=>rw[e] at h;cases h
 |some x=>rw[e] at h;cases h;exact⟨rfl,rfl⟩
theorem DA.gf {f:FA}(h:DA X c es f):DG X c es (bi f):=λhid ρ=>PA.imp (h hid ρ) λσ H Q hq_=>by
 obtain⟨sr,d,ρ',hd,q⟩:=hq_;obtain⟨h1,rfl⟩:=qC hd;exact⟨sr,d,h1,λv H' s r=>q v H' (.of s) (sr.ext s) r⟩
def bb(f:GE)(fs:GA):GA:=bE f λd ρ=>(fs ρ).map λp=>(d::p.1,p.2)
theorem Eb {α:Type}{t:α->TA}(h: ∀z,PA X es (t z)):PA X es (λσ H Q=> ∃z,t z σ H Q):=λp aa s σ H Q I ⟨z,q⟩=>h z p aa s σ H Q I q
theorem cy {fs:GA}(ha:DE X c .s e f)(hr:DG X c es fs)(hs:starEach (e::es) X.env=(false,eval e X.env)::starEach es X.env:=by rfl):DG X c (e::es) (bb f fs):=λhid ρ=>
 PA.imp (bV (ha hid ρ) (Eb λρ1=>hr hid ρ1) hs) λσ H Q hq_=>by
  obtain⟨sr,d,ρ',hd,q⟩:=hq_;obtain⟨d1,ρ1,e1,h2⟩:=oa hd;cases e2:fs ρ1 with
  |none=>rw[e2] at h2;cases h2
  |some p=>
   rw[e2] at h2;obtain⟨ds,ρ2⟩:=p;cases h2;exact⟨sr,d1,ρ1,e1,λv H1 ⟨k1,s1,r1⟩=>⟨ρ1,s1,ds,_,e2,λvs H2 k2 s2 r2=>q _ H2 (k1.trans k2) s2 (.cons (r1.mono k2.vw) r2)⟩⟩
end
def gy(K:W.Frag)(k:Kd)(n:Nat)(P:List D->Option D):Sp:=λvs H Q _=> ∃hid ds,B9 hid H/\Reps K (vw H hid) vs ds/\ds.length=n/\ ∃d,P ds=some d/\ ∀v H',Same H H'->RK K k H H' hid v d->Q v H'
def CY(K:W.Frag)(k:Kd)(hid:bw)(H H':Hp)(v:V)(d:D)(xs':List V)(bs':List D):Prop:=match k with
 | .n=> ∃p ys es,d=.lst es/\v=.ref p/\H p=none/\H' p=some (.lst ys)/\Reps K (vw H' (bY hid p)) ys es/\Reps K (vw H' (bY hid p)) xs' bs'
 |_=>Rep K (vw H' hid) v d/\Reps K (vw H' hid) xs' bs'
def rO(K:W.Frag)(k:Kd)(n:Nat)(M:List D->List D->Option (D×List D)):Sp:=λvs H Q _=> ∃hid a xs bs us ds,vs=.ref a::us/\B9 hid H/\hid a=true/\H a=some (.lst xs)/\Reps K (vw H hid) xs bs/\
 Reps K (vw H hid) us ds/\ds.length=n/\ ∃d bs',M bs ds=some (d,bs')/\ ∀v H' xs',(∀b o,H b=some o->b≠a->H' b=some o)->H' a=some (.lst xs')->CY K k hid H H' v d xs' bs'->Q v H'
section
variable {X:Cx}{c:Ct}{e a b:Expr}{es rest:List Expr}{k:Kd}{pos p:Pos}{x:Str}{f:Addr}{fd:FuncData}{ps:List Str}{j n:Nat}
theorem zF {P:List D->Option D}{fs:FA}(F:FnOk X.prog X.w X.K X.mg X.base nU j f fd ps (gy X.K k n P))(hr:Room j X.A)(hm:X.mg x=some (.ref f))(hk:W.keepIn X.K (.ref f)=true)(hb:Binds X.K fd ps [])
 (ha:DA X c (e::es) fs) (hg:Gl X x:=by rfl) (hdb:(x==("__debug__":Str))=false:=by decide) (he:starEach (e::es) X.env=(false,eval e X.env)::starEach es X.env:=by rfl) (hpl:(backTo pos (starEach es X.env)).any (·.1)=false:=by rfl):
 DP X c k (.Call (.Name x p) (e::es) [] pos) (aA (λds=>if ds.length=n then P ds else none) fs):=λhid ρ=>
 PE.imp (jT F hr hg hm hk hb .nil (pU (X:=X)) (ha hid ρ) hdb he hpl) λσ H Q hq_=>by
  obtain⟨sr,d,hd,q⟩:=hq_;obtain⟨ds,e1,e2⟩:=gW hd;have e2':(if ds.length=n then P ds else none)=some d:=e2;split at e2'
  ·refine⟨sr,ds,e1,λvs H1 s1 r1=>?_⟩;show gy X.K k n P (vs++[]) H1 Q E0;rw[List.append_nil];exact⟨hid,ds,(sr.ext s1).trk,r1, ‹_›,d,e2',λv H' s2 r2=>q v H' (s1.trans s2) (RK.left s1 r2)⟩
  ·cases e2'
def dI(i:Nat)(bs:List D)(ρ:aG):aG:=match ρ[i]? with
 |some (.own _)=>ρ.set i (.own bs)
 |some (.arg _)=>ρ.set i (.arg bs)
 |_=>ρ
def eI(i:Nat)(ρ:aG):Option (List D):=match ρ[i]? with
 |some (.own ds)=>some ds
 |some (.arg ds)=>some ds
 |_=>none
theorem gU {i:Nat}{ρ:aG}{bs:List D}(h:eI i ρ=some bs):ρ[i]? =some (.own bs)\/ρ[i]? =some (.arg bs):=by
 unfold eI at h;split at h
 ·cases h;exact .inl ‹_›
 ·cases h;exact .inr ‹_›
 ·cases h
theorem SR.held {K:W.Frag}{hid:bw}{ρ:aG}{σ:St}{H:Hp}{i:Nat}{bs:List D}(h:SR K c hid ρ σ H)(hg:eI i ρ=some bs): ∃a xs,σ[i]? =some (some (.ref a))/\H a=some (.lst xs)/\hid a=true/\Reps K (vw H hid) xs bs/\(c.mu a=true\/c.H₀ a=none):=by
 rcases gU hg with e|e
 ·obtain⟨a,xs,h1,h2,h3,h4,h5⟩:=h.sl i _ e;exact⟨a,xs,h1,h2,h3,h5,.inr h4⟩
 ·obtain⟨a,xs,h1,h2,h3,h4,h5⟩:=h.sl i _ e;exact⟨a,xs,h1,h2,h3,h5,.inl h4⟩
theorem jk {i j:Nat}{ρ:aG}{bs:List D}(h:j≠i):(dI i bs ρ)[j]? =ρ[j]? :=by
 unfold dI;split
 ·rw[List.getElem?_set_ne (Ne.symm h)]
 ·rw[List.getElem?_set_ne (Ne.symm h)]
 ·rfl
theorem xC {i:Nat}{ρ:aG}{bs:List D}:(dI i bs ρ).length=ρ.length:=by
 unfold dI;split
 ·simp
 ·simp
 ·rfl
theorem oI {i j:Nat}{ρ:aG}{bs:List D}(h:Ow (dI i bs ρ)[j]?):Ow ρ[j]? :=by
 by_cases e:j=i
 ·subst e;unfold dI at h;split at h
  ·rw[‹ρ[j]? =_›];trivial
  ·rw[‹ρ[j]? =_›];trivial
  ·exact h
 ·rw[jk e] at h;exact h
theorem SR.put {K:W.Frag}{hid:bw}{ρ:aG}{σ:St}{H H':Hp}{i:Nat}{bs bs':List D}{a:Addr}{xs':List V}(h:SR K c hid ρ σ H)(hg:eI i ρ=some bs)(ha:σ[i]? =some (some (.ref a)))(kp: ∀b o,H b=some o->b≠a->H' b=some o)
 (hx:H' a=some (.lst xs')) (r:Reps K (vw H' hid) xs' bs'):SR K c hid (dI i bs' ρ) σ H':=by
 obtain⟨a1,xs,h1,h2,h3,h4,h5⟩:=h.held hg;rw[ha] at h1;cases h1;have sm:Same (vw H hid) (vw H' hid):=t5 λb o q hb=>kp b o q (λe=>by subst e;rw[h3] at hb;cases hb)
 have tr': ∀b o,H b=some o-> ∃o',H' b=some o':=λb o q=>by
  by_cases e:b=a
  ·subst e;exact⟨_,hx⟩
  ·exact⟨o,kp b o q e⟩
 refine⟨λb hb=>let⟨o,q⟩:=h.tr b hb;tr' b o q,λb xs hb q=>by
  by_cases e:b=a
  ·subst e;rw[hx] at q;cases q
  ·obtain⟨o,w⟩:=h.tr b hb;have z:=kp b o w e
   rw[q] at z;cases z;exact h.ht b xs hb w,h.h0,λb o q m=>?_,λb o q=>let⟨o',q'⟩:=h.t0 b o q;tr' b o' q',h.c0,h.m0,by rw[xC];exact h.len,λj s q=>?_,λj l z n o1 o2=>h.ap j l z n (oI o1) (oI o2)⟩
 ·refine kp b o (h.kp b o q m) λe=>?_
  subst e;rcases h5 with h5|h5
  ·rw[h5] at m;cases m
  ·rw[h5] at q;cases q
 ·by_cases e:j=i
  ·subst e;rcases gU hg with w|w
   ·have lt:=(List.getElem?_eq_some_iff.mp w).1;unfold dI at q;rw[w] at q;dsimp only at q;rw[List.getElem?_set_self lt] at q;cases q;obtain⟨a2,xs2,g1,g2,g3,g4,g5⟩:=h.sl j _ w;rw[ha] at g1;cases g1;exact⟨_,xs',ha,hx,g3,g4,r⟩
   ·have lt:=(List.getElem?_eq_some_iff.mp w).1;unfold dI at q;rw[w] at q;dsimp only at q;rw[List.getElem?_set_self lt] at q;cases q;obtain⟨a2,xs2,g1,g2,g3,g4,g5⟩:=h.sl j _ w;rw[ha] at g1;cases g1;exact⟨_,xs',ha,hx,g3,g4,r⟩
  ·rw[jk e] at q;have z:=h.sl j s q;cases s with
   |no=>trivial
   |v d=>obtain⟨x,h1,h2⟩:=z;exact⟨x,h1,h2.mono sm⟩
   |own ds=>
    obtain⟨a',xs,z1,z2,z3,z4,z5⟩:=z;have ne:a'≠a:=λe'=>by
     subst e';refine h.ap j i a' e (by rw[q];trivial) ?_ z1 ha;rcases gU hg with w|w<;>rw[w]<;>trivial
    exact⟨a',xs,z1,kp _ _ z2 ne,z3,z4,z5.mono sm⟩
   |arg ds=>
    obtain⟨a',xs,z1,z2,z3,z4,z5⟩:=z;have ne:a'≠a:=λe'=>by
     subst e';refine h.ap j i a' e (by rw[q];trivial) ?_ z1 ha;rcases gU hg with w|w<;>rw[w]<;>trivial
    exact⟨a',xs,z1,kp _ _ z2 ne,z3,z4,z5.mono sm⟩
   |ob b=>
    obtain⟨a',z1,z2⟩:=z;refine⟨a',z1,z2.mono (λow x hx o w=>kp _ _ w (hx.ne (λe'=>?_) h2)) sm λ_ _ _ w=>w⟩;subst e';refine h.ap j i a' e (by rw[q];exact ow) ?_ z1 ha;rcases gU hg with w|w<;>rw[w]<;>trivial
def aF(i n:Nat)(M:List D->List D->Option (D×List D))(fs:GA):GE:=λρ=>match eI i ρ with
 |none=>none
 |some _=>match fs ρ with
  |none=>none
  |some (ds,ρ1)=>match eI i ρ1 with
   |none=>none
   |some bs=>if ds.length=n then match M bs ds with
     |none=>none
     |some (d,bs')=>some (d,dI i bs' ρ1) else none
theorem mt {i:Nat}{M:List D->List D->Option (D×List D)}{fs:GA}{ρ ρ':aG}{d:D}(h:aF i n M fs ρ=some (d,ρ')): ∃bs0 ds ρ1 bs bs',eI i ρ=some bs0/\fs ρ=some (ds,ρ1)/\eI i ρ1=some bs/\ds.length=n/\M bs ds=some (d,bs')/\ρ'=dI i bs' ρ1:=by
 unfold aF at h;split at h
 ·cases h
 ·split at h
  ·cases h
  ·split at h
   ·cases h
   ·split at h
    ·split at h
     ·cases h
     ·cases h;exact⟨_,_,_,_,_, ‹_›, ‹_›, ‹_›, ‹_›, ‹_›,rfl⟩
    ·cases h
theorem xa(i:Nat){y:Str}{py:Pos}{M:List D->List D->Option (D×List D)}{fs:GA}(F:FnOk X.prog X.w X.K X.mg X.base nU j f fd ps (rO X.K k n M))(hr:Room j X.A)(hm:X.mg x=some (.ref f))(hk:W.keepIn X.K (.ref f)=true)(hb:Binds X.K fd ps [])
 (ha:DG X c es fs) (hkb:k≠ .b:=by decide) (hN:X.N[i]? =some y:=by rfl) (hv:nB X.env.scope y:=by first|exact Or.inl rfl|exact Or.inr (Or.inl rfl)|exact Or.inr (Or.inr rfl)) (hd:(y==("__debug__":Str))=false:=by decide)
 (hcd:(y==("__classdict__":Str))=false:=by decide) (hs:starEach (.Name y py::es) X.env=(false,eval (.Name y py) X.env)::starEach es X.env:=by rfl) (hg:Gl X x:=by rfl) (hdb:(x==("__debug__":Str))=false:=by decide) (hpl:(backTo pos (starEach es X.env)).any (·.1)=false:=by rfl):
 DE X c k (.Call (.Name x p) (.Name y py::es) [] pos) (aF i n M fs):=λhid ρ=>
 PE.imp (jT F hr hg hm hk hb .nil (pU (X:=X)) (bV (pv i hN hv hd hcd) (ha hid ρ) hs) hdb hs hpl) λσ H Q hq_=>by
  obtain⟨sr,d,ρ',hd',q⟩:=hq_;obtain⟨bs0,ds,ρ1,bs,bs',e0,e1,e2,e3,e4,rfl⟩:=mt hd';obtain⟨a,xs0,a1,_,a3,_,_⟩:=sr.held e0;refine⟨.ref a,a1,sr,ds,ρ1,e1,λus H1 k1 s1 r1=>?_⟩;obtain⟨a',xs,b1,b2,b3,b4,b5⟩:=s1.held e2;rw[a1] at b1;cases b1;show rO X.K k n M ((.ref a::us)++[]) H1 Q E0;rw[List.append_nil];refine⟨hid,a,xs,bs,us,ds,rfl,s1.trk,b3,b2,b4,r1,e3,d,bs',e4,λv H' xs' kp hx hr'=>q v H' ?_⟩;have kp':Kept hid H1 H':=λb o q hb=>kp b o q λe=>by subst e;rw[b3] at hb;cases hb
  cases k with
  |b=>exact absurd rfl hkb
  |s=>exact⟨k1.trans kp',s1.put e2 a1 kp hx hr'.2,hr'.1⟩
  |n=>
   obtain⟨p',ys,es',rfl,rfl,h1,h2,h3,h4⟩:=hr';have np:hid p'=false:=s1.fresh h1;have na:a≠p':=λe=>by subst e;rw[b2] at h1;cases h1
   have sB:SR X.K c (bY hid p') ρ1 σ (cb H1 p' (.lst ys)):=s1.hide (bq h1 _) h1 aN;have kp2: ∀b o,(cb H1 p' (.lst ys)) b=some o->b≠a->H' b=some o:=λb o z hb=>by
    by_cases e:b=p'
    ·subst e;rw[aN] at z;cases z;exact h2
    ·rw[aH e] at z;exact kp b o z hb
   have sC:SR X.K c (bY hid p') (dI i bs' ρ1) σ H':=sB.put e2 a1 kp2 hx h4;have hn:H p'=none:=by
    cases e:H p' with
    |none=>rfl
    |some o=>rw[k1 p' o e np] at h1;cases h1
   refine⟨k1.trans kp',p',ys,es',rfl,rfl,hn,h2,s1.fresh0 h1,np,sC,h3,λm hm hσ=>?_⟩;have:=s1.notOw np m (oI hm);exact this hσ
end
inductive Out where
 |nx (ρ:aG)|rt (d:D) (ρ:aG)|bk (ρ:aG)|ct (ρ:aG)|no
abbrev FS:=aG->Out
def D4(c:Ct)(k:Kd)(v:V):bw:=match k,v with
 | .n,.ref a=>bY c.hid₀ a
 |_,_=>c.hid₀
structure Ret(K:W.Frag)(c:Ct)(k:Kd)(ρ':aG)(H':Hp)(v:V)(d:D):Prop where
 kp: ∀b o,c.H₀ b=some o->c.mu b=false->H' b=some o
 val:match k with
  | .n=> ∃a xs ds,d=.lst ds/\v=.ref a/\c.H₀ a=none/\H' a=some (.lst xs)/\Reps K (vw H' (bY c.hid₀ a)) xs ds
  |_=>Rep K (vw H' c.hid₀) v d
 arg: ∀(i:Nat) (bs:List D),ρ'[i]? =some (Sl.arg bs)-> ∃a xs,c.mu a=true/\H' a=some (.lst xs)/\Reps K (vw H' (D4 c k v)) xs bs
def EndOk(K:W.Frag)(c:Ct)(k:Kd)(D:Ends)(W:Hp):Out->Prop
 | .nx ρ'=> ∀σ' H' hid',SR K c hid' ρ' σ' H'->Same W (vw H' hid')->D.nx σ' H'
 | .rt d ρ'=> ∀v H',Ret K c k ρ' H' v d->D.rt v H'
 | .bk ρ'=> ∀σ' H' hid',SR K c hid' ρ' σ' H'->Same W (vw H' hid')->D.bk σ' H'
 | .ct ρ'=> ∀σ' H' hid',SR K c hid' ρ' σ' H'->Same W (vw H' hid')->D.ct σ' H'
 | .no=>False
theorem EndOk.mono {K:W.Frag}{c:Ct}{k:Kd}{D:Ends}{W W':Hp}{o:Out}(h:EndOk K c k D W o)(s:Same W W'):EndOk K c k D W' o:=by
 cases o with
 |nx ρ=>exact λσ' H' hid' z w=>h σ' H' hid' z (s.trans w)
 |rt d ρ=>exact h
 |bk ρ=>exact λσ' H' hid' z w=>h σ' H' hid' z (s.trans w)
 |ct ρ=>exact λσ' H' hid' z w=>h σ' H' hid' z (s.trans w)
 |no=>exact h
def ES(K:W.Frag)(c:Ct)(k:Kd)(t:FS)(ρ:aG):TS:=λD σ H=> ∃hid,SR K c hid ρ σ H/\EndOk K c k D (vw H hid) (t ρ)
def DS(X:Cx)(c:Ct)(k:Kd)(st:Stmt)(t:FS):Prop:= ∀ρ,PS X st (ES X.K c k t ρ)
def rN(X:Cx)(c:Ct)(k:Kd)(st:List Stmt)(t:FS):Prop:= ∀ρ,PSs X st (ES X.K c k t ρ)
section
variable {X:Cx}{c:Ct}{k:Kd}{st:Stmt}{sts rest:List Stmt}{t u:FS}{e:Expr}{pos:Pos}
theorem tZ {α:Type}{t:α->TS}(h: ∀z,PSs X sts (t z)):PSs X sts (λD σ H=> ∃z,t z D σ H):=λaa s σ H D I ⟨z,q⟩=>h z aa s σ H D I q
theorem Cg {α:Type}{t:α->TT}(h: ∀z,PT X e (t z)):PT X e (λD σ H=> ∃z,t z D σ H):=λaa s σ H D I ⟨z,q⟩=>h z aa s σ H D I q
def skip:FS:=λρ=>.nx ρ
def aJ(t u:FS):FS:=λρ=>match t ρ with
 | .nx ρ'=>u ρ'
 | .rt d ρ'=>.rt d ρ'
 | .bk ρ'=>.bk ρ'
 | .ct ρ'=>.ct ρ'
 | .no=>.no
theorem ci:rN X c k [] skip:=λρ=>PSs.imp uk λD σ H ⟨hid,sr,q⟩=>q σ H hid sr (Same.refl _)
theorem aB(h:DS X c k st t):rN X c k [st] t:=λρ=>ui (h ρ)
theorem av(h1:DS X c k st t)(h2:rN X c k rest u):rN X c k (st::rest) (aJ t u):=λρ=>
 PSs.imp (pO (h1 ρ) (tZ λρ1=>h2 ρ1)) λD σ H hq_=>by
  obtain⟨hid,sr,q⟩:=hq_;refine⟨hid,sr,?_⟩;unfold aJ at q;cases e:t ρ with
  |nx ρ1=>rw[e] at q;exact λσ1 H1 hid1 sr1 v1=>⟨ρ1,hid1,sr1,EndOk.mono q v1⟩
  |rt d ρ1=>rw[e] at q;exact q
  |bk ρ1=>rw[e] at q;exact q
  |ct ρ1=>rw[e] at q;exact q
  |no=>rw[e] at q;exact q
def zf:FS:=λρ=>.ct ρ
theorem yX:DS X c k (.Continue pos) zf:=λρ=>PS.imp rH λD σ H ⟨hid,sr,q⟩=>q σ H hid sr (Same.refl _)
def fI(p:FT)(t u:FS):FS:=λρ=>match p ρ with
 |some true=>t ρ
 |some false=>u ρ
 |none=>.no
theorem dW {p:FT}{a b:List Stmt}(hp:DT X c e p)(ha:rN X c k a t)(hb:rN X c k b u):DS X c k (.If e a b pos) (fI p t u):=λρ=>
 PS.imp (AE (Cg λhid=>hp hid ρ) (ha ρ) (hb ρ)) λD σ H hq_=>by
  obtain⟨hid,sr,q⟩:=hq_;cases e1:p ρ with
  |none=>unfold fI at q;rw[e1] at q;exact q.elim
  |some x=>
   refine⟨hid,sr,x,e1,λH1 s1=>?_⟩;unfold fI at q;rw[e1] at q;cases x with
   |true=>exact ss ⟨hid,sr.ext s1,EndOk.mono q (aM s1)⟩
   |false=>exact sQ ⟨hid,sr.ext s1,EndOk.mono q (aM s1)⟩
def aV(f:FE):FS:=λρ=>match f ρ with
 |some d=>.rt d ρ
 |none=>.no
theorem xx {K:W.Frag}{hid:bw}{ρ':aG}{σ:St}{H H':Hp}{v:V}{d:D}(hk:k≠ .b)(p:PostE K c hid k ρ' σ H H' v d)(h0: ∀b,c.hid₀ b=true->hid b=true):Ret K c k ρ' H' v d:=by
 cases k with
 |b=>exact absurd rfl hk
 |s=>
  obtain⟨_,sr,r⟩:=p;refine⟨sr.kp,r.mono (eZ sr.h0),λi bs e=>?_⟩;obtain⟨a,xs,z1,z2,z3,z4,z5⟩:=sr.sl i _ e;refine⟨a,xs,z4,z2,?_⟩;show Reps K (vw H' c.hid₀) xs bs;exact z5.mono (eZ sr.h0)
 |n=>
  obtain⟨_,a,xs,ds,rfl,rfl,_,h1,h2,h3,sr,h5,h6⟩:=p;have le:Same (vw H' (bY hid a)) (vw H' (bY c.hid₀ a)):=eZ λb q=>by
   unfold bY at q⊢;cases e:c.hid₀ b with
   |true=>rw[h0 b e];rfl
   |false=>rw[e] at q;rw[Bool.or_eq_true];right;simpa using q
  refine⟨sr.kp,⟨a,xs,ds,rfl,rfl,h2,h1,h5.mono le⟩,λi bs e=>?_⟩;obtain⟨a',xs',z1,z2,z3,z4,z5⟩:=sr.sl i _ e;exact⟨a',xs',z4,z2,z5.mono le⟩
theorem aZ {f:FE}(he:DP X c k e f)(hk:k≠ .b:=by decide):DS X c k (.Return (some e) pos) (aV f):=λρ=>PS.imp (sL (jW λhid=>he hid ρ)) λD σ H hq_=>by
 obtain⟨hid,sr,q⟩:=hq_;unfold aV at q;cases e1:f ρ with
 |none=>rw[e1] at q;exact q.elim
 |some z=>rw[e1] at q;exact⟨hid,sr,_,e1,λv H' s r=>q v H' (xx hk (sr.post s r hk) sr.h0)⟩
def uX:Option Sl->Option (List D)
 |some (.own ds)=>some ds
 |_=>none
def vX(i:Nat):FS:=λρ=>match uX ρ[i]? with
 |some ds=>.rt (.lst ds) ρ
 |none=>.no
theorem ny {o:Option Sl}{ds:List D}(h:uX o=some ds):o=some (.own ds):=by
 unfold uX at h;split at h
 ·cases h;rfl
 ·cases h
theorem uF(i:Nat){x:Str}{pos':Pos}(hN:X.N[i]? =some x:=by rfl)(hv:nB X.env.scope x:=by first|exact Or.inl rfl|exact Or.inr (Or.inl rfl)|exact Or.inr (Or.inr rfl))(hd:(x==("__debug__":Str))=false:=by decide)
 (hcd:(x==("__classdict__":Str))=false:=by decide):DS X c .n (.Return (some (.Name x pos')) pos) (vX i):=λρ=>PS.imp (sL (pv i hN hv hd hcd)) λD σ H hq_=>by
 obtain⟨hid,sr,q⟩:=hq_;unfold vX at q;cases e0:uX ρ[i]? with
 |none=>rw[e0] at q;exact q.elim
 |some ds=>
  rw[e0] at q;have e:=ny e0;obtain⟨a,xs,z1,z2,z3,z4,z5⟩:=sr.sl i _ e;have le:Same (vw H hid) (vw H (bY c.hid₀ a)):=eZ λb w=>by
   unfold bY at w;cases e:c.hid₀ b with
   |true=>exact sr.h0 b e
   |false=>
    rw[e] at w;have:b=a:=by simpa using w
    rw[this];exact z3
  refine⟨_,z1,q _ H ⟨sr.kp,⟨a,xs,ds,rfl,rfl,z4,z2,z5.mono le⟩,λj bs e'=>?_⟩⟩;obtain⟨a',xs',w1,w2,w3,w4,w5⟩:=sr.sl j _ e';exact⟨a',xs',w4,w2,w5.mono le⟩
end
section
variable {K:W.Frag}{c:Ct}{hid:bw}{ρ:aG}{σ:St}{H H':Hp}{i:Nat}{a:Addr}{v:V}{d:D}
theorem SR.setV(h:SR K c hid ρ σ H)(r:Rep K (vw H hid) v d)(i:Nat):SR K c hid (ρ.set i (.v d)) (σ.set i (some v)) H:=by
 refine⟨h.tr,h.ht,h.h0,h.kp,h.t0,h.c0,h.m0,by simp[h.len],λj s q=>?_,λj l z n o1 o2 q1 q2=>?_⟩
 ·by_cases e:j=i
  ·subst e;have lt:j<ρ.length:=by
    have:=(List.getElem?_eq_some_iff.mp q).1;simpa using this
   rw[List.getElem?_set_self lt] at q;cases q;exact⟨v,List.getElem?_set_self (by rw[h.len];exact lt),r⟩
  ·rw[List.getElem?_set_ne (Ne.symm e)] at q;have w:=h.sl j s q;have es:(σ.set i (some v))[j]? =σ[j]? :=List.getElem?_set_ne (Ne.symm e);cases s with
   |no=>trivial
   |v d=>obtain⟨x,h1,h2⟩:=w;exact⟨x,es.trans h1,h2⟩
   |own ds=>obtain⟨a,xs,h1,h2⟩:=w;exact⟨a,xs,es.trans h1,h2⟩
   |arg ds=>obtain⟨a,xs,h1,h2⟩:=w;exact⟨a,xs,es.trans h1,h2⟩
   |ob b=>obtain⟨a,h1,h2⟩:=w;exact⟨a,es.trans h1,h2⟩
 ·have nj: ∀m,Ow (ρ.set i (.v d))[m]? ->m≠i:=λm o e=>by
   subst e
   by_cases lt:m<ρ.length
   ·rw[List.getElem?_set_self lt] at o;exact o
   ·rw[List.getElem?_eq_none (by simpa using lt)] at o;exact o
  have e1:=nj j o1;have e2:=nj l o2;rw[List.getElem?_set_ne (Ne.symm e1)] at o1 q1;rw[List.getElem?_set_ne (Ne.symm e2)] at o2 q2;exact h.ap j l z n o1 o2 q1 q2
theorem SR.setO {xs:List V}{ds:List D}(h:SR K c hid ρ σ H)(ha:H a=some (.lst xs))(hh:hid a=true)(h0:c.H₀ a=none)(r:Reps K (vw H hid) xs ds)(no: ∀i:Nat,Ow ρ[i]? ->σ[i]? ≠some (some (.ref a)))(i:Nat):
 SR K c hid (ρ.set i (.own ds)) (σ.set i (some (.ref a))) H:=by
 refine⟨h.tr,h.ht,h.h0,h.kp,h.t0,h.c0,h.m0,by simp[h.len],λj s q=>?_,λj l z n o1 o2 q1 q2=>?_⟩
 ·by_cases e:j=i
  ·subst e;have lt:j<ρ.length:=by
    have:=(List.getElem?_eq_some_iff.mp q).1;simpa using this
   rw[List.getElem?_set_self lt] at q;cases q;exact⟨a,xs,List.getElem?_set_self (by rw[h.len];exact lt),ha,hh,h0,r⟩
  ·rw[List.getElem?_set_ne (Ne.symm e)] at q;have w:=h.sl j s q;have es:(σ.set i (some (V.ref a)))[j]? =σ[j]? :=List.getElem?_set_ne (Ne.symm e);cases s with
   |no=>trivial
   |v d=>obtain⟨x,h1,h2⟩:=w;exact⟨x,es.trans h1,h2⟩
   |own ds=>obtain⟨a,xs,h1,h2⟩:=w;exact⟨a,xs,es.trans h1,h2⟩
   |arg ds=>obtain⟨a,xs,h1,h2⟩:=w;exact⟨a,xs,es.trans h1,h2⟩
   |ob b=>obtain⟨a,h1,h2⟩:=w;exact⟨a,es.trans h1,h2⟩
 ·by_cases e1:j=i
  ·subst e1;have e2:l≠j:=λe=>n e.symm
   rw[List.getElem?_set_ne (Ne.symm e2)] at o2 q2
   by_cases lt:j<σ.length
   ·rw[List.getElem?_set_self lt] at q1;cases q1;exact no l o2 q2
   ·rw[List.getElem?_eq_none (by simpa using lt)] at q1;cases q1
  ·rw[List.getElem?_set_ne (Ne.symm e1)] at o1 q1
   by_cases e2:l=i
   ·subst e2
    by_cases lt:l<σ.length
    ·rw[List.getElem?_set_self lt] at q2;cases q2;exact no j o1 q1
    ·rw[List.getElem?_eq_none (by simpa using lt)] at q2;cases q2
   ·rw[List.getElem?_set_ne (Ne.symm e2)] at o2 q2;exact h.ap j l z n o1 o2 q1 q2
end
section
variable {X:Cx}{c:Ct}{k:Kd}{st:Stmt}{sts rest:List Stmt}{t u:FS}{e:Expr}{es:List Expr}{pos pos':Pos}{x:Str}{i:Nat}
def dc(i:Nat)(f:GE):FS:=λρ=>match f ρ with
 |some (d,ρ')=>.nx (ρ'.set i (.v d))
 |none=>.no
def bK(i:Nat)(f:FE):FS:=λρ=>match f ρ with
 |some d=>.nx (ρ.set i (.v d))
 |none=>.no
def Ew:D->Option (List D)
 | .lst ds=>some ds
 |_=>none
def vo(i:Nat)(f:GE):FS:=λρ=>match f ρ with
 |some (d,ρ')=>(match Ew d with
  |some ds=>.nx (ρ'.set i (.own ds))
  |none=>.no)
 |none=>.no
def fG(i:Nat)(f:FE):FS:=λρ=>match f ρ with
 |some d=>(match Ew d with
  |some ds=>.nx (ρ.set i (.own ds))
  |none=>.no)
 |none=>.no
theorem cR(i:Nat){f:GE}(hn:X.N.Nodup)(he:DE X c .s e f)(hi:X.N[i]? =some x:=by rfl)(hx:xI X.env.scope x:=by first|exact Or.inl rfl|exact Or.inr rfl)(hs:swapsWith e (some (.Name x pos')) pos.line X.env=pure false:=by rfl)
 (hf:X.fn x=true\/X.env.scope.names.lookup x=some .local:=by first|exact .inl rfl|exact .inr rfl|assumption):DS X c k (.Assign [.Name x pos'] e pos) (dc i f):=λρ=>PS.imp (kD hn hi hx (jW λhid=>he hid ρ) hs hf) λD σ H hq_=>by
 obtain⟨hid,sr,q⟩:=hq_;unfold dc at q;cases e1:f ρ with
 |none=>rw[e1] at q;exact q.elim
 |some z=>
  rw[e1] at q;exact⟨hid,sr,z.1,z.2,e1,λv H' ⟨kp,s',r⟩=>q _ H' hid (s'.setV r i) kp.vw⟩
theorem cw(i:Nat){f:FE}(hn:X.N.Nodup)(he:DP X c .s e f)(hi:X.N[i]? =some x:=by rfl)(hx:xI X.env.scope x:=by first|exact Or.inl rfl|exact Or.inr rfl)(hs:swapsWith e (some (.Name x pos')) pos.line X.env=pure false:=by rfl)
 (hf:X.fn x=true\/X.env.scope.names.lookup x=some .local:=by first|exact .inl rfl|exact .inr rfl|assumption):DS X c k (.Assign [.Name x pos'] e pos) (bK i f):=λρ=>PS.imp (kD hn hi hx (jW λhid=>he hid ρ) hs hf) λD σ H hq_=>by
 obtain⟨hid,sr,q⟩:=hq_;unfold bK at q;cases e1:f ρ with
 |none=>rw[e1] at q;exact q.elim
 |some z=>
  rw[e1] at q;exact⟨hid,sr,z,e1,λv H' s' r=>q _ H' hid ((sr.ext s').setV r i) (aM s')⟩
theorem Dm {K:W.Frag}{hid:bw}{ρ':aG}{σ:St}{H H':Hp}{v:V}{d:D}{D:Ends}(p:PostE K c hid .n ρ' σ H H' v d)(q:EndOk K c k D (vw H hid) (match Ew d with
 |some ds=>.nx (ρ'.set i (.own ds))
 |none=>.no)):D.nx (σ.set i (some v)) H':=by
 obtain⟨kp,a,xs,ds,rfl,rfl,hn,h1,h2,h3,h4,h5,h6⟩:=p;refine q _ H' (bY hid a) (h4.setO h1 fM h2 h5 h6 i) λb o w=>?_
 obtain⟨w1,w2⟩:=vw_some.mp w;refine vw_some.mpr ⟨?_,kp b o w2 w1⟩;unfold bY;rw[w1];have:b≠a:=bo w2 hn;simp[this]
theorem zY(i:Nat){f:GE}(hn:X.N.Nodup)(he:DE X c .n e f)(hi:X.N[i]? =some x:=by rfl)(hx:xI X.env.scope x:=by first|exact Or.inl rfl|exact Or.inr rfl)(hs:swapsWith e (some (.Name x pos')) pos.line X.env=pure false:=by rfl)
 (hf:X.fn x=true\/X.env.scope.names.lookup x=some .local:=by first|exact .inl rfl|exact .inr rfl|assumption):DS X c k (.Assign [.Name x pos'] e pos) (vo i f):=λρ=>PS.imp (kD hn hi hx (jW λhid=>he hid ρ) hs hf) λD σ H hq_=>by
 obtain⟨hid,sr,q⟩:=hq_;unfold vo at q;cases e1:f ρ with
 |none=>rw[e1] at q;exact q.elim
 |some z=>
  rw[e1] at q;exact⟨hid,sr,z.1,z.2,e1,λv H' p=>Dm p q⟩
theorem gq(i:Nat){f:FE}(hn:X.N.Nodup)(he:DP X c .n e f)(hi:X.N[i]? =some x:=by rfl)(hx:xI X.env.scope x:=by first|exact Or.inl rfl|exact Or.inr rfl)(hs:swapsWith e (some (.Name x pos')) pos.line X.env=pure false:=by rfl)
 (hf:X.fn x=true\/X.env.scope.names.lookup x=some .local:=by first|exact .inl rfl|exact .inr rfl|assumption):DS X c k (.Assign [.Name x pos'] e pos) (fG i f):=λρ=>PS.imp (kD hn hi hx (jW λhid=>he hid ρ) hs hf) λD σ H hq_=>by
 obtain⟨hid,sr,q⟩:=hq_;unfold fG at q;cases e1:f ρ with
 |none=>rw[e1] at q;exact q.elim
 |some z=>
  rw[e1] at q;exact⟨hid,sr,z,e1,λv H' s r=>Dm (sr.post s r (by decide)) q⟩
def ku(i:Nat)(ρ:aG):aG:=match uX ρ[i]? with
 |some ds=>ρ.set i (.v (.lst ds))
 |none=>ρ
theorem SR.freeze {K:W.Frag}{hid:bw}{ρ:aG}{σ:St}{H:Hp}(h:SR K c hid ρ σ H)(i:Nat): ∃hid',SR K c hid' (ku i ρ) σ H/\Same (vw H hid) (vw H hid'):=by
 unfold ku;cases e0:uX ρ[i]? with
 |none=>exact⟨hid,h,Same.refl _⟩
 |some ds=>
  have e:=ny e0;obtain⟨a,xs,z1,z2,z3,z4,z5⟩:=h.sl i _ e;have sm:Same (vw H hid) (vw H (gC hid a)):=eZ λb w=>by unfold gC at w;rw[Bool.and_eq_true] at w;exact w.1
  have un: ∀b,b≠a->hid b=true->gC hid a b=true:=λb n w=>by unfold gC;rw[w];simp[n]
  have na:c.hid₀ a=false:=by
   cases q:c.hid₀ a with
   |false=>rfl
   |true=>obtain⟨o,w⟩:=h.c0 a q;rw[z4] at w;cases w
  refine⟨gC hid a,⟨λb w=>h.tr b (by unfold gC at w;rw[Bool.and_eq_true] at w;exact w.1),λb xs w=>h.ht b xs (by unfold gC at w;rw[Bool.and_eq_true] at w;exact w.1),λb w=>un b (λe=>by subst e;rw[na] at w;cases w) (h.h0 b w),h.kp,h.t0,h.c0,h.m0,by simp[h.len],λj s q=>?_,λj l z n o1 o2 q1 q2=>?_⟩,sm⟩
  ·by_cases ej:j=i
   ·subst ej;rw[List.getElem?_set_self (List.getElem?_eq_some_iff.mp e).1] at q;cases q;exact⟨_,z1,.lst (vw_some.mpr ⟨by unfold gC;simp,z2⟩) (z5.mono sm)⟩
   ·rw[List.getElem?_set_ne (Ne.symm ej)] at q;have w:=h.sl j s q;cases s with
    |no=>trivial
    |v d=>obtain⟨x,h1,h2⟩:=w;exact⟨x,h1,h2.mono sm⟩
    |own ds=>
     obtain⟨a',xs,h1,h2,h3,h4,h5⟩:=w;exact⟨a',xs,h1,h2,un a' (λe'=>by subst e';exact h.ap j i _ ej (by rw[q];trivial) (by rw[e];trivial) h1 z1) h3,h4,h5.mono sm⟩
    |arg ds=>
     obtain⟨a',xs,h1,h2,h3,h4,h5⟩:=w;exact⟨a',xs,h1,h2,un a' (λe'=>by subst e';exact h.ap j i _ ej (by rw[q];trivial) (by rw[e];trivial) h1 z1) h3,h4,h5.mono sm⟩
    |ob b=>
     obtain⟨a',h1,h2⟩:=w;exact⟨a',h1,h2.mono (λ_ _ _ _ q=>q) sm λow x hx=>un x (hx.ne (λe'=>by subst e';exact h.ap j i _ ej (by rw[q];exact ow) (by rw[e];trivial) h1 z1) z2)⟩
  ·have nj: ∀m,Ow (ρ.set i (.v (.lst ds)))[m]? ->m≠i:=λm o e'=>by
    subst e'
    by_cases lt:m<ρ.length
    ·rw[List.getElem?_set_self lt] at o;exact o
    ·rw[List.getElem?_eq_none (by simpa using lt)] at o;exact o
   have e1:=nj j o1;have e2:=nj l o2;rw[List.getElem?_set_ne (Ne.symm e1)] at o1;rw[List.getElem?_set_ne (Ne.symm e2)] at o2;exact h.ap j l z n o1 o2 q1 q2
theorem pB(i:Nat)(h:DS X c k st t):DS X c k st (λρ=>t (ku i ρ)):=λρ=>PS.imp (h (ku i ρ)) λD σ H hq_=>by
 obtain⟨hid,sr,q⟩:=hq_;obtain⟨hid',sr',sm⟩:=sr.freeze i;exact⟨hid',sr',EndOk.mono q sm⟩
def de(f:GE):FS:=λρ=>match f ρ with
 |some (_,ρ')=>.nx ρ'
 |none=>.no
theorem jG {f:GE}(he:DE X c .s e f)(hs:swapsWith e none pos.line X.env=pure false:=by rfl):DS X c k (.Expr e pos) (de f):=λρ=>PS.imp (yM (jW λhid=>he hid ρ) hs) λD σ H hq_=>by
 obtain⟨hid,sr,q⟩:=hq_;unfold de at q;cases e1:f ρ with
 |none=>rw[e1] at q;exact q.elim
 |some z=>
  rw[e1] at q;exact⟨hid,sr,z.1,z.2,e1,λv H' ⟨kp,s',_⟩=>q _ H' hid s' kp.vw⟩
def Em(K:W.Frag)(r:V->List V->Hp->VK->Prop)(n:Nat)(M:List D->List D->Option (D×List D)):Prop:= ∀(H:Hp) (hid:bw) (a:Addr) (xs us:List V) (bs ds bs':List D) (d:D) (Q:VK),H a=some (.lst xs)->hid a=true->Reps K (vw H hid) xs bs->Reps K (vw H hid) us ds->
 ds.length=n->M bs ds=some (d,bs')->(∀w xs',Reps K (vw H hid) xs' bs'->Rep K (vw H hid) w d->Q w (cb H a (.lst xs')))->r (.ref a) us H Q
theorem CT {K:W.Frag}{r:V->List V->Hp->VK->Prop}{n:Nat}{M:List D->List D->Option (D×List D)}(hM:Em K r n M){hid:bw}{ρ1:aG}{σ:St}{H H1:Hp}{a:Addr}{us:List V}{bs ds bs':List D}{d:D}{Q:VK}(k1:Kept hid H H1)(s1:SR K c hid ρ1 σ H1)(e2:eI i ρ1=some bs)
 (ha:σ[i]? =some (some (.ref a))) (r1:Reps K (vw H1 hid) us ds) (hn:ds.length=n) (hm:M bs ds=some (d,bs')) (q: ∀v H',PostE K c hid .s (dI i bs' ρ1) σ H H' v d->Q v H'):r (.ref a) us H1 Q:=by
 obtain⟨a',xs,b1,b2,b3,b4,b5⟩:=s1.held e2;rw[ha] at b1;cases b1;refine hM H1 hid a xs us bs ds bs' d Q b2 b3 b4 r1 hn hm λw xs' rx rw'=>q w _ ⟨k1.trans λb o z hb=>?_,?_,?_⟩
 ·rw[aH (λe=>by subst e;rw[b3] at hb;cases hb)];exact z
 ·exact s1.put e2 ha (λb o z hb=>by rw[aH hb];exact z) aN (by rw[eL b3];exact rx)
 ·rw[eL b3];exact rw'
variable {n:Nat}{M:List D->List D->Option (D×List D)}{fs:GA}{r:V->List V->Hp->VK->Prop}{y name:Str}{py apos:Pos}{id:String}
theorem lI(i:Nat)(hM:Em X.K r n M)(hm:EH X id r)(slot:Slot "list" name id)(hty:typeOf (.builtin id)=pure (.type "method_descriptor"))(ha:DG X c (e::es) fs)
 (hN:X.N[i]? =some y:=by rfl) (hv:nB X.env.scope y:=by first|exact Or.inl rfl|exact Or.inr (Or.inl rfl)|exact Or.inr (Or.inr rfl)) (hd:(y==("__debug__":Str))=false:=by decide) (hcd:(y==("__classdict__":Str))=false:=by decide)
 (hbase:attributeBase (.Name y py) name X.env (eval (.Name y py) X.env)=eval (.Name y py) X.env:=by rfl)
 (hfew:((backTo pos (starEach (e::es) X.env)).all (λx=> !x.1)&&(backToKw pos (keywordEach [] X.env)).all (λx=>x.1.isSome)
   &&decide ((e::es).length+([]:List Keyword).length+(if([]:List Keyword).isEmpty then 0 else 1)<30))=true:=by rfl)
 (hline:(apos.endLine==pos.line)=true:=by rfl) (hs:starEach (e::es) X.env=(false,eval e X.env)::starEach es X.env:=by rfl) (hplain:(backTo pos (starEach es X.env)).any (·.1)=false:=by rfl):
 DE X c .s (.Call (.Attribute (.Name y py) name apos) (e::es) [] pos) (aF i n M fs):=λhid ρ=>
 PE.imp (uw PySem.F.plainAttrs_list slot hty hm (pv i hN hv hd hcd) (ha hid ρ) hbase hfew hline hs hplain) λσ H Q hq_=>by
  obtain⟨sr,d,ρ',hd',q⟩:=hq_;obtain⟨bs0,ds,ρ1,bs,bs',e0,e1,e2,e3,e4,rfl⟩:=mt hd';obtain⟨a,xs0,a1,a2,a3,_,_⟩:=sr.held e0;exact⟨.ref a,a1,.inl ⟨rfl,_,SqL.of a2⟩,sr,ds,ρ1,e1,λus H1 k1 s1 r1=>CT hM k1 s1 e2 a1 r1 e3 e4 q⟩
end
section
variable {K:W.Frag}
def iK:List D->List D->Option (D×List D):=λbs ds=>match ds with
 | [d]=>if bs.length<sizeLine then some (.non,bs++[d]) else none
 |_=>none
theorem i7:Em K tS 1 iK:=by
 intro H hid a xs us bs ds bs' d Q h1 h2 h3 h4 h5 h6 q;unfold iK at h6;split at h6
 ·split at h6
  ·cases h6;cases h4 with
   |cons r t=>
    cases t;exact⟨a,xs,_,rfl,rfl,h1,by rw[h3.length];assumption,q _ _ (h3.append (.cons r .nil)) .non⟩
  ·cases h6
 ·cases h6
end
abbrev FG:=D->aG->Option aG
abbrev tY:=List D->aG->Option aG
def OwK(ρ ρ':aG)(σ σ':St):Prop:= ∀i:Nat,Ow ρ'[i]? ->Ow ρ[i]? /\σ'[i]? =σ[i]?
theorem OwK.trans {ρ ρ1 ρ2:aG}{σ σ1 σ2:St}(a:OwK ρ ρ1 σ σ1)(b:OwK ρ1 ρ2 σ1 σ2):OwK ρ ρ2 σ σ2:=λi o=>⟨(a i (b i o).1).1,(b i o).2.trans (a i (b i o).1).2⟩
def D2 {ι:Type}(IR:Hp->V->ι->Prop)(K:W.Frag)(c:Ct)(hid:bw)(g:ι->aG->Option aG)(ρ:aG)(d:ι):TG:=λv σ H Q=>SR K c hid ρ σ H/\IR (vw H hid) v d/\ ∃ρ',g d ρ=some ρ'/\ ∀σ',SR K c hid ρ' σ' H->OwK ρ ρ' σ σ'->Q σ' H
def DM {ι:Type}(IR:Hp->V->ι->Prop)(X:Cx)(c:Ct)(tg:Expr)(g:ι->aG->Option aG):Prop:= ∀hid ρ d,PG X tg (D2 IR X.K c hid g ρ d)
abbrev uW(X:Cx)(c:Ct)(tg:Expr)(g:FG):Prop:=DM (Rep X.K) X c tg g
def DZ(K:W.Frag)(c:Ct)(hid:bw)(g:tY)(ρ:aG)(d:List D):yx:=λv σ H Q=>SR K c hid ρ σ H/\Reps K (vw H hid) v d/\ ∃ρ',g d ρ=some ρ'/\ ∀σ',SR K c hid ρ' σ' H->OwK ρ ρ' σ σ'->Q σ' H
def DL(X:Cx)(c:Ct)(tg:List Expr)(g:tY):Prop:= ∀hid ρ d,PGs X tg (DZ X.K c hid g ρ d)
theorem PG.imp {X:Cx}{e:Expr}{t t':TG}(h:PG X e t)(i: ∀v σ H Q,t' v σ H Q->t v σ H Q):PG X e t':=λaa s σ H v u Q I r q=>h aa s σ H v u Q I r (i v σ H Q q)
theorem PGs.imp {X:Cx}{e:List Expr}{t t':yx}(h:PGs X e t)(i: ∀v σ H Q,t' v σ H Q->t v σ H Q):PGs X e t':=λaa s σ H v u Q I r q=>h aa s σ H v u Q I r (i v σ H Q q)
theorem zr {X:Cx}{e:Expr}{α:Type}{t:α->TG}(h: ∀z,PG X e (t z)):PG X e (λv σ H Q=> ∃z,t z v σ H Q):=λaa s σ H v u Q I r ⟨z,q⟩=>h z aa s σ H v u Q I r q
theorem Ap {X:Cx}{e:List Expr}{α:Type}{t:α->yx}(h: ∀z,PGs X e (t z)):PGs X e (λv σ H Q=> ∃z,t z v σ H Q):=λaa s σ H v u Q I r ⟨z,q⟩=>h z aa s σ H v u Q I r q
section
variable {X:Cx}{c:Ct}{k:Kd}{st:Stmt}{sts body:List Stmt}{t u:FS}{e tg iter:Expr}{es:List Expr}{pos pos':Pos}{x:Str}{i:Nat}
def gN(i:Nat):FG:=λd ρ=>some (ρ.set i (.v d))
theorem aC(i:Nat)(hn:X.N.Nodup)(hi:X.N[i]? =some x:=by rfl)(hx:xI X.env.scope x:=by first|exact Or.inl rfl|exact Or.inr rfl)(hf:X.fn x=true\/X.env.scope.names.lookup x=some .local:=by first|exact .inl rfl|exact .inr rfl|assumption):
 uW X c (.Name x pos) (gN i):=λhid ρ d=>PG.imp (Al (i:=i) hn hi hx hf) λv σ H Q hq_=>by
 obtain⟨sr,r,ρ',e,q⟩:=hq_;cases e;refine q _ (sr.setV r i) λj o=>?_
 have ne:j≠i:=λe=>by
  subst e
  by_cases lt:j<ρ.length
  ·rw[List.getElem?_set_self lt] at o;exact o
  ·rw[List.getElem?_eq_none (by simpa using lt)] at o;exact o
 rw[List.getElem?_set_ne (Ne.symm ne)] at o⊢;exact⟨o,rfl⟩
def fz:tY:=λds ρ=>match ds with
 | []=>some ρ
 |_=>none
def cj(g:FG)(gs:tY):tY:=λds ρ=>match ds with
 | []=>none
 |d::r=>(g d ρ).bind λρ'=>gs r ρ'
theorem cr:DL X c [] fz:=λhid ρ d=>PGs.imp zg λv σ H Q hq_=>by
 obtain⟨sr,r,ρ',e,q⟩:=hq_;unfold fz at e;split at e
 ·cases e;cases r;exact⟨rfl,q σ sr λi o=>⟨o,rfl⟩⟩
 ·cases e
theorem aL {g:FG}{gs:tY}(h1:uW X c e g)(h2:DL X c es gs)(hs:(assignEach (e::es) X.env).map (·.2)=assign e X.env::(assignEach es X.env).map (·.2):=by rfl):DL X c (e::es) (cj g gs):=λhid ρ d=>
 PGs.imp (yi (zr λd=>h1 hid ρ d) (Ap λz:aG×List D=>h2 hid z.1 z.2) hs) λv σ H Q hq_=>by
  obtain⟨sr,r,ρ',e,q⟩:=hq_;cases d with
  |nil=>cases e
  |cons d1 ds=>
   cases r with
   |cons r1 r2=>
    have e:(g d1 ρ).bind (λρ'=>gs ds ρ')=some ρ':=e;cases e1:g d1 ρ with
    |none=>rw[e1] at e;cases e
    |some ρ1=>
     rw[e1] at e;exact⟨_,_,rfl,d1,sr,r1,ρ1,e1,λσ1 s1 o1=>⟨(ρ1,ds),s1,r2,ρ',e,λσ2 s2 o2=>q σ2 s2 (o1.trans o2)⟩⟩
def gT(n:Nat)(gs:tY):FG:=λd ρ=>match d with
 | .tup ds=>if ds.length=n then gs ds ρ else none
 |_=>none
theorem cs {gs:tY}{kk n:Nat}(hc:X.calm=true)(h:DL X c es gs)(hn:(assignEach es X.env).length=n:=by rfl)(hst:(assignEach es X.env).findIdx? (·.1)=none:=by rfl):uW X c (.Tuple es kk pos) (gT n gs):=λhid ρ d=>
 PG.imp (Bo hc (Ap λds=>h hid ρ ds) hn hst) λv σ H Q hq_=>by
  obtain⟨sr,r,ρ',e,q⟩:=hq_;unfold gT at e;split at e
  ·split at e
   ·cases r with
    |tup h1 h2=>exact⟨_,_,rfl,Same.seqT (di _ _) h1,by rw[h2.length];assumption,_,sr,h2,ρ',e,q⟩
   ·cases e
  ·cases e
def B0:Option aG->Out
 |some ρ=>.nx ρ
 |none=>.no
def fq(g:FG)(f:GE):FS:=λρ=>match f ρ with
 |some z=>B0 (g z.1 z.2)
 |none=>.no
theorem mD {g:FG}{f:GE}(he:DE X c .s e f)(hg:uW X c tg g)(hs:swapsWithSole [tg] e pos.line X.env=pure false:=by rfl)(hw:swappedStores [tg] e X.env=pure none:=by rfl)
 (h1:(assignEach [tg] X.env).map (·.2)=[assign tg X.env]:=by rfl):DS X c k (.Assign [tg] e pos) (fq g f):=λρ=>
 PS.imp (yk (jW λhid=>he hid ρ) (zr λz:bw×aG×D=>hg z.1 z.2.1 z.2.2) hs hw h1) λD σ H hq_=>by
  obtain⟨hid,sr,q⟩:=hq_;unfold fq at q;cases e1:f ρ with
  |none=>rw[e1] at q;exact q.elim
  |some z=>
   rw[e1] at q;cases e2:g z.1 z.2 with
   |none=>dsimp only at q;rw[e2] at q;exact q.elim
   |some ρ2=>
    dsimp only at q;rw[e2] at q;exact⟨hid,sr,z.1,z.2,e1,λv H' ⟨kp,s',r⟩=>⟨(hid,z.2,z.1),s',r,ρ2,e2,λσ' s2 _=>q σ' H' hid s2 kp.vw⟩⟩
def iL(i:Nat)(fi:FE)(d:D)(ρ:aG):Option aG:=match eI i ρ with
 |some bs=>(match fi ρ with
  |some (.int j)=>(match uN bs.length j with
   |some m=>some (dI i (bs.set m d) ρ)
   |none=>none)
  |_=>none)
 |none=>none
theorem sH {fi:FE}{d:D}{ρ ρ':aG}(h:iL i fi d ρ=some ρ'): ∃bs j m,eI i ρ=some bs/\fi ρ=some (.int j)/\uN bs.length j=some m/\ρ'=dI i (bs.set m d) ρ:=by
 unfold iL at h;split at h
 ·split at h
  ·split at h
   ·cases h;exact⟨_,_,_, ‹_›, ‹_›, ‹_›,rfl⟩
   ·cases h
  ·cases h
 ·cases h
def Ej(K:W.Frag)(c:Ct)(hid:bw)(g:FG)(ρ:aG)(d:D):TG:=λv σ H Q=>SR K c hid ρ σ H/\Rep K (vw H hid) v d/\ ∃ρ',g d ρ=some ρ'/\ ∀H',Kept hid H H'->SR K c hid ρ' σ H'->Q σ H'
def EU(X:Cx)(c:Ct)(tg:Expr)(g:FG):Prop:= ∀hid ρ d,PG X tg (Ej X.K c hid g ρ d)
theorem oD(i:Nat){y:Str}{py:Pos}{ix:Expr}{fi:FE}{k1:Kd}(hi:DP X c k1 ix fi)(hN:X.N[i]? =some y:=by rfl)(hv:nB X.env.scope y:=by first|exact Or.inl rfl|exact Or.inr (Or.inl rfl)|exact Or.inr (Or.inr rfl))(hd:(y==("__debug__":Str))=false:=by decide)(hcd:(y==("__classdict__":Str))=false:=by decide)
 (ha: ∀v,assign (.Subscript (.Name y py) ix pos) X.env v=(do
   let ov <-holding [v] (eval (.Name y py) X.env)
   let iv <-holding [v,ov] (eval ix X.env)
   standAt pos
   holding [v,ov,iv] (setItem ov iv v)
   release [v,ov,iv] []):=by intro _;rfl):EU X c (.Subscript (.Name y py) ix pos) (iL i fi):=λhid ρ d=>
 PG.imp (AN (pv i hN hv hd hcd) (hi hid ρ) x9 ha) λv σ H Q hq_=>by
  obtain⟨sr,r,ρ',e,q⟩:=hq_;obtain⟨bs,j,m,e1,e2,e3,rfl⟩:=sH e;obtain⟨a,xs,a1,a2,a3,a4,a5⟩:=sr.held e1;refine⟨.ref a,a1,sr,_,e2,λw H1 s1 r1=>?_⟩;have b1:=(RK.b k1 r1 λa n=>sr.fresh n).int;cases b1;have a4':=a4.mono (aM (hid:=hid) s1);refine⟨a,xs,j,m,rfl,rfl,s1 _ _ a2,by rw[a4.length];exact e3,q _ (λb o z hb=>?_) ?_⟩
  ·rw[aH (λe=>by subst e;rw[a3] at hb;cases hb)];exact s1 _ _ z
  ·exact(sr.ext s1).put e1 a1 (λb o z hb=>by rw[aH hb];exact z) aN (by rw[eL a3];exact Reps.set (r.mono (aM s1)) m a4')
theorem rY {g:FG}{f:GE}(he:DE X c .s e f)(hg:EU X c tg g)(hs:swapsWithSole [tg] e pos.line X.env=pure false:=by rfl)(hw:swappedStores [tg] e X.env=pure none:=by rfl)
 (h1:(assignEach [tg] X.env).map (·.2)=[assign tg X.env]:=by rfl):DS X c k (.Assign [tg] e pos) (fq g f):=λρ=>
 PS.imp (yk (jW λhid=>he hid ρ) (zr λz:bw×aG×D=>hg z.1 z.2.1 z.2.2) hs hw h1) λD σ H hq_=>by
  obtain⟨hid,sr,q⟩:=hq_;unfold fq at q;cases e1:f ρ with
  |none=>rw[e1] at q;exact q.elim
  |some z=>
   rw[e1] at q;cases e2:g z.1 z.2 with
   |none=>dsimp only at q;rw[e2] at q;exact q.elim
   |some ρ2=>
    dsimp only at q;rw[e2] at q;exact⟨hid,sr,z.1,z.2,e1,λv H' ⟨kp,s',r⟩=>⟨(hid,z.2,z.1),s',r,ρ2,e2,λH2 k2 s2=>q σ H2 hid s2 (kp.trans k2).vw⟩⟩
def ItOk(K:W.Frag)(W:Hp)(J:It)(ds:List D):Prop:=
 (∀(i:Nat) (d:D) (H:Hp),ds[i]? =some d->Same W H->J.go i H/\ ∀x H',J.yld i H x H'->Same H H'/\ ∀hid:bw,(∀b,hid b=true-> ∃o,H b=some o)->Same W (vw H hid)->Rep K (vw H' hid) x d)/\ ∀H,Same W H->J.stop ds.length H
def Fk(K:W.Frag)(c:Ct)(hid:bw)(f:GA)(ρ:aG):TI:=λσ H R=>SR K c hid ρ σ H/\ ∃ds ρ',f ρ=some (ds,ρ')/\ ∀J H',Kept hid H H'->SR K c hid ρ' σ H'->ItOk K (vw H' hid) J ds->R J H'
def DI(X:Cx)(c:Ct)(tg iter:Expr)(f:GA):Prop:= ∀hid ρ,PI X tg iter (Fk X.K c hid f ρ)
theorem PI.imp {t t':TI}(h:PI X tg iter t)(i: ∀σ H Q,t' σ H Q->t σ H Q):PI X tg iter t':=λaa s σ H R I q=>h aa s σ H R I (i σ H R q)
theorem Eo {α:Type}{t:α->TI}(h: ∀z,PI X tg iter (t z)):PI X tg iter (λσ H R=> ∃z,t z σ H R):=λaa s σ H R I ⟨z,q⟩=>h z aa s σ H R I q
theorem xY {K:W.Frag}{W:Hp}{a:Addr}{xs:List V}{ds:List D}(h:SqT K W a xs)(r:Reps K W xs ds):ItOk K W (D7 K a) ds:=by
 refine⟨λi d H e s=>?_,λH s=>⟨xs,Same.seqT s h,by rw[r.length];exact Nat.le_refl _⟩⟩;obtain⟨x,e1,r1⟩:=r.get e;refine⟨⟨xs,x,Same.seqT s h,e1⟩,λy H' ⟨e2,e3⟩=>?_⟩;subst e2;have:=e3 xs (Same.seqT s h);rw[e1] at this;cases this;exact⟨Same.refl _,λhid _ sw=>r1.mono sw⟩
def lD(lo:Int)(n:Nat):List D:=(List.range n).map λ(i:Nat)=>D.int (lo+i)
theorem jt {K:W.Frag}{W:Hp}{lo:Int}{n:Nat}:ItOk K W (CC lo n) (lD lo n):=by
 refine⟨λi d H e s=>?_,λH s=>by show n<=(lD lo n).length;simp[lD]⟩;unfold lD at e;rw[List.getElem?_map] at e;cases e1:(List.range n)[i]? with
 |none=>rw[e1] at e;cases e
 |some j=>
  rw[e1] at e;obtain⟨h1,h2⟩:=List.getElem?_eq_some_iff.mp e1;simp at h1 h2;subst h2;cases e;refine⟨h1,λy H' ⟨e2,e3⟩=>?_⟩;subst e2 e3;exact⟨Same.refl _,λhid _ sw=>.int⟩
def qK(f:GA):GA:=λρ=>match f ρ with
 |some ([.int j],ρ')=>if j.natAbs<4000000000 then some (lD 0 j.toNat,ρ') else none
 |_=>none
theorem nG {a:Expr}{f:GA}{p:Pos}(hm:X.mg "range"=none)(ha:DG X c [a] f)(hg:Gl X "range":=by rfl)(hs:starEach [a] X.env=[(false,eval a X.env)]:=by rfl):DI X c tg (.Call (.Name "range" p) [a] [] pos) (qK f):=λhid ρ=>
 PI.imp (nY hg hm (ha hid ρ) hs) λσ H R hq_=>by
  obtain⟨sr,ds,ρ',e,q⟩:=hq_;unfold qK at e;split at e
  ·split at e
   ·cases e;refine⟨sr,_,_, ‹_›,λvs H' kp s' r=>?_⟩;cases r with
    |cons r t=>cases t;cases r;exact⟨_,rfl,by omega,by omega,q _ H' kp s' jt⟩
   ·cases e
  ·cases e
def eN(g:FG)(b:FS):List D->FS
 | [],ρ=>.nx ρ
 |d::r,ρ=>match g d ρ with
  |none=>.no
  |some ρ1=>match b ρ1 with
   | .nx ρ2=>eN g b r ρ2
   | .ct ρ2=>eN g b r ρ2
   | .bk ρ2=>.nx ρ2
   | .rt d ρ2=>.rt d ρ2
   | .no=>.no
def fE(f:GA)(g:FG)(b:FS):FS:=λρ=>match f ρ with
 |some (ds,ρ')=>eN g b ds ρ'
 |none=>.no
theorem fZ {f:GA}{g:FG}{tb:FS}(hp:PassesOwn (model X.prog X.w) X.A X.env X.xe)(hc:X.calm=true)(hi:DI X c tg iter f)(hg:uW X c tg g)(hb:rN X c k body tb)
 (hs: ∀x,foldedSetIterable iter X.env x=pure x:=by intro _;rfl):DS X c k (.For tg iter body [] pos) (fE f g tb):=λρ=>
 PS.imp (AT hp hc (Eo λhid=>hi hid ρ) (zr λz:bw×aG×D=>hg z.1 z.2.1 z.2.2) (tZ λρ=>hb ρ) hs) λD σ H hq_=>by
  obtain⟨hid,sr,q⟩:=hq_;unfold fE at q;cases e1:f ρ with
  |none=>rw[e1] at q;exact q.elim
  |some z=>
   obtain⟨ds,ρ0⟩:=z;rw[e1] at q;have q':EndOk X.K c k D (vw H hid) (eN g tb ds ρ0):=q;refine⟨hid,sr,ds,ρ0,e1,λJ H1 kp s1 it=>?_⟩;refine⟨λi m σ H=>m=ds.length-i/\i<=ds.length/\ ∃hid2 ρ2,SR X.K c hid2 ρ2 σ H/\Same (vw H1 hid) (vw H hid2)/\EndOk X.K c k D (vw H hid2) (eN g tb (ds.drop i) ρ2),⟨ds.length,by simp,Nat.zero_le _,hid,ρ0,s1,Same.refl _,EndOk.mono q' kp.vw⟩,?_⟩;rintro i m σ2 H2 ⟨rfl,hi',hid2,ρ2,s2,w2,q2⟩;have wH:Same (vw H1 hid) H2:=w2.trans (di _ _)
   by_cases hlt:i<ds.length
   ·have hd:ds[i]? =some ds[i]:=List.getElem?_eq_getElem hlt;have e2:ds.drop i=ds[i]::ds.drop (i+1):=List.drop_eq_getElem_cons hlt;rw[e2] at q2;unfold eN at q2;obtain⟨go,yl⟩:=it.1 i ds[i] H2 hd wH;refine .inr ⟨go,λσ' H'=> ∃hid3 ρ3,SR X.K c hid3 ρ3 σ' H'/\Same (vw H1 hid) (vw H' hid3)/\EndOk X.K c k D (vw H' hid3) (eN g tb (ds.drop (i+1)) ρ3),λσ' H' n3=>⟨ds.length- (i+1),by omega,rfl,hlt,n3⟩,λx H3 y=>?_⟩;obtain⟨s3,rp⟩:=yl x H3 y;have rx:=rp hid2 s2.tr w2;cases e3:g ds[i] ρ2 with
    |none=>rw[e3] at q2;exact q2.elim
    |some ρ3=>
     rw[e3] at q2;refine⟨(hid2,ρ2,ds[i]),s2.ext s3,rx,ρ3,e3,λσ4 s4 _=>⟨ρ3,hid2,s4,?_⟩⟩;have w3:Same (vw H2 hid2) (vw H3 hid2):=aM s3;dsimp only at q2;cases e4:tb ρ3 with
     |nx ρ5=>rw[e4] at q2;exact λσ' H' hid' z w=>⟨hid',ρ5,z,(w2.trans w3).trans w,EndOk.mono q2 (w3.trans w)⟩
     |ct ρ5=>rw[e4] at q2;exact λσ' H' hid' z w=>⟨hid',ρ5,z,(w2.trans w3).trans w,EndOk.mono q2 (w3.trans w)⟩
     |bk ρ5=>rw[e4] at q2;exact λσ' H' hid' z w=>q2 σ' H' hid' z (w3.trans w)
     |rt d ρ5=>rw[e4] at q2;exact q2
     |no=>rw[e4] at q2;exact q2.elim
   ·have e:i=ds.length:=by omega
    subst e;rw[List.drop_eq_nil_of_le (Nat.le_refl _)] at q2;exact .inl ⟨it.2 H2 wH,q2 σ2 H2 hid2 s2 (Same.refl _)⟩
end
def cS(n:Nat)(ds:List D):aG:=ds.map Sl.v++List.replicate (n-ds.length) .no
def j2(kd:Kd)(n:Nat)(t:FS)(ds:List D):Option D:=match t (cS n ds) with
 | .rt d _=>some d
 | .nx _=>(match kd with
   | .n=>none
   |_=>some .non)
 |_=>none
def js(n:Nat)(bs ds:List D):aG:=.arg bs::(ds.map Sl.v++List.replicate (n-1-ds.length) .no)
def m9:aG->Option (List D)
 | .arg bs::_=>some bs
 |_=>none
def v9(kd:Kd)(n:Nat)(t:FS)(bs ds:List D):Option (D×List D):=match t (js n bs ds) with
 | .rt d ρ=>(m9 ρ).map λb=>(d,b)
 | .nx ρ=>(match kd with
   | .n=>none
   |_=>(m9 ρ).map λb=>(.non,b))
 |_=>none
theorem wY {K:W.Frag}{c:Ct}{hid:bw}{H:Hp}(m:Nat): ∀ {vs:List V} {ds:List D},Reps K (vw H hid) vs ds-> ∀(i:Nat) (s:Sl),(ds.map Sl.v++List.replicate m .no)[i]? =some s->SlOk K c hid (vs.map some++List.replicate m none) H i s:=by
 intro vs ds r i s e;have hl:=r.length
 by_cases hi:i<ds.length
 ·rw[List.getElem?_append_left (by simpa using hi),List.getElem?_map] at e;have e2:ds[i]? =some ds[i]:=List.getElem?_eq_getElem hi;rw[e2] at e;cases e;obtain⟨x,h1,h2⟩:=r.get e2;exact⟨x,by rw[List.getElem?_append_left (by simp;omega),List.getElem?_map,h1];rfl,h2⟩
 ·rw[List.getElem?_append_right (by simpa using hi),List.getElem?_replicate] at e;split at e
  ·cases e;trivial
  ·cases e
theorem AZ {ds:List D}{m i:Nat}: ¬Ow (ds.map Sl.v++List.replicate m Sl.no)[i]? :=λo=>by
 by_cases hi:i<ds.length
 ·rw[List.getElem?_append_left (by simpa using hi),List.getElem?_map,List.getElem?_eq_getElem hi] at o;exact o
 ·rw[List.getElem?_append_right (by simpa using hi),List.getElem?_replicate] at o;split at o<;>exact o
theorem SR.begins {K:W.Frag}{hid:bw}{H:Hp}{N:List Str}{vs:List V}{ds:List D}(tr:B9 hid H)(r:Reps K (vw H hid) vs ds):SR K ⟨H,hid,λ_=>false⟩ hid (cS N.length ds) (dh N vs) H:=by
 have hl:=r.length;unfold dh cS;rw[hl];exact⟨tr.1,tr.2,λ_ h=>h,λ_ _ h _=>h,λb o h=>⟨o,h⟩,tr.1,(λ_ h=>nomatch h),by simp[hl],λi s e=>wY _ r i s e,λi j a _ o=>absurd o AZ⟩
section
variable {P:Program}{w:World}{K:W.Frag}{mg:Str->Option Value}{base:Heap}{x qual:Str}{st:Stmt}{f:Addr}{fd:FuncData}{N ps:List Str}{k:Nat}{t:FS}{kd:Kd}
theorem uP(F:Fun K x qual st f fd)(S:FnScope N ps (au st))(hkd:kd≠ .b)
 (body: ∀(cdv:Value) (A:Around) (outer:List Env) (s:Shared) (H:Hp) (hid:bw) (E:XK),Room k (A.deeper (envOfC qual (au st) s.heap.objs.size f cdv))->
   rN (kQ nU P w K mg base N qual (au st) f cdv A outer s H E).nox ⟨H,hid,λ_=>false⟩ kd (aR st) t):
 FnOk P w K mg base nU (k+1) f fd ps (gy K kd ps.length (j2 kd N.length t)):=by
 refine F.ok S (λvs H Q E h=>?_) (λcdv A outer s H vs Q E hr h=>?_)
 ·obtain⟨hid,ds,_,r,hl,_⟩:=h;rw[r.length,hl]
 ·obtain⟨hid,ds,tr,r,hl,d,hP,q⟩:=h;refine⟨_,body cdv A outer s H hid E hr (cS N.length ds),hid,SR.begins tr r,?_⟩;unfold j2 at hP;cases e:t (cS N.length ds) with
  |nx ρ=>
   rw[e] at hP;intro σ' H' hid' sr _;have sm:Same H H':=λb o z=>sr.kp b o z rfl
   cases kd with
   |b=>exact absurd rfl hkd
   |s=>cases hP;exact q _ H' sm .non
   |n=>cases hP
  |rt d' ρ=>
   rw[e] at hP;cases hP;intro v H' R;have sm:Same H H':=λb o z=>R.kp b o z rfl
   cases kd with
   |b=>exact absurd rfl hkd
   |s=>exact q v H' sm R.val
   |n=>exact q v H' sm R.val
  |bk ρ=>rw[e] at hP;cases hP
  |ct ρ=>rw[e] at hP;cases hP
  |no=>rw[e] at hP;cases hP
theorem SR.beginsE {hid:bw}{H:Hp}{a:Addr}{xs us:List V}{bs ds:List D}(tr:B9 hid H)(ha:hid a=true)(hx:H a=some (.lst xs))(rb:Reps K (vw H hid) xs bs)(r:Reps K (vw H hid) us ds)(hN:0<N.length):
 SR K ⟨H,hid,λb=>decide (b=a)⟩ hid (js N.length bs ds) (dh N (.ref a::us)) H:=by
 have hl:=r.length;have es:dh N (.ref a::us)=some (V.ref a)::(us.map some++List.replicate (N.length-1-ds.length) none):=by
  unfold dh;rw[List.map_cons,List.cons_append,List.length_cons,hl];congr 3;omega
 rw[es];unfold js;refine⟨tr.1,tr.2,λ_ h=>h,λ_ _ h _=>h,λb o h=>⟨o,h⟩,tr.1,λb h=>?_,by simp[hl],λi s e=>?_,λi j z n o1 o2 q1 q2=>?_⟩
 ·have:b=a:=by simpa using h
  rw[this];exact ha
 ·cases i with
  |zero=>
   cases e;exact⟨a,xs,rfl,hx,ha,by simp,rb⟩
  |succ i=>
   have z:=wY (c:=⟨H,hid,λb=>decide (b=a)⟩) (N.length-1-ds.length) r i s (by simpa using e);cases s with
   |no=>trivial
   |v d=>obtain⟨x,h1,h2⟩:=z;exact⟨x,by simpa using h1,h2⟩
   |own ds=>obtain⟨x,xs,h1,h2⟩:=z;exact⟨x,xs,by simpa using h1,h2⟩
   |arg ds=>obtain⟨x,xs,h1,h2⟩:=z;exact⟨x,xs,by simpa using h1,h2⟩
   |ob b=>obtain⟨x,h1,h2⟩:=z;exact⟨x,by simpa using h1,h2⟩
 ·cases i with
  |zero=>
   cases j with
   |zero=>exact n rfl
   |succ j=>exact AZ (by simpa using o2)
  |succ i=>exact AZ (by simpa using o1)
theorem u4 {ρ:aG}{b:List D}(h:m9 ρ=some b):ρ[0]? =some (.arg b):=by
 unfold m9 at h;split at h
 ·cases h;rfl
 ·cases h
theorem B8 {n:Nat}(F:Fun K x qual st f fd)(S:FnScope N ps (au st))(hkd:kd≠ .b)(hn:ps.length=n+1)
 (body: ∀(cdv:Value) (A:Around) (outer:List Env) (s:Shared) (H:Hp) (hid:bw) (a:Addr) (E:XK),Room k (A.deeper (envOfC qual (au st) s.heap.objs.size f cdv))->
   rN (kQ nU P w K mg base N qual (au st) f cdv A outer s H E).nox ⟨H,hid,λb=>decide (b=a)⟩ kd (aR st) t):
 FnOk P w K mg base nU (k+1) f fd ps (rO K kd n (v9 kd N.length t)):=by
 refine F.ok S (λvs H Q E h=>?_) (λcdv A outer s H vs Q E hr h=>?_)
 ·obtain⟨hid,a,xs,bs,us,ds,rfl,_,_,_,_,r,hl,_⟩:=h;rw[List.length_cons,r.length,hl,hn]
 ·obtain⟨hid,a,xs,bs,us,ds,rfl,tr,ha,hx,rb,r,hl,d,bs',hM,q⟩:=h;have hN:0<N.length:=by have:=congrArg List.length S.pre;rw[List.length_take] at this;omega
  refine⟨_,body cdv A outer s H hid a E hr (js N.length bs ds),hid,SR.beginsE tr ha hx rb r hN,?_⟩;have fin: ∀(v:V) (H':Hp) (ρ:aG) (d:D),Ret K ⟨H,hid,λb=>decide (b=a)⟩ kd ρ H' v d->m9 ρ=some bs'->(∀v H' xs',(∀b o,H b=some o->b≠a->H' b=some o)->H' a=some (.lst xs')->CY K kd hid H H' v d xs' bs'->Q v H')->Q v H':=by
   intro v H' ρ d R h0 q;obtain⟨a',xs',m1,m2,m3⟩:=R.arg 0 _ (u4 h0);have:a'=a:=by simpa using m1
   subst this;refine q v H' xs' (λb o z n=>R.kp b o z (by simpa using n)) m2 ?_
   cases kd with
   |b=>exact absurd rfl hkd
   |s=>exact⟨R.val,m3⟩
   |n=>
    obtain⟨p,ys,es,rfl,rfl,h1,h2,h3⟩:=R.val;exact⟨p,ys,es,rfl,rfl,h1,h2,h3,m3⟩
  unfold v9 at hM;cases e:t (js N.length bs ds) with
  |nx ρ=>
   rw[e] at hM;intro σ' H' hid' sr _;cases kd with
   |b=>exact absurd rfl hkd
   |s=>
    dsimp only at hM;cases e0:m9 ρ with
    |none=>rw[e0] at hM;cases hM
    |some b=>
     rw[e0] at hM;cases hM;exact fin .non H' ρ .non (xx (k:=.s) (by decide) (sr.post (k:=.s) (Same.refl _) .non (by decide)) sr.h0) e0 q
   |n=>cases hM
  |rt d' ρ=>
   rw[e] at hM;dsimp only at hM;cases e0:m9 ρ with
   |none=>rw[e0] at hM;cases hM
   |some b=>
    rw[e0] at hM;cases hM;intro v H' R;exact fin v H' ρ _ R e0 q
  |bk ρ=>rw[e] at hM;cases hM
  |ct ρ=>rw[e] at hM;cases hM
  |no=>rw[e] at hM;cases hM
end
def tT(K:W.Frag):Sp:=λvs H Q _=> ∃(a:Addr) (ns:List Int),vs=[.ref a]/\SqR K H a (ns.map V.int)/\ns.length<=63/\ ∀H',Q (.bl true) H'
theorem nW {K:W.Frag}{F:Hp}: ∀ns:List Int,Reps K F (ns.map V.int) (ns.map D.int)
 | []=>.nil
 |_::r=>.cons .int (nW r)
theorem Bg {P:Program}{w:World}{K:W.Frag}{mg:Str->Option Value}{base:Heap}{f:Addr}{fd:FuncData}{x:Str}{k:Nat}{M:List D->Option D}(F:FnOk P w K mg base nU k f fd [x] (gy K .s 1 M))(hM: ∀ns:List Int,ns.length<=63->M [.scr (ns.map D.int)]=some (.bl true)):
 FnOk P w K mg base nU k f fd [x] (tT K):=F.imp λvs H Q E hq_=>by
 obtain⟨a,ns,e,hS,hl,q⟩:=hq_;subst e;have hv:vw H (λ_=>false)=H:=by funext b;unfold vw;simp
 refine⟨λ_=>false,[.scr (ns.map D.int)],⟨(λb h=>nomatch h),(λb xs h=>nomatch h)⟩,?_,rfl,.bl true,hM ns hl,λv H' _ r=>?_⟩
 ·rw[hv];exact .cons (.scr hS (nW ns)) .nil
 ·cases r;exact q H'
theorem walkD {l:W.OpenLaw}{k:Nat}{x:Str}{q:Program}{loose:List Str}{XP:(Str->Option Value)->Heap->Prop}{YP:World->Heap->Prop}{d:DefRec}{K:Params->W.Frag}(hn:l.most=some 63)(hdf:d.params.defaults=[])(hr:Room k callerA)
 (hY: ∀(w:World) (h:Heap),YP w h->(K w.params).In h)
 (F: ∀(w:World) (mg:Str->Option Value) (fa:Addr) (h:Heap),(K w.params).In h->h.Ns mainGlobals mg->mg d.name=some (.ref fa)->
   ∃fd:FuncData,(∀(s:Shared) (u:Value),BindsTo s fd ⟨[u],[]⟩ [(x,u)])/\ ∀base:Heap,(K w.params).In base->base.Ns mainGlobals mg->FnOk l.prog w (K w.params) mg base nU k fa fd [x] (tT (K w.params))):
 W.WalkO q loose XP YP l.row.toRowW d [] (λf vs=>PySem.call f vs):=
 L2.walk_of (n:=63) (k:=k) (x:=x) (CX:=λ_=>nU) (sp:=λw=>tT (K w.params)) hn (by decide) hdf hr hY F (λ_ H a ns hl hO hS=>⟨a,ns,rfl,hS.elim (λr=>r.elim (λe=>by rcases hO a with z|⟨o,xs,z⟩<;>rw[z] at e<;>cases e) .inl) .inr,hl,λ_=>rfl⟩) λ_ _ _ _ _ z=>z
def pI(cells:List (Str×Addr)):List (Str×NameKind)->List (Str×Addr)->List (Str×Addr)
 | [],acc=>acc
 |(n,k)::r,acc=>pI cells r (if k== .free then(match cells.lookup n with
  |some c=>(n,c)::acc
  |none=>acc) else acc)
theorem pc {cells:List (Str×Addr)}: ∀ {names:List (Str×NameKind)} {acc:List (Str×Addr)},(∀p∈acc,cells.lookup p.1=some p.2)-> ∀p∈pI cells names acc,cells.lookup p.1=some p.2
 | [],acc,h,p,hp=>h p hp
 |(n,k)::r,acc,h,p,hp=>by
  refine pc (names:=r) ?_ p hp;intro q hq;split at hq
  ·split at hq
   ·rename_i c e
    rcases List.mem_cons.mp hq with rfl|hq
    ·exact e
    ·exact h q hq
   ·exact h q hq
  ·exact h q hq
theorem rM {cells:List (Str×Addr)}: ∀ {names:List (Str×NameKind)} {acc:List (Str×Addr)} (p:Str×Addr),p∈pI cells names acc->p∈acc\/(p.1,NameKind.free)∈names
 | [],acc,p,hp=>.inl hp
 |(n,k)::r,acc,p,hp=>by
  rcases rM (names:=r) p hp with hq|hq
  ·split at hq
   ·rename_i ek
    split at hq
    ·rcases List.mem_cons.mp hq with e|hq
     ·subst e;have:k=.free:=by simpa using ek
      subst this;exact .inr List.mem_cons_self
     ·exact .inl hq
    ·exact .inl hq
   ·exact .inl hq
  ·exact .inr (List.mem_cons_of_mem _ hq)
theorem rh {cells:List (Str×Addr)}: ∀ {names:List (Str×NameKind)} {acc:List (Str×Addr)} {p:Str×Addr},p∈acc->p∈pI cells names acc
 | [],acc,p,h=>h
 |(n,k)::r,acc,p,h=>by
  refine rh (names:=r) ?_
  split
  ·split
   ·exact List.mem_cons_of_mem _ h
   ·exact h
  ·exact h
theorem tP {cells:List (Str×Addr)}{x:Str}{c:Addr}(hc:cells.lookup x=some c): ∀ {names:List (Str×NameKind)} {acc:List (Str×Addr)},(x,NameKind.free)∈names->(x,c)∈pI cells names acc
 | [],_,h=>nomatch h
 |(n,k)::r,acc,h=>by
  rcases List.mem_cons.mp h with e|h
  ·cases e;refine rh (names:=r) ?_
   rw[if_pos (by rfl),hc];exact List.mem_cons_self
  ·exact tP hc (names:=r) h
theorem ni {l:List (Str×Addr)}{x:Str}{c:Addr}(h:(x,c)∈l)(u: ∀p∈l,p.1=x->p.2=c):l.lookup x=some c:=by
 induction l with
 |nil=>exact nomatch h
 |cons p r ih=>
  obtain⟨n,a⟩:=p;rw[List.lookup_cons];cases e:x==n with
  |true=>
   have e':x=n:=eq_of_beq e;have:=u (n,a) List.mem_cons_self e'.symm;simpa using this
  |false=>
   have ne:x≠n:=λe'=>by rw[e'] at e;simp at e
   rcases List.mem_cons.mp h with e'|h
   ·cases e';exact absurd rfl ne
   ·exact ih h λp hp=>u p (List.mem_cons_of_mem _ hp)
theorem su {cells:List (Str×Addr)}{names:List (Str×NameKind)}{x:Str}{c:Addr}(h:(pI cells names []).lookup x=some c):cells.lookup x=some c:=
 pc (names:=names) (acc:=[]) (λ_ z=>nomatch z) (x,c) (PySem.mem_of_lookup h)
theorem lc {cells:List (Str×Addr)}{names:List (Str×NameKind)}{x:Str}{c:Addr}(hc:cells.lookup x=some c)(hf:(x,NameKind.free)∈names):(pI cells names []).lookup x=some c:=
 ni (tP hc hf) λp hp e=>by
  have:=pc (names:=names) (acc:=[]) (λ_ z=>nomatch z) p hp;rw[e,hc] at this;exact(Option.some.inj this).symm
theorem fW {scope:Scope}{env:Env}(h: ∀x,(x,NameKind.free)∈scope.names-> ∃c,env.cells.lookup x=some c):closureFor scope env=pure (pI env.cells scope.names []):=by
 unfold closureFor;have key: ∀(names:List (Str×NameKind)) (acc:List (Str×Addr)),(∀x,(x,NameKind.free)∈names-> ∃c,env.cells.lookup x=some c)->
  (forIn names acc (λ(p:Str×NameKind) (r:List (Str×Addr))=>match p with
    |(name,kind)=>if(kind==NameKind.free)=true then do
       let __do_lift <-cellOf env name
       pure (ForInStep.yield ((name,__do_lift)::r)) else pure (ForInStep.yield r)):Sem (List (Str×Addr)))=pure (pI env.cells names acc):=by
  intro names
  induction names with
  |nil=>intro acc _;rfl
  |cons p r ih=>
   intro acc h;obtain⟨n,k⟩:=p;rw[List.forIn_cons];have hr: ∀x,(x,NameKind.free)∈r-> ∃c,env.cells.lookup x=some c:=λx hx=>h x (List.mem_cons_of_mem _ hx)
   cases e:k==NameKind.free with
   |false=>
    simp only[e,Bool.false_eq_true,if_false,pure_bind];rw[ih acc hr]
    conv=>rhs;unfold pI
    simp[e]
   |true=>
    have ek:k=.free:=by simpa using e
    subst ek;obtain⟨c,hc⟩:=h n List.mem_cons_self;have ec:cellOf env n=pure c:=by unfold cellOf;rw[hc]
    simp only[beq_self_eq_true,if_true,ec,pure_bind];rw[ih _ hr]
    conv=>rhs;unfold pI
    simp[hc]
 have:=key scope.names [] h;simp only[this,pure_bind]
theorem gV {sc:Scope}{env:Env}{x:Str}{k:NameKind}(h:(relabel sc env).names.lookup x=some k): ∃k0,sc.names.lookup x=some k0/\(k=k0\/(k0=.free/\k=.cell)):=by
 unfold relabel at h;dsimp only at h;generalize sc.names=l at h⊢
 induction l with
 |nil=>simp at h
 |cons p r ih=>
  obtain⟨n,k1⟩:=p;rw[List.map_cons] at h;dsimp only at h;rw[List.lookup_cons];cases hx:x==n with
  |true=>
   refine⟨k1,rfl,?_⟩;split at h
   ·rename_i hc
    rw[List.lookup_cons] at h;simp only[hx] at h;cases h;have:k1=.free:=by
     simp only[Bool.and_eq_true] at hc;exact eq_of_beq hc.1.1
    exact .inr ⟨this,rfl⟩
   ·rw[List.lookup_cons] at h;simp only[hx] at h;cases h;exact .inl rfl
  |false=>
   split at h
   ·rw[List.lookup_cons] at h;simp only[hx] at h;exact ih h
   ·rw[List.lookup_cons] at h;simp only[hx] at h;exact ih h
def mB(cells:List (Str×Addr))(scope:Scope)(C:Addr):List (Str×Addr):=cellsFrom (C+1) scope.names (pI cells scope.names [])
theorem bv: ∀(names:List (Str×NameKind)) (n:Nat) (acc:List (Str×Addr)),cellsFrom n names acc=cellsFrom n names []++acc
 | [],_,_=>rfl
 |(name,kind)::r,n,acc=>by
  unfold cellsFrom;split
  ·rw[bv r (n+1) ((name,n)::acc),bv r (n+1) [(name,n)],List.append_assoc];rfl
  ·exact bv r n acc
theorem oy: ∀ {names:List (Str×NameKind)} {n:Nat} {p:Str×Addr},p∈cellsFrom n names []->(p.1,NameKind.cell)∈names
 | [],_,_,h=>nomatch h
 |(name,kind)::r,n,p,h=>by
  unfold cellsFrom at h;split at h
  ·rename_i hk
   have hk':kind=.cell:=by simpa using hk
   subst hk';rw[bv] at h;rcases List.mem_append.mp h with h|h
   ·exact List.mem_cons_of_mem _ (oy h)
   ·rw[List.mem_singleton.mp h];exact List.mem_cons_self
  ·exact List.mem_cons_of_mem _ (oy h)
theorem kE: ∀ {names:List (Str×NameKind)} {n:Nat} {x:Str},(x,NameKind.cell)∈names-> ∃c,(x,c)∈cellsFrom n names []
 | [],_,_,h=>nomatch h
 |(name,kind)::r,n,x,h=>by
  unfold cellsFrom;rcases List.mem_cons.mp h with e|h
  ·cases e;rw[if_pos (by rfl),bv];exact⟨n,List.mem_append_right _ List.mem_cons_self⟩
  ·split
   ·obtain⟨c,hc⟩:=kE (n:=n+1) h;rw[bv];exact⟨c,List.mem_append_left _ hc⟩
   ·exact kE h
theorem sR {l:List (Str×Addr)}{x:Str}{c:Addr}(h:(x,c)∈l): ∃c',l.lookup x=some c':=by
 induction l with
 |nil=>exact nomatch h
 |cons p r ih=>
  obtain⟨n,a⟩:=p;rw[List.lookup_cons];cases e:x==n with
  |true=>exact⟨a,rfl⟩
  |false=>
   rcases List.mem_cons.mp h with e'|h
   ·cases e';simp at e
   ·exact ih h
theorem eR {cells:List (Str×Addr)}{sc:Scope}{C:Addr}{x:Str}{c:Addr}(h:(mB cells sc C).lookup x=some c):(x,c)∈cellsFrom (C+1) sc.names []\/(pI cells sc.names []).lookup x=some c:=by
 unfold mB at h;rw[bv,List.lookup_append] at h;cases e:(cellsFrom (C+1) sc.names []).lookup x with
 |none=>rw[e] at h;exact .inr h
 |some c'=>rw[e] at h;cases h;exact .inl (PySem.mem_of_lookup e)
theorem wT {cells:List (Str×Addr)}{sc:Scope}{C:Addr}{x:Str}(h:(x,NameKind.cell)∈sc.names): ∃c,(mB cells sc C).lookup x=some c:=by
 obtain⟨c,hc⟩:=kE (n:=C+1) h;obtain⟨c',e⟩:=sR hc;exact⟨c',by unfold mB;rw[bv,List.lookup_append,e];rfl⟩
theorem rK {cells:List (Str×Addr)}{sc:Scope}{C:Addr}{x:Str}(h:(x,NameKind.cell)∉sc.names):(mB cells sc C).lookup x=(pI cells sc.names []).lookup x:=by
 unfold mB;rw[bv,List.lookup_append];cases e:(cellsFrom (C+1) sc.names []).lookup x with
 |none=>rfl
 |some c'=>exact absurd (oy (PySem.mem_of_lookup e)) h
theorem ud {M:Model}{A:Around}{E:Value->Shared->Prop}{s:Shared}{scope:Scope}{globals:Addr}{closure:List (Str×Addr)}{qual:Str}{outer:Env}{Q:Env->Shared->Prop}
 (hQ: ∀h',h'.Ns s.heap.objs.size (λ_=>none)->(∀b o,s.heap.get? b=some o->h'.get? b=some o)->CellsOk h' (s.heap.objs.size+1) (cellsFrom (s.heap.objs.size+1) scope.names [])->
   Q (newEnv scope s.heap.objs.size globals (cellsFrom (s.heap.objs.size+1) scope.names closure) qual none .none (some outer) builtinsNs) {s with heap:=h',toks:=s.toks}):
 wpAny M A (newFunctionEnv scope globals closure [] qual none .none (some outer)) Q E s:=by
 simp only[newFunctionEnv,Option.isSome_some,if_true];refine wpAny_bind (wpAny_alloc ?_);refine wpAny_bind (wpAny_layCells _ (λname kind cells=>by cases hkc:kind==NameKind.cell<;>simp[hkc]) _ _ _ _ ?_);have ok:=cellsFrom_ok scope.names (s.heap.push {cls:=.type "dict",data:=.dict #[]}) (s.heap.objs.size+1) [] ⟨λ_ _ hm=>(nomatch hm),List.Pairwise.nil⟩ (by rw[Heap.size_push];exact Nat.le_refl _);rw[Heap.size_push] at ok;rw[show({s with heap:=s.heap.push {cls:=.type "dict",data:=.dict #[]}}:Shared).heap.objs.size=s.heap.objs.size+1 from Heap.size_push ..];rw[List.forIn_nil];refine wpAny_bind (wpAny_pure (wpAny_pure ?_));exact hQ _ ((Heap.Ns.new s.heap (.type "dict")).keeps (pushCells_keeps _ _)) (λb o e=>pushCells_keeps _ _ b o (Heap.get?_push_of_some _ e)) ok
def aP(X:Cx)(N':List Str)(scope:Scope)(C:Addr)(s₀:Shared)(H₀:Hp)(ex:List Addr):Cx where
 prog:=X.prog
 w:=X.w
 K:=X.K
 mg:=X.mg
 base:=X.base
 A:=X.A
 N:=N'
 s₀:=s₀
 H₀:=H₀
 env:=compEnvC scope (mB X.env.cells scope C) C X.env
 outer:=X.stack
 stack:=X.stack
 ex:=ex
 fn:=λx=>scope.names.lookup x==some .local||scope.names.lookup x==some .cell
 calm:=X.calm
 pn:=[]
 xe:=λ_ _=>False
def wR(N N':List Str)(sc:Scope):Bool:=
 decide (N.length<=N'.length)&&((N'.take N.length).zip N).all (λp=>(p.1==p.2&& !(sc.names.lookup p.1==some .local)&& !(sc.names.lookup p.1==some .cell))||(sc.names.lookup p.1).isNone)&&
  (N'.drop N.length).all λx=>sc.names.lookup x==some .local||sc.names.lookup x==some .cell
def wl(sc:Scope)(outer:Scope):Bool:=
 sc.names.all λy=>(y.2 != .cell||sc.names.lookup y.1==some .cell)&&(y.2 != .local||sc.names.lookup y.1==some .local)&&(y.2 != .free||(sc.names.lookup y.1==some .free&&(outer.names.lookup y.1==some .cell||outer.names.lookup y.1==some .free)))
theorem qO {sc o:Scope}(h:wl sc o=true): ∀y∈sc.names,y.2=.cell->sc.names.lookup y.1=some .cell:=λy hy e=>by
 have:=List.all_eq_true.mp h y hy;simpa [e] using this
theorem kR {sc o:Scope}(h:wl sc o=true): ∀y∈sc.names,y.2=.local->sc.names.lookup y.1=some .local:=λy hy e=>by
 have:=List.all_eq_true.mp h y hy;simpa [e] using this
theorem iI {sc o:Scope}(h:wl sc o=true): ∀x,(x,NameKind.free)∈sc.names->o.names.lookup x=some .cell\/o.names.lookup x=some .free:=λx hx=>by
 have:=List.all_eq_true.mp h _ hx;simpa using (by simpa using this:_/\_).2
theorem nS {sc o:Scope}(h:wl sc o=true): ∀x,(x,NameKind.free)∈sc.names->sc.names.lookup x=some .free:=λx hx=>by
 have:=List.all_eq_true.mp h _ hx;simpa using (by simpa using this:_/\_).1
theorem ve {N N':List Str}{sc:Scope}(h:wR N N' sc=true){i:Nat}{x:Str}(hi:i<N.length)(e:N'[i]? =some x)(hv: ∃k,sc.names.lookup x=some k/\(k=.local\/k=.cell\/k=.free)):N[i]? =some x/\sc.names.lookup x=some .free:=by
 unfold wR at h;simp only[Bool.and_eq_true,decide_eq_true_eq] at h;obtain⟨⟨h1,h2⟩,_⟩:=h;have hN:N[i]? =some N[i]:=List.getElem?_eq_getElem hi;have e1:(N'.take N.length)[i]? =some x:=by rw[List.getElem?_take_of_lt hi];exact e
 have hm:(x,N[i])∈(N'.take N.length).zip N:=by
  refine List.mem_of_getElem? (i:=i) ?_
  rw[List.getElem?_zip_eq_some];exact⟨e1,hN⟩
 have:=List.all_eq_true.mp h2 _ hm;obtain⟨k,hk,hk2⟩:=hv;dsimp only at this;rw[hk] at this;simp only[Option.isNone_some,Bool.or_false,Bool.and_eq_true,Bool.not_eq_true'] at this;obtain⟨⟨t1,t2⟩,t3⟩:=this;have ex:x=N[i]:=eq_of_beq t1;rcases hk2 with rfl|rfl|rfl
 ·simp at t2
 ·simp at t3
 ·exact⟨by rw[hN,<-ex],hk⟩
theorem zL {N N':List Str}{sc:Scope}(h:wR N N' sc=true):N.length<=N'.length:=by
 unfold wR at h;simp only[Bool.and_eq_true,decide_eq_true_eq] at h;exact h.1.1
section
variable {X:Cx}{aa:List (Addr×Obj)}{σ:St}{H:Hp}{s:Shared}{scope:Scope}{N':List Str}{fp:List Addr}
theorem vz(I:Inv X aa σ H s){b:Addr}(f:iA X aa H b):b∉frs X.stack:=λz=>by
 rcases List.mem_cons.mp (I.stkSub b z) with e|z
 ·exact f.2.1 e
 ·exact f.2.2.1 z
theorem qb {h':Heap}{tk:Nat}(I:Inv X aa σ H s)(hF: ∀b∈fp,iA X aa H b)(hO: ∀b∈fp,∃o,s.heap.get? b=some o)(hk:scope.kind=.function)(hs:wl scope X.env.scope=true)(hn:wR X.N N' scope=true)
 (ns:h'.Ns s.heap.objs.size λ_=>none) (kp: ∀b o,s.heap.get? b=some o->h'.get? b=some o) (oc:CellsOk h' (s.heap.objs.size+1) (cellsFrom (s.heap.objs.size+1) scope.names [])):
 Inv (aP X N' scope s.heap.objs.size s H fp) [] (σ++List.replicate (N'.length-X.N.length) none) H {s with heap:=h',toks:=tk}:=by
 have hlen:=zL hn;have cl: ∀x c,(pI X.env.cells scope.names []).lookup x=some c->X.env.cells.lookup x=some c:=λx c e=>su e
 have clt: ∀x c,(pI X.env.cells scope.names []).lookup x=some c->c<s.heap.objs.size:=λx c e=>let⟨_,z⟩:=I.cell x c (cl x c e);z.lt
 have newC:H s.heap.objs.size=none:=I.hok.fresh (Nat.le_refl _)
 refine⟨⟨I.ok.mod,hk,I.ok.glob,I.ok.blt,Nat.le_refl _,λx y c h1 h2=>?_,λx hx=>?_,λx c h1 h2=>?_,I.ok.hd,I.ok.frames,.inl rfl,λb hb=>⟨?_,λx c e=>?_⟩,I.bs,Nat.le_trans I.ok.bsz I.sz,λb o e hb=>?_,λb hb=>vz I (hF b hb),I.stack,I.stkFree⟩,
  rfl,I.bare,Un.kept kp,⟨_,ns,λi x v e1 e2 e3=>?_⟩,λx c e=>?_,newC,λx c e=>?_,λp hp=>absurd (show p∈([]:List (Addr×Obj)) from hp) (by simp),I.hok.kept kp,?_⟩
 ·
  rcases eR h1 with h1|h1<;>rcases eR h2 with h2|h2
  ·exact name_of_addr oc.apart h1 h2
  ·exact absurd (clt y c h2) (Nat.not_lt.mpr (Nat.le_of_succ_le (oc.empty _ _ h1).2))
  ·exact absurd (clt x c h1) (Nat.not_lt.mpr (Nat.le_of_succ_le (oc.empty _ _ h2).2))
  ·exact I.ok.inj x y c (cl x c h1) (cl y c h2)
 ·
  have hx':(relabel scope X.env).names.lookup x=some .cell\/(relabel scope X.env).names.lookup x=some .free:=hx;have:(x,NameKind.cell)∈scope.names\/(x,NameKind.free)∈scope.names:=by
   rcases hx' with hx'|hx'
   ·obtain⟨k0,e0,e1|⟨e1,_⟩⟩:=gV hx'
    ·subst e1;exact .inl (PySem.mem_of_lookup e0)
    ·subst e1;exact .inr (PySem.mem_of_lookup e0)
   ·obtain⟨k0,e0,e1|⟨_,e1⟩⟩:=gV hx'
    ·subst e1;exact .inr (PySem.mem_of_lookup e0)
    ·cases e1
  rcases this with this|this
  ·exact wT this
  ·have hc:=iI hs x this;obtain⟨c,e⟩:=I.ok.has x hc;exact⟨c,(rK λz=>by have z1:=qO hs _ z rfl;have z2:=nS hs x this;rw[z2] at z1;cases z1).trans (lc e this)⟩
 ·
  have h1':scope.names.lookup x=some .local\/scope.names.lookup x=some .cell:=by
   have h1:(scope.names.lookup x==some .local||scope.names.lookup x==some .cell)=true:=h1;simpa using h1
  rcases eR h2 with h2|h2
  ·exact Nat.le_of_succ_le (oc.empty _ _ h2).2
  ·exfalso;rcases rM _ (PySem.mem_of_lookup h2) with z|z
   ·exact nomatch z
   ·rw[nS hs x z] at h1';rcases h1' with h1'|h1'<;>cases h1'
 ·obtain⟨o,e⟩:=hO b hb;exact Nat.ne_of_lt (Heap.lt_size e)
 ·rcases eR e with e|e
  ·obtain⟨o,e'⟩:=hO b hb;exact λz=>absurd (Heap.lt_size e') (Nat.not_lt.mpr (z▸Nat.le_of_succ_le (oc.empty _ _ e).2))
  ·exact(hF b hb).2.2.2.2.1 x c (cl x c e)
 ·obtain⟨_,_,_,h4,_⟩:=hF b hb;rcases h4 with h4|h4
  ·exact I.ok.noex b o e h4
  ·exact absurd (Nat.lt_of_lt_of_le (Heap.lt_size e) (Nat.le_trans I.ok.bsz h4)) (Nat.lt_irrefl _)
 ·have hi:i<X.N.length:=by
   by_cases hi:i<σ.length
   ·rw[<-I.len];exact hi
   ·rw[List.getElem?_append_right (by omega),List.getElem?_replicate] at e2;split at e2<;>cases e2
  rw[List.getElem?_append_left (by rw[I.len];exact hi)] at e2;have e3':(relabel scope X.env).names.lookup x=some .local\/(relabel scope X.env).names.lookup x=some .cell\/(relabel scope X.env).names.lookup x=some .free:=e3;have hv: ∃k,scope.names.lookup x=some k/\(k=.local\/k=.cell\/k=.free):=by
   rcases e3' with z|z|z
   all_goals
    obtain⟨k0,q0,q1|⟨q1,q2⟩⟩:=gV z
    ·subst q1;exact⟨_,q0,by simp⟩
    ·subst q1;exact⟨_,q0,by simp⟩
  obtain⟨hN,hf⟩:=ve hn hi e1 hv;have hfm:=PySem.mem_of_lookup hf;have hc:=iI hs x hfm;have nc:(x,NameKind.cell)∉scope.names:=λz=>by have z1:=qO hs _ z rfl;rw[hf] at z1;cases z1
  obtain⟨m,hm,hl⟩:=I.loc;obtain⟨u,r,l⟩:=hl i x v hN e2 (.inr hc);refine⟨u,r,.inr ⟨?_,?_⟩⟩
  ·show(relabel scope X.env).names.lookup x=some .cell\/(relabel scope X.env).names.lookup x=some .free;rcases e3' with z|z|z
   ·obtain⟨k0,q0,q1|⟨q1,q2⟩⟩:=gV z
    ·subst q1;rw[hf] at q0;cases q0
    ·cases q2
   ·exact .inl z
   ·exact .inr z
  ·rcases l with⟨l,_⟩|⟨_,c,ec,z⟩
   ·have l':X.env.scope.names.lookup x=some .local:=l;rcases hc with hc|hc<;>rw[hc] at l'<;>cases l'
   ·exact⟨c,(rK nc).trans (lc ec hfm),z.keeps kp⟩
 ·rcases eR e with e|e
  ·exact⟨_,(oc.empty _ _ e).1⟩
  ·obtain⟨v,z⟩:=I.cell x c (cl x c e);exact⟨v,z.keeps kp⟩
 ·rcases eR e with e|e
  ·exact I.hok.fresh (Nat.le_of_succ_le (oc.empty _ _ e).2)
  ·exact I.freeC x c (cl x c e)
 ·show(σ++_).length=N'.length;rw[List.length_append,List.length_replicate,I.len];omega
end
def D3(K:W.Frag)(c:Ct)(hid:bw)(f:FA)(ρ:aG):TI:=λσ H R=>SR K c hid ρ σ H/\ ∃ds,f ρ=some ds/\ ∀J H',Same H H'->ItOk K (vw H' hid) J ds->R J H'
def DIp(X:Cx)(c:Ct)(tg iter:Expr)(f:FA):Prop:= ∀hid ρ,PI X tg iter (D3 X.K c hid f ρ)
def Dd {ι:Type}(IR:Hp->V->ι->Prop)(L W:Hp)(J:It)(ds:List ι):Prop:=
 (∀(i:Nat) (d:ι) (H:Hp),ds[i]? =some d->Same L H->Same W H->J.go i H/\ ∀x H',J.yld i H x H'->Same H H'/\ ∀hid:bw,(∀b,hid b=true-> ∃o,H b=some o)->Same W (vw H hid)->IR (vw H' hid) x d)/\ ∀H,Same L H->Same W H->J.stop ds.length H
abbrev De(K:W.Frag)(L W:Hp)(J:It)(ds:List D):Prop:=Dd (Rep K) L W J ds
theorem ItOk.b {K:W.Frag}{L W:Hp}{J:It}{ds:List D}(h:ItOk K W J ds):De K L W J ds:=⟨λi d H e _ w=>h.1 i d H e w,λH _ w=>h.2 H w⟩
def EI {ι:Type}(IR:Hp->V->ι->Prop)(K:W.Frag)(c:Ct)(hid:bw)(f:aG->Option (List ι))(ρ:aG):TI:=λσ H R=>SR K c hid ρ σ H/\ ∃ds,f ρ=some ds/\ ∀J H',Same H H'->Dd IR H' (vw H' hid) J ds->R J H'
def EO {ι:Type}(IR:Hp->V->ι->Prop)(X:Cx)(c:Ct)(tg iter:Expr)(f:aG->Option (List ι)):Prop:= ∀hid ρ,PI X tg iter (EI IR X.K c hid f ρ)
abbrev Cn(X:Cx)(c:Ct)(tg iter:Expr)(f:FA):Prop:=EO (Rep X.K) X c tg iter f
section
variable {X:Cx}{c:Ct}{k:Kd}{tg iter:Expr}{pos:Pos}
theorem DIp.b {f:FA}(h:DIp X c tg iter f):Cn X c tg iter f:=λhid ρ=>PI.imp (h hid ρ) λσ H R ⟨sr,ds,e,q⟩=>⟨sr,ds,e,λJ H' s io=>q J H' s io.b⟩
theorem DIp.e {f:FA}(h:DIp X c tg iter f):DI X c tg iter (bi f):=λhid ρ=>PI.imp (h hid ρ) λσ H R hq_=>by
 obtain⟨sr,ds,ρ',e,q⟩:=hq_;obtain⟨e1,rfl⟩:=qC e;exact⟨sr,ds,e1,λJ H' s io=>q J H' (.of s) (sr.ext s) io⟩
def pg(f:FE):FA:=λρ=>(f ρ).bind λd=>match d with
 | .lst ds=>some ds
 |_=>none
def zo(f:FE):FA:=λρ=>(f ρ).bind λd=>match d with
 | .tup ds=>some ds
 |_=>none
theorem nH {f:FE}{ρ:aG}{ds:List D}(h:pg f ρ=some ds):f ρ=some (.lst ds):=by
 unfold pg at h;cases e:f ρ with
 |none=>rw[e] at h;cases h
 |some d=>
  rw[e] at h;cases d with
  |lst z=>cases h;rfl
  |_=>cases h
theorem vn {f:FE}{ρ:aG}{ds:List D}(h:zo f ρ=some ds):f ρ=some (.tup ds):=by
 unfold zo at h;cases e:f ρ with
 |none=>rw[e] at h;cases h
 |some d=>
  rw[e] at h;cases d with
  |tup z=>cases h;rfl
  |_=>cases h
theorem xJ {K:W.Frag}{W:Hp}{a:Addr}{xs:List V}{ds:List D}(h1:SqL K W a xs)(h2:Reps K W xs ds):ItOk K W (Ea K a) ds:=by
 refine⟨λi d H e s=>?_,λH s=>⟨_,s.seq h1,by rw[h2.length];exact Nat.le_refl _⟩⟩;obtain⟨x,e1,r1⟩:=h2.get e;refine⟨⟨_,x,s.seq h1,e1⟩,λy H' ⟨e2,e3⟩=>?_⟩;subst e2;have:=e3 _ (s.seq h1);rw[e1] at this;cases this;exact⟨Same.refl _,λhid _ sw=>r1.mono sw⟩
theorem xk {f:FE}(h:DP X c .s iter f):DIp X c tg iter (pg f):=λhid ρ=>PI.imp (tN (h hid ρ)) λσ H R hq_=>by
 obtain⟨sr,ds,e,q⟩:=hq_;refine⟨sr,_,nH e,λv H' s' r=>?_⟩;cases r with
 |lst h1 h2=>have h1:=SqL.of (K:=X.K) h1;exact⟨_,rfl,⟨_,(di _ _).seq h1⟩,q _ H' s' (xJ h1 h2)⟩
theorem qj {f:FE}(h:DP X c .b iter f):Cn X c tg iter (pg f):=λhid ρ=>PI.imp (tN (h hid ρ)) λσ H R hq_=>by
 obtain⟨sr,ds,e,q⟩:=hq_;refine⟨sr,_,nH e,λv H' s' r=>?_⟩;obtain⟨a,xs,rfl,h1,h2⟩:=Rep1.lst r;refine⟨a,rfl,⟨_,h1⟩,q _ H' s' ⟨λi d H e s w=>?_,λH s w=>⟨_,s.seq h1,by rw[h2.length];exact Nat.le_refl _⟩⟩⟩;obtain⟨x,e1,r1⟩:=h2.get e;refine⟨⟨_,x,s.seq h1,e1⟩,λy H' ⟨e2,e3⟩=>?_⟩;subst e2;have:=e3 _ (s.seq h1);rw[e1] at this;cases this;exact⟨Same.refl _,λhid _ sw=>r1.mono sw⟩
theorem Ag {f:FE}(h:DP X c .s iter f):DIp X c tg iter (zo f):=λhid ρ=>PI.imp (BX (h hid ρ)) λσ H R hq_=>by
 obtain⟨sr,ds,e,q⟩:=hq_;refine⟨sr,_,vn e,λv H' s' r=>?_⟩;cases r with
 |tup h1 h2=>exact⟨_,rfl,⟨_,Same.seqT (di _ _) h1⟩,q _ H' s' (xY h1 h2)⟩
def ji(f:FA):FA:=λρ=>(f ρ).bind λds=>match ds with
 | [.int j]=>if j.natAbs<4000000000 then some (lD 0 j.toNat) else none
 |_=>none
def mE(f:FA):FA:=λρ=>(f ρ).bind λds=>match ds with
 | [.int i,.int j]=>if i.natAbs<4000000000/\j.natAbs<4000000000 then some (lD i (j-i).toNat) else none
 |_=>none
theorem jn {a:Expr}{f:FA}{p:Pos}(hm:X.mg "range"=none)(ha:DA X c [a] f)(hg:Gl X "range":=by rfl)(hs:starEach [a] X.env=[(false,eval a X.env)]:=by rfl):DIp X c tg (.Call (.Name "range" p) [a] [] pos) (ji f):=λhid ρ=>
 PI.imp (nY hg hm (ha hid ρ) hs) λσ H R hq_=>by
  obtain⟨sr,ds,e,q⟩:=hq_;unfold ji at e;cases e1:f ρ with
  |none=>rw[e1] at e;cases e
  |some z=>
   rw[e1] at e;dsimp only[Option.bind] at e;split at e
   ·split at e
    ·cases e;refine⟨sr,_,e1,λvs H' s' r=>?_⟩;cases r with
     |cons r t=>cases t;cases r;exact⟨_,rfl,by omega,by omega,q _ H' s' jt⟩
    ·cases e
   ·cases e
theorem rX {a b:Expr}{f:FA}{p:Pos}(hm:X.mg "range"=none)(ha:DA X c [a,b] f)(hg:Gl X "range":=by rfl)(hs:starEach [a,b] X.env=[(false,eval a X.env),(false,eval b X.env)]:=by rfl)(hs2:starEach [b] X.env=[(false,eval b X.env)]:=by rfl):DIp X c tg (.Call (.Name "range" p) [a,b] [] pos) (mE f):=λhid ρ=>
 PI.imp (vL hg hm (ha hid ρ) hs hs2) λσ H R hq_=>by
  obtain⟨sr,ds,e,q⟩:=hq_;unfold mE at e;cases e1:f ρ with
  |none=>rw[e1] at e;cases e
  |some z=>
   rw[e1] at e;dsimp only[Option.bind] at e;split at e
   ·split at e
    ·cases e;refine⟨sr,_,e1,λvs H' s' r=>?_⟩;cases r with
     |cons r t=>cases t with
      |cons r' t=>cases t;cases r;cases r';exact⟨_,_,rfl,by omega,q _ H' s' jt⟩
    ·cases e
   ·cases e
def jO(ifs:List Expr)(env:Env):Sem Bool:=forIn ifs true λc r=>if r=true then do let ok <-isTrue c env (eval c env);pure (ForInStep.yield ok) else pure (ForInStep.yield r)
def vB(X:Cx)(c:Ct)(ifs:List Expr)(p:FT):Prop:= ∀hid ρ (aa:List (Addr×Obj)) (s:Shared) (σ:St) (H:Hp) (Q:Bool->Hp->Prop),Inv X aa σ H s->Eh X.K c hid p ρ σ H Q->wpAny (model X.prog X.w) X.A (jO ifs X.env) (TP X aa σ Q) X.xe s
def dP:FT:=λ_=>some true
theorem fA:vB X c [] dP:=λhid ρ aa s σ H Q I hq_=>by
 obtain⟨sr,d,e,q⟩:=hq_;cases e;exact wpAny_tests_nil ⟨H,I,q H (Same.refl _)⟩
theorem uL {e:Expr}{p:FT}(h:DT X c e p):vB X c [e] p:=λhid ρ aa s σ H Q I q=>wpAny_tests_one (h hid ρ aa s σ H Q I q)
end
theorem gZ {prog:Program}{w:World}{A:Around}{R:Result->Shared->Prop}{s:Shared}{elt target iter:Expr}{ifs:List Expr}{scope:Scope}{pos:Pos}{it acc:Value}{env:Env}(I:Nat->Shared->Prop)
 (turn: ∀n s,I n s->wpAny (model prog w) A (pyNext it) (λr s₁=>match r with
   |none=>R (.ok .next) s₁
   |some v=>wpAny (model prog w) A (letOwnedTupleGo target it v) (λ_ s₁=>wpAny (model prog w) A (assign target env v) (λ_ s₂=>
     wpAny (model prog w) A (jO ifs env) (λok s₃=>
      if ok=true then wpAny (model prog w) A (eval elt env) (λx s₄=>
       wpAny (model prog w) A (call (.builtin "list.append") [acc,x]) (λ_ s₅=> ∃m,m<n/\I m s₅) (λ_ _=>False) s₄) (λ_ _=>False) s₃
      else∃m,m<n/\I m s₃) (λ_ _=>False) s₂) (λ_ _=>False) s₁) (λ_ _=>False) s₁) (λ_ _=>False) s)
 (n:Nat) (h:I n s):
 codeAny (model prog w) A (.compLoop (.ListComp elt [⟨target,iter,ifs,0⟩] scope pos) 0 it acc env) R s:=by
 have no: ∀ {E':Value->Shared->Prop} (x:Value) (s:Shared),False->E' x s:=λ_ _ z=>z.elim
 refine codeAny_loop rfl I (λn s hI=>?_) n h;show wpAny _ A ((compTurn (.ListComp elt [⟨target,iter,ifs,0⟩] scope pos) 0 it acc env).onRaise (λx=>do noteFrame x env;theTreesLotGoes x)) _ _ s;refine wpAny_noted ?_
 rw[compTurn_list];refine wpAny_bind (wpAny_standAt (wpAny_bind (wpAny_mono (turn n s hI) (λr s₁ h₁=>?_) no)));cases r with
 |none=>exact wpAny_pure h₁
 |some v=>
  refine wpAny_bind (wpAny_mono h₁ (λ_ s₁ h₁=>?_) no);refine wpAny_bind (wpAny_mono h₁ (λ_ s₂ h₂=>wpAny_bind (wpAny_mono h₂ (λok s₃ h₃=>?_) no)) no);cases ok with
  |false=>exact wpAny_pure ⟨rfl,h₃⟩
  |true=>
   exact wpAny_bind (wpAny_bind (wpAny_mono h₃ (λx s₄ h₄=>wpAny_bind (wpAny_mono h₄ (λ_ s₅ h₅=>wpAny_pure (wpAny_pure ⟨rfl,h₅⟩)) no)) no))
def cX {ι:Type}(g:ι->aG->Option aG)(p:FT)(f:FE)(ρ0:aG):List ι->Option (List D)
 | []=>some []
 |d::r=>(g d ρ0).bind λρ1=>(p ρ1).bind λb=>if b=true then(f ρ1).bind λy=>(cX g p f ρ0 r).map (y:: ·) else cX g p f ρ0 r
def bL {ι:Type}(m:Nat)(gi:aG->Option (List ι))(g:ι->aG->Option aG)(p:FT)(f:FE):FE:=λρ=>(gi ρ).bind λds=>if ds.length<=sizeLine then(cX g p f (ρ++List.replicate m .no) ds).map D.lst else none
theorem lX {ι:Type}{m:Nat}{gi:aG->Option (List ι)}{g:ι->aG->Option aG}{p:FT}{f:FE}{ρ:aG}{d:D}(h:bL m gi g p f ρ=some d): ∃ds ys,gi ρ=some ds/\ds.length<=sizeLine/\cX g p f (ρ++List.replicate m .no) ds=some ys/\d=.lst ys:=by
 unfold bL at h;cases e1:gi ρ with
 |none=>rw[e1] at h;cases h
 |some ds=>
  rw[e1] at h;dsimp only[Option.bind] at h;split at h
  ·cases e2:cX g p f (ρ++List.replicate m .no) ds with
   |none=>rw[e2] at h;cases h
   |some ys=>rw[e2] at h;cases h;exact⟨ds,ys,rfl, ‹_›,e2,rfl⟩
  ·cases h
def jY {ι:Type}(n:Nat)(g:ι->aG->Option aG):Prop:= ∀d (ρ0 ρ1:aG),g d ρ0=some ρ1->ρ1.length=ρ0.length/\ ∀i:Nat,i<n->ρ1[i]? =ρ0[i]?
def uM(n:Nat)(g:tY):Prop:= ∀d (ρ0 ρ1:aG),g d ρ0=some ρ1->ρ1.length=ρ0.length/\ ∀i:Nat,i<n->ρ1[i]? =ρ0[i]?
theorem cP {n i:Nat}(h:n<=i):jY n (gN i):=λd ρ0 ρ1 e=>by
 cases e;exact⟨by simp,λj hj=>List.getElem?_set_ne (by omega)⟩
theorem eT {n:Nat}:uM n fz:=λd ρ0 ρ1 e=>by
 unfold fz at e;split at e
 ·cases e;exact⟨rfl,λ_ _=>rfl⟩
 ·cases e
theorem bg {n:Nat}{g:FG}{gs:tY}(h1:jY n g)(h2:uM n gs):uM n (cj g gs):=λd ρ0 ρ1 e=>by
 cases d with
 |nil=>cases e
 |cons d ds=>
  have e:(g d ρ0).bind (λρ'=>gs ds ρ')=some ρ1:=e;cases e1:g d ρ0 with
  |none=>rw[e1] at e;cases e
  |some ρ2=>
   rw[e1] at e;obtain⟨a1,a2⟩:=h1 d ρ0 ρ2 e1;obtain⟨b1,b2⟩:=h2 ds ρ2 ρ1 e;exact⟨b1.trans a1,λi hi=>(b2 i hi).trans (a2 i hi)⟩
theorem jr {n m:Nat}{gs:tY}(h:uM n gs):jY n (gT m gs):=λd ρ0 ρ1 e=>by
 unfold gT at e;split at e
 ·split at e
  ·exact h _ _ _ e
  ·cases e
 ·cases e
theorem SR.forget {K:W.Frag}{c:Ct}{hid:bw}{ρ0 ρ1:aG}{σ:St}{H:Hp}(h:SR K c hid ρ1 σ H)(hl:ρ1.length=ρ0.length)(hs: ∀(i:Nat) (s:Sl),ρ0[i]? =some s->s=.no\/ρ1[i]? =some s):SR K c hid ρ0 σ H:=by
 have ow: ∀i:Nat,Ow ρ0[i]? ->Ow ρ1[i]? :=λi o=>by
  cases e:ρ0[i]? with
  |none=>rw[e] at o;exact o.elim
  |some s=>
   rcases hs i s e with rfl|z
   ·rw[e] at o;exact o.elim
   ·rw[z,<-e];exact o
 refine⟨h.tr,h.ht,h.h0,h.kp,h.t0,h.c0,h.m0,h.len.trans hl,λi s e=>?_,λi j a n o1 o2=>h.ap i j a n (ow i o1) (ow j o2)⟩;rcases hs i s e with rfl|z
 ·trivial
 ·exact h.sl i s z
theorem SR.more {K:W.Frag}{c:Ct}{hid:bw}{ρ:aG}{σ:St}{H:Hp}(h:SR K c hid ρ σ H)(m:Nat):SR K c hid (ρ++List.replicate m .no) (σ++List.replicate m none) H:=by
 have lt: ∀ {i:Nat},Ow (ρ++List.replicate m Sl.no)[i]? ->i<ρ.length:=λ{i} o=>by
  by_cases hi:i<ρ.length
  ·exact hi
  ·rw[List.getElem?_append_right (by omega),List.getElem?_replicate] at o;split at o<;>exact o.elim
 refine⟨h.tr,h.ht,h.h0,h.kp,h.t0,h.c0,h.m0,by simp[h.len],λi s e=>?_,λi j a n o1 o2 q1 q2=>?_⟩
 ·by_cases hi:i<ρ.length
  ·rw[List.getElem?_append_left hi] at e;have z:=h.sl i s e;have es:(σ++List.replicate m none)[i]? =σ[i]? :=List.getElem?_append_left (by rw[h.len];exact hi);cases s with
   |no=>trivial
   |v d=>obtain⟨x,h1,h2⟩:=z;exact⟨x,es.trans h1,h2⟩
   |own ds=>obtain⟨a,xs,h1,h2⟩:=z;exact⟨a,xs,es.trans h1,h2⟩
   |arg ds=>obtain⟨a,xs,h1,h2⟩:=z;exact⟨a,xs,es.trans h1,h2⟩
   |ob b=>obtain⟨a,h1,h2⟩:=z;exact⟨a,es.trans h1,h2⟩
  ·rw[List.getElem?_append_right (by omega),List.getElem?_replicate] at e;split at e
   ·cases e;trivial
   ·cases e
 ·have l1:=lt o1;have l2:=lt o2;rw[List.getElem?_append_left l1] at o1;rw[List.getElem?_append_left l2] at o2;rw[List.getElem?_append_left (by rw[h.len];exact l1)] at q1;rw[List.getElem?_append_left (by rw[h.len];exact l2)] at q2;exact h.ap i j a n o1 o2 q1 q2
section
variable {X:Cx}{c:Ct}{elt tg iter:Expr}{ifs:List Expr}{scope:Scope}{pos:Pos}{N':List Str}{m:Nat}{ι:Type}{IR:Hp->V->ι->Prop}{gi:aG->Option (List ι)}{g:ι->aG->Option aG}{p:FT}{f:FE}
theorem SR.write {K:W.Frag}{hid:bw}{ρ:aG}{σ:St}{H:Hp}{a:Addr}{o':HO}(h:SR K c hid ρ σ H)(hh:hid a=true)(h0:c.H₀ a=none)(na: ∀i:Nat,Ow ρ[i]? ->σ[i]? ≠some (some (.ref a))){o:HO}(ha:H a=some o)(hm: ∀p u,o≠ .nst p u:=by intro _ _ e;cases e)(hn: ∀xs,o'≠ .tup xs:=by intro _ e;cases e):SR K c hid ρ σ (cb H a o'):=by
 have tr': ∀b o,H b=some o-> ∃o2,(cb H a o') b=some o2:=λb o q=>by
  by_cases e:b=a
  ·subst e;exact⟨_,aN⟩
  ·exact⟨o,by rw[aH e];exact q⟩
 refine⟨λb hb=>let⟨o,q⟩:=h.tr b hb;tr' b o q,λb xs hb q=>by
  by_cases e:b=a
  ·subst e;rw[aN] at q;exact hn _ (Option.some.inj q)
  ·rw[aH e] at q;exact h.ht b xs hb q,h.h0,λb o q m=>?_,λb o q=>let⟨o2,q2⟩:=h.t0 b o q;tr' b o2 q2,h.c0,h.m0,h.len,λi s e=>?_,h.ap⟩
 ·rw[aH (bo q h0)];exact h.kp b o q m
 ·have z:=h.sl i s e;have ne: ∀a',Ow ρ[i]? ->σ[i]? =some (some (.ref a'))->a'≠a:=λa' o q w=>by subst w;exact na i o q
  cases s with
  |no=>trivial
  |v d=>obtain⟨x,h1,h2⟩:=z;exact⟨x,h1,by rw[eL hh];exact h2⟩
  |own ds=>obtain⟨a',xs,h1,h2,h3,h4,h5⟩:=z;exact⟨a',xs,h1,by rw[aH (ne a' (by rw[e];trivial) h1)];exact h2,h3,h4,by rw[eL hh];exact h5⟩
  |arg ds=>obtain⟨a',xs,h1,h2,h3,h4,h5⟩:=z;exact⟨a',xs,h1,by rw[aH (ne a' (by rw[e];trivial) h1)];exact h2,h3,h4,by rw[eL hh];exact h5⟩
  |ob b=>obtain⟨a',h1,h2⟩:=z;exact⟨a',h1,h2.mono (λow x hx o q=>by rw[aH (hx.ne (ne a' (by rw[e];exact ow) h1) ha hm)];exact q) (by rw[eL hh];exact Same.refl _) λ_ _ _ q=>q⟩
structure CLI(Y:Cx)(K:W.Frag)(c:Ct)(hid:bw)(ρ0:aG)(H W:Hp)(D0:Addr)(fp:List Addr)(tn:Nat->Heap->Prop){ι:Type}(g:ι->aG->Option aG)(p:FT)(f:FE)(ds:List ι)(ys:List D)(n i:Nat)(xs:List V)(ad:List D)(σ':St)(H':Hp)(s':Shared):Prop where
 e:n=ds.length-i
 hi:i<=ds.length
 I:Inv Y [] σ' H' s'
 st:tn i s'.heap
 fr: ∀b∈fp,H' b=none
 sr:SR K c hid ρ0 σ' H'
 sm:Same H H'
 ac:H' D0=some (.lst xs)
 rp:Reps K (vw H' hid) xs ad
 w:Same W (vw H' hid)
 hl:xs.length<=i
 na: ∀i:Nat,Ow ρ0[i]? ->σ'[i]? ≠some (some (.ref D0))
 go: ∃rest,cX g p f ρ0 (ds.drop i)=some rest/\ad++rest=ys
theorem vF(hcalm:X.calm=true)(hT:jY X.N.length g)
 (hg: ∀C s₀ H₀ ex,DM IR (aP X N' scope C s₀ H₀ ex) c tg g) (hp: ∀C s₀ H₀ ex,vB (aP X N' scope C s₀ H₀ ex) c ifs p) (he: ∀C s₀ H₀ ex,DP (aP X N' scope C s₀ H₀ ex) c .s elt f)
 {σ3:St} {H H3:Hp} {s3 s4:Shared} {hid:bw} {ρ:aG} {J:It} {it D0 C:Addr} {fp:List Addr} {tn:Nat->Heap->Prop} {ds:List ι} {ys:List D} {R:Result->Shared->Prop} {W:Hp} (hρ:ρ.length=X.N.length)
 (I:Inv (aP X N' scope C s3 H3 fp) [] σ3 H3 s4) (sr:SR X.K c hid (ρ++List.replicate m .no) σ3 H3) (hh:hid D0=true) (h00:c.H₀ D0=none) (na: ∀i:Nat,Ow (ρ++List.replicate m Sl.no)[i]? ->σ3[i]? ≠some (some (.ref D0))) (hacc:H3 D0=some (.lst [])) (sm:Same H H3) (nD:H D0=none) (wv:Same W (vw H3 hid)) (T:Turn X.prog X.w X.K tg J fp it tn) (st:tn 0 s4.heap) (hF: ∀b∈fp,H3 b=none)
 (io:Dd IR H W J ds) (hz:ds.length<=sizeLine) (hc:cX g p f (ρ++List.replicate m .no) ds=some ys)
 (hR: ∀(s':Shared) (σ':St) (H':Hp) (xs:List V),Inv (aP X N' scope C s3 H3 fp) [] σ' H' s'->Same H H'->H' D0=some (.lst xs)->Reps X.K (vw H' hid) xs ys->R (.ok .next) s'):
 codeAny (model X.prog X.w) X.A (.compLoop (.ListComp elt [⟨tg,iter,ifs,0⟩] scope pos) 0 (.ref it) (.ref D0) (compEnvC scope (mB X.env.cells scope C) C X.env)) R s4:=by
 have stat: ∀ {aa:List (Addr×Obj)} {H':Hp},(∀q∈aa,q.1∉fp)->(∀b∈fp,H' b=none)-> ∀b∈fp,iA (aP X N' scope C s3 H3 fp) aa H' b:=λ{aa H'} hpn hn b hb=>
  ⟨hn b hb,(I.ok.exf b hb).1,I.ok.exfs b hb,.inl hb,(I.ok.exf b hb).2,λq hq e=>hpn q (by have hq':q∈([]:List (Addr×Obj))++aa:=hq;simpa using hq') (by rw[e];exact hb)⟩
 have no: ∀q∈([]:List (Addr×Obj)),q.1∉fp:=λq hq=>nomatch hq
 refine gZ (λn s'=> ∃(i:Nat) (xs:List V) (ad:List D) (σ':St) (H':Hp),CLI (aP X N' scope C s3 H3 fp) X.K c hid (ρ++List.replicate m .no) H W D0 fp tn g p f ds ys n i xs ad σ' H' s') ?_ ds.length
  ⟨0,[],[],σ3,H3,by simp,Nat.zero_le _,I,st,hF,sr,sm,hacc,.nil,wv,Nat.zero_le _,na,ys,by simpa using hc,rfl⟩
 rintro n s5 ⟨i,xs,ad,σ5,H5,rfl,hi,I5,st5,f5,sr5,sm5,ac5,rp5,w5,hl5,na5,rest,hc5,hy5⟩;have wH:Same W H5:=w5.trans (di _ _)
 by_cases hlt:i<ds.length
 ·have hd:ds[i]? =some ds[i]:=List.getElem?_eq_getElem hlt;have e2:ds.drop i=ds[i]::ds.drop (i+1):=List.drop_eq_getElem_cons hlt;rw[e2] at hc5;unfold cX at hc5;obtain⟨go,yl⟩:=io.1 i ds[i] H5 hd sm5 wH;refine cq (T.item (aP X N' scope C s3 H3 fp) rfl rfl rfl hcalm i [] s5 σ5 H5 (λ_ _=>False) I5 (stat no f5) st5 go) λr s6 hq_=>?_
  obtain⟨u,hr,h6⟩:=hq_;subst hr;refine cq h6 λ_ s7 hq_=>?_
  obtain⟨x,H7,I7,r7,y7,st7,f7⟩:=hq_;obtain⟨s7',rp⟩:=yl x H7 y7;have rx:=rp hid sr5.tr w5;have I7':=I7.pinned (stat no f7) (T.obj _ _ st7);cases e3:g ds[i] (ρ++List.replicate m .no) with
  |none=>rw[e3] at hc5;cases hc5
  |some ρ1=>
   rw[e3] at hc5;have hc5:(p ρ1).bind (λb=>if b=true then(f ρ1).bind λy=>(cX g p f (ρ++List.replicate m .no) (ds.drop (i+1))).map (y:: ·) else cX g p f (ρ++List.replicate m .no) (ds.drop (i+1)))=some rest:=hc5;obtain⟨tl1,tl2⟩:=hT _ _ _ e3;have fg: ∀ {σ':St} {H':Hp},SR X.K c hid ρ1 σ' H'->SR X.K c hid (ρ++List.replicate m .no) σ' H':=λ{σ' H'} z=>z.forget tl1 λj s e=>by
    by_cases hj:j<X.N.length
    ·exact .inr ((tl2 j hj).trans e)
    ·refine .inl ?_
     rw[List.getElem?_append_right (by omega),List.getElem?_replicate] at e;split at e
     ·cases e;rfl
     ·cases e
   have keepT: ∀ {σ':St} {H':Hp} {s':Shared},Inv (aP X N' scope C s3 H3 fp) ([]++kr fp s7.heap) σ' H' s'->tn (i+1) s'.heap/\ ∀b∈fp,H' b=none:=λ{σ' H' s'} J'=>by
    refine⟨T.keep _ _ _ st7 λb hb o e=>(J'.pin (b,o) (List.mem_append_right _ (List.mem_append_right _ (eQ hb e)))).1,λb hb=>?_⟩;obtain⟨o,e,_⟩:=T.obj _ _ st7 b hb;exact(J'.pin (b,o) (List.mem_append_right _ (List.mem_append_right _ (eQ hb e)))).2.1
   refine cq (hg C s3 H3 fp hid _ ds[i] _ s7 σ5 H7 x u (λσ' H'=>H'=H7/\SR X.K c hid ρ1 σ' H7/\OwK (ρ++List.replicate m .no) ρ1 σ5 σ') I7' r7 ⟨sr5.ext s7',rx,ρ1,e3,λσ' z o=>⟨rfl,z,o⟩⟩) λ_ s8 hq_=>?_
   obtain⟨σ8,H8,I8,e8,q8,o8⟩:=hq_;subst e8;have na8: ∀i:Nat,Ow (ρ++List.replicate m Sl.no)[i]? ->σ8[i]? ≠some (some (.ref D0)):=λj o=>by
    have o1:Ow ρ1[j]? :=by
     by_cases hj:j<X.N.length
     ·rw[tl2 j hj];exact o
     ·exfalso;rw[List.getElem?_append_right (by omega),List.getElem?_replicate] at o;split at o<;>exact o.elim
    rw[(o8 j o1).2];exact na5 j o
   cases e4:p ρ1 with
   |none=>rw[e4] at hc5;cases hc5
   |some b=>
    rw[e4] at hc5;have hc5:(if b=true then(f ρ1).bind λy=>(cX g p f (ρ++List.replicate m .no) (ds.drop (i+1))).map (y:: ·) else cX g p f (ρ++List.replicate m .no) (ds.drop (i+1)))=some rest:=hc5;refine cq (hp C s3 H3 fp hid ρ1 _ s8 σ8 H8 (λb' H'=>b'=b/\Same H8 H') I8 ⟨q8,b,e4,λH' s'=>⟨rfl,s'⟩⟩) λok s9 hq_=>?_
    obtain⟨H9,I9,e9,sm9⟩:=hq_;subst e9;have w9:Same (vw H5 hid) (vw H9 hid):=aM (s7'.trans sm9);cases ok with
    |false=>
     have hc5:cX g p f (ρ++List.replicate m .no) (ds.drop (i+1))=some rest:=hc5;obtain⟨k1,k2⟩:=keepT I9;exact⟨ds.length- (i+1),by omega,i+1,xs,ad,σ8,H9,rfl,hlt,I9.unpinned,k1,k2,fg (q8.ext sm9),sm5.trans (s7'.trans sm9),sm9 _ _ (s7' _ _ ac5),rp5.mono w9,w5.trans w9,by omega,na8,rest,hc5,hy5⟩
    |true=>
     have hc5:((f ρ1).bind λy=>(cX g p f (ρ++List.replicate m .no) (ds.drop (i+1))).map (y:: ·))=some rest:=hc5;cases e5:f ρ1 with
     |none=>rw[e5] at hc5;cases hc5
     |some y=>
      rw[e5] at hc5;have hc5:(cX g p f (ρ++List.replicate m .no) (ds.drop (i+1))).map (y:: ·)=some rest:=hc5;cases e6:cX g p f (ρ++List.replicate m .no) (ds.drop (i+1)) with
      |none=>rw[e6] at hc5;cases hc5
      |some rest'=>
       rw[e6] at hc5;cases hc5;show wpAny (model X.prog X.w) X.A (eval elt _) _ _ s9;refine cq (he C s3 H3 fp hid ρ1 _ s9 σ8 H9 (λv H'=>Same H9 H'/\Rep X.K (vw H' hid) v y) I9 ⟨q8.ext sm9,y,e5,λv H' s' r=>⟨s',r⟩⟩) λv s10 hq_=>?_
       obtain⟨z,H10,I10,rz,sm10,rp10⟩:=hq_;have sm':Same H5 H10:=s7'.trans (sm9.trans sm10);have a10:H10 D0=some (.lst xs):=sm' _ _ ac5;refine cq (fH (X:=aP X N' scope C s3 H3 fp) _ s10 σ8 H10 (.ref D0) [z] (.ref D0) [v] (λ_ H'=>H'=cb H10 D0 (.lst (xs++[z]))) I10 rfl (.cons rz .nil) ⟨D0,xs,z,rfl,rfl,a10,by omega,rfl⟩) λ_ s11 ⟨_,H11,I11,_,e11⟩=>?_
       subst e11;obtain⟨k1,k2⟩:=keepT I11;have vv:vw (cb H10 D0 (.lst (xs++[z]))) hid=vw H10 hid:=eL hh;have w10:Same (vw H5 hid) (vw H10 hid):=aM sm';refine⟨ds.length- (i+1),by omega,i+1,xs++[z],ad++[y],σ8,_,rfl,hlt,I11.unpinned,k1,k2,?_,λb o e=>?_,aN,?_,?_,by simp;omega,na8,rest',e6,by rw[<-hy5];simp⟩
       ·
        have q10:=fg ((q8.ext sm9).ext sm10);exact q10.write hh h00 na8 a10
       ·rw[aH (bo e nD)];exact sm' _ _ (sm5 _ _ e)
       ·rw[vv];exact(rp5.mono w10).append (.cons rp10 .nil)
       ·rw[vv];exact w5.trans w10
 ·have e:i=ds.length:=by omega
  subst e;rw[List.drop_eq_nil_of_le (Nat.le_refl _)] at hc5;cases hc5;rw[List.append_nil] at hy5;subst hy5;refine cq (T.done (aP X N' scope C s3 H3 fp) rfl rfl rfl hcalm ds.length [] s5 σ5 H5 (λ_ _=>False) I5 (stat no f5) st5 (io.2 H5 sm5 wH)) λr s6 hq_=>?_
  obtain⟨hr,I6⟩:=hq_;subst hr;exact hR s6 σ5 H5 xs I6 sm5 ac5 rp5
theorem mO(hcalm:X.calm=true)(hk:scope.kind=.function)(hs:wl scope X.env.scope=true)(hn:wR X.N N' scope=true)(hm:N'.length-X.N.length=m)(hT:jY X.N.length g)
 (hg: ∀C s₀ H₀ ex,DM IR (aP X N' scope C s₀ H₀ ex) c tg g) (hp: ∀C s₀ H₀ ex,vB (aP X N' scope C s₀ H₀ ex) c ifs p) (he: ∀C s₀ H₀ ex,DP (aP X N' scope C s₀ H₀ ex) c .s elt f)
 {E:Value->Shared->Prop} {aa:List (Addr×Obj)} {σ:St} {H:Hp} {s:Shared} {hid:bw} {ρ:aG} {J:It} {it:Addr} {fp:List Addr} {tn:Nat->Heap->Prop} {ds:List ι} {ys:List D} {RR:Value->Addr->Result->Shared->Prop}
 (I:Inv X aa σ H s) (sr:SR X.K c hid ρ σ H) (T:Turn X.prog X.w X.K tg J fp it tn) (st:tn 0 s.heap) (hF: ∀b∈fp,iA X aa H b) (io:Dd IR H (vw H hid) J ds) (hz:ds.length<=sizeLine) (hc:cX g p f (ρ++List.replicate m .no) ds=some ys)
 (hR: ∀(D C:Addr) (s':Shared) (H':Hp) (xs:List V),s.heap.objs.size<=D->s.heap.objs.size<=C->D≠C->H D=none->Same H H'->H' D=some (.lst xs)->Reps X.K (vw H' (bY hid D)) xs ys->(∃m,s'.heap.Ns C m)->H' C=none->s'.os=s.os->AllBare s'.gens->HOk X.prog X.w H' s'.heap->Un (frs X.stack) fp H H' s.heap s'.heap->RR (.ref D) C (.ok .next) s'):
 wpAny (model X.prog X.w) X.A (newList []) (λacc s₃=>wpAny (model X.prog X.w) X.A (newFunctionEnv scope X.env.globals (pI X.env.cells scope.names []) [] X.env.qual none .none (some X.env)) (λcenv s₄=>
  codeAny (model X.prog X.w) X.A (.compStart (.ListComp elt [⟨tg,iter,ifs,0⟩] scope pos) 0 (.ref it) acc {cenv with scope:=relabel scope X.env}) (RR acc cenv.locals) s₄) E s₃) E s:=by
 refine wpAny_newObj_type (ud λh₁ hns₁ kp1 oc₁=>?_);dsimp only at hns₁ kp1 oc₁⊢;generalize hH2:s.heap.push {cls:=.type "list",dict:=none,data:=.seq ([]:List Value).toArray}=H2 at hns₁ kp1 oc₁⊢;have hC:H2.objs.size=s.heap.objs.size+1:=by rw[<-hH2,Heap.size_push]
 have hD:H s.heap.objs.size=none:=I.hok.fresh (Nat.le_refl _);have I2:Inv X aa σ (cb H s.heap.objs.size (.lst [])) {s with heap:=H2}:=by
  rw[<-hH2];exact I.laid (t':=s.toks) (λb o e=>Heap.get?_push_of_some _ e) (Nat.le_refl _) ⟨Nat.zero_le _,[],0,.nil,Heap.get?_push_size _ rfl⟩
 have fpLt: ∀b∈fp,b<s.heap.objs.size:=λb hb=>let⟨o,e,_⟩:=T.obj 0 s.heap st b hb;Heap.lt_size e
 have hF2: ∀b∈fp,iA X aa (cb H s.heap.objs.size (.lst [])) b:=λb hb=>⟨by rw[aH (Nat.ne_of_lt (fpLt b hb))];exact(hF b hb).1,(hF b hb).2⟩
 have kp0: ∀b o,s.heap.get? b=some o->H2.get? b=some o:=λb o e=>by rw[<-hH2];exact Heap.get?_push_of_some _ e
 have IY:=qb (tk:=s.toks) (N':=N') (fp:=fp) I2 hF2 (λb hb=>let⟨o,e,_⟩:=T.obj 0 s.heap st b hb;⟨o,kp0 b o e⟩) hk hs hn hns₁ kp1 oc₁;rw[hm] at IY;dsimp only at IY;have sr0:SR X.K c (bY hid s.heap.objs.size) (ρ++List.replicate m .no) (σ++List.replicate m none) (cb H s.heap.objs.size (.lst [])):=(sr.hide (bq hD _) hD aN).more m;have hρ:ρ.length=X.N.length:=by rw[<-sr.len];exact I.len
 have nf:hid s.heap.objs.size=false:=sr.fresh hD;have st1:tn 0 h₁:=T.keep _ _ _ st λb hb o e=>kp1 b o (kp0 b o e)
 have na0: ∀i:Nat,Ow (ρ++List.replicate m Sl.no)[i]? ->(σ++List.replicate m none)[i]? ≠some (some (V.ref s.heap.objs.size)):=(sr.more m).notOw nf
 have wv:Same (vw H hid) (vw (cb H s.heap.objs.size (.lst [])) (bY hid s.heap.objs.size)):=by rw[oZ hD];exact Same.refl _
 have loop: ∀s4:Shared,s4={s with heap:=h₁,toks:=s.toks}->
  codeAny (model X.prog X.w) X.A (.compLoop (.ListComp elt [⟨tg,iter,ifs,0⟩] scope pos) 0 (.ref it) (.ref s.heap.objs.size) (compEnvC scope (mB X.env.cells scope H2.objs.size) H2.objs.size X.env)) (RR (.ref s.heap.objs.size) H2.objs.size) s4:=by
  rintro s4 rfl;refine vF (H:=H) (hid:=bY hid s.heap.objs.size) (W:=vw H hid) hcalm hT hg hp he hρ IY sr0 fM (sr.fresh0 hD) na0 aN (bq hD _) hD wv T st1 (λb hb=>(hF2 b hb).1) io hz hc ?_
  intro s' σ' H' xs I' sm' hx' rp';have un1:Un (frs X.stack) fp H (cb H s.heap.objs.size (.lst [])) s.heap H2:=Un.laid (λb o e=>kp0 b o e) (Nat.le_refl _) hD;refine hR s.heap.objs.size H2.objs.size s' H' xs (Nat.le_refl _) (by rw[hC];exact Nat.le_succ _) (by rw[hC];exact Nat.ne_of_lt (Nat.lt_succ_self _)) hD sm' hx' rp' (let⟨m,hm,_⟩:=I'.loc;⟨m,hm⟩) I'.free I'.os I'.bare I'.hok (un1.trans I'.base)
 exact codeAny_compStart_list (loop _ rfl) (T.self X.A 0 _ _ _ st1 (loop _ rfl))
theorem gh(hcalm:X.calm=true)(hT:jY X.N.length g)(hi:EO IR X c tg iter gi)
 (hg: ∀C s₀ H₀ ex,DM IR (aP X N' scope C s₀ H₀ ex) c tg g) (hp: ∀C s₀ H₀ ex,vB (aP X N' scope C s₀ H₀ ex) c ifs p) (he: ∀C s₀ H₀ ex,DP (aP X N' scope C s₀ H₀ ex) c .s elt f)
 (hk:scope.kind=.function:=by rfl) (hs:wl scope X.env.scope=true:=by kernel_rfl) (hn:wR X.N N' scope=true:=by kernel_rfl) (hm:N'.length-X.N.length=m:=by rfl) (hset: ∀x,foldedSetIterable iter X.env x=pure x:=by intro _;rfl):
 DP X c .n (.ListComp elt [⟨tg,iter,ifs,0⟩] scope pos) (bL m gi g p f):=by
 intro hid ρ aa s σ H Q I hq;obtain⟨sr,d,hd,q⟩:=hq;obtain⟨ds,ys,e1,hz,hc,rfl⟩:=lX hd;rw[eval_ListComp];refine wpAny_comprehension_free (use:=none) rfl hset (fW λx hx=>I.ok.has x (iI hs x hx)) hk (kR hs) ?_
 refine cq (hi hid ρ aa s σ H (λJ H'=>Same H H'/\Dd IR H' (vw H' hid) J ds) I ⟨sr,ds,e1,λJ H' s1 io=>⟨s1,io⟩⟩) λv s1 h1=>cq h1 λitv s2 h2=>?_
 obtain⟨it,fp,tn,J,H2,rfl,I2,T,st2,f2,sm,io⟩:=h2;refine mO (RR:=λacc C=>compPost (model X.prog X.w) X.A X.xe none (EP X aa σ Q) acc C) hcalm hk hs hn hm hT hg hp he I2 (sr.ext sm) T st2 f2 io hz hc ?_
 intro D C s' H' xs hDge hCge hDC hD sm' hx rp ⟨mm,hns⟩ hC' hos hbare hok hun;refine⟨mm,hns,λh' hsb=>⟨.ref D,H',?_,rfl,q _ H' (sm.trans sm') ⟨D,xs,ys,rfl,rfl,sm.free hD,hx,rp⟩⟩⟩;have neC: ∀b o,s2.heap.get? b=some o->b≠C:=λb o e z=>by subst z;exact absurd (Heap.lt_size e) (Nat.not_lt.mpr hCge)
 have hun':Un (frs X.stack) fp H2 H' s2.heap h':=⟨λb o e n h1 h2=>(hsb.2 b (neC b o e)).trans (hun.keep b o e n h1 h2),λb o e n h1 h2=>let⟨sl,z⟩:=hun.slot b o e n h1 h2;⟨sl,(hsb.2 b (neC b o e)).trans z⟩,hun.free,λb o e h2=>let⟨o',z⟩:=hun.there b o e h2;⟨o',(hsb.2 b (neC b o e)).trans z⟩,hun.tups,hun.frzs,hun.tbls⟩
 have hok':HOk X.prog X.w H' h':=λb o e=>by
  have nb: ∀b' o',H' b'=some o'->b'≠C:=λb' o' e' z=>by subst z;rw[hC'] at e';cases e'
  refine(hok b o e).stay (λc' u hc' z=>(hsb.2 c' ?_).trans z) (λ_ z=>z) λ_ _ z=>z
  rcases hc' with z'|z'
  ·rw[z'];exact nb b o e
  ·exact nb c' _ z'
 exact I2.call' (s':={s' with heap:=h'}) (ch:=fp) hos hun' hok' hbare λb hb=>⟨(f2 b hb).2.2.2.1,(f2 b hb).2.1,(f2 b hb).2.2.2.2.1,(f2 b hb).2.2.2.2.2⟩
end
section
variable {X:Cx}{c:Ct}{elt tg iter:Expr}{ifs:List Expr}{scope:Scope}{pos spos py:Pos}{N':List Str}{m:Nat}{gi:FA}{g:FG}{p:FT}{f:FE}{y:Str}
theorem zq(i:Nat)(hcalm:X.calm=true)(hN:X.N.Nodup)(hT:jY X.N.length g)(hi:Cn X c tg iter gi)
 (hg: ∀C s₀ H₀ ex,uW (aP X N' scope C s₀ H₀ ex) c tg g) (hp: ∀C s₀ H₀ ex,vB (aP X N' scope C s₀ H₀ ex) c ifs p) (he: ∀C s₀ H₀ ex,DP (aP X N' scope C s₀ H₀ ex) c .s elt f)
 (hsw:swapsWith (.ListComp elt [⟨tg,iter,ifs,0⟩] scope pos) (some (.Name y py)) spos.line X.env=pure true) (hyi:X.N[i]? =some y) (hy:X.env.scope.names.lookup y=some .local)
 (hk:scope.kind=.function) (hs:wl scope X.env.scope=true) (hn:wR X.N N' scope=true) (hm:N'.length-X.N.length=m) (hset: ∀x,foldedSetIterable iter X.env x=pure x) (ρ:aG):
 PS X (.Assign [.Name y py] (.ListComp elt [⟨tg,iter,ifs,0⟩] scope pos) spos) (Bp (λσ H Q=> ∃hid,Cm X.K c hid .n (bL m gi g p f) ρ σ H Q) (wL i)):=by
 intro aa s σ H E I hq;obtain⟨hid,sr,d,hd,q⟩:=hq;obtain⟨ds,ys,e1,hz,hc,rfl⟩:=lX hd;rw[exec_Assign_Name_used _ _ _ _ hsw];refine wpAny_bind (wpAny_standAt (wpAny_bind ?_));show wpAny _ X.A (do let _ <-comprehension (.ListComp elt [⟨tg,iter,ifs,0⟩] scope pos) scope X.env _ (newList []) false (eval iter X.env) (some (assign (.Name y py) X.env))) _ _ s;refine wpAny_bind (wpAny_mono (wpAny_comprehension_free (use:=some (assign (.Name y py) X.env)) (Q:=λ_ s'=>SP X aa E .next s') rfl hset (fW λx hx=>I.ok.has x (iI hs x hx)) hk (kR hs) ?_) (λ_ s' hq=>wpAny_pure (wpAny_pure hq)) λ_ _ e=>e);refine cq (hi hid ρ aa s σ H (λJ H'=>Same H H'/\De X.K H' (vw H' hid) J ds) I ⟨sr,ds,e1,λJ H' s1 io=>⟨s1,io⟩⟩) λv s1 h1=>cq h1 λitv s2 h2=>?_
 obtain⟨it,fp,tn,J,H2,rfl,I2,T,st2,f2,sm,io⟩:=h2;refine mO (IR:=Rep X.K) (RR:=λacc C=>compPost (model X.prog X.w) X.A X.xe (some (assign (.Name y py) X.env)) (λ_ s'=>SP X aa E .next s') acc C) hcalm hk hs hn hm hT hg hp he I2 (sr.ext sm) T st2 f2 io hz hc ?_
 intro D C s' H' xs hDge hCge hDC hD sm' hx rp ⟨mm,hns⟩ hC' hos hbare hok hun;have I3:Inv X aa σ H' s':=I2.call' (ch:=fp) hos hun hok hbare λb hb=>⟨(f2 b hb).2.2.2.1,(f2 b hb).2.1,(f2 b hb).2.2.2.2.1,(f2 b hb).2.2.2.2.2⟩
 have fin:=q _ H' (sm.trans sm') ⟨D,xs,ys,rfl,rfl,sm.free hD,hx,rp⟩;have ltC: ∀b o,s2.heap.get? b=some o->b≠C:=λb o e z=>by subst z;exact absurd (Heap.lt_size e) (Nat.not_lt.mpr hCge)
 have hLC:C≠X.env.locals:=λz=>by
  have:=I2.lt;rw[<-z] at this;exact absurd this (Nat.not_lt.mpr hCge)
 show wpAny _ X.A (assign (.Name y py) X.env (.ref D)) _ _ s';refine wpAny_assign_Name (nK (v:=.ref D) I3 hN hyi (.inl hy) rfl (λs'' I4 hb=>?_) (.inr hy));obtain⟨a,hsb,ha⟩:=hb;have hCa:C≠a:=by
  rcases ha with rfl|ha
  ·exact hLC
  ·obtain⟨w',o,ho,_⟩:=I2.cell y a ha;exact λz=>ltC a o ho z.symm
 refine⟨mm,hns.sameBut hsb hCa,λh3 hs3=>⟨_,H',?_,fin⟩⟩;refine I4.turned (t':=s''.toks) (it:=C) (λb o nb e=>(hs3.2 b nb).trans e) hC' hLC (.inr (Nat.le_trans I2.sz hCge)) (λx c' e z=>?_) (λq hq z=>?_)
 ·obtain⟨w',o,ho,_⟩:=I2.cell x c' e;exact ltC c' o ho z
 ·exact ltC q.1 q.2 (I2.pin q hq).1 z
theorem yK(i:Nat){k:Kd}(hcalm:X.calm=true)(hN:X.N.Nodup)(hT:jY X.N.length g)(hi:Cn X c tg iter gi)
 (hg: ∀C s₀ H₀ ex,uW (aP X N' scope C s₀ H₀ ex) c tg g) (hp: ∀C s₀ H₀ ex,vB (aP X N' scope C s₀ H₀ ex) c ifs p) (he: ∀C s₀ H₀ ex,DP (aP X N' scope C s₀ H₀ ex) c .s elt f)
 (hsw:swapsWith (.ListComp elt [⟨tg,iter,ifs,0⟩] scope pos) (some (.Name y py)) spos.line X.env=pure true:=by rfl) (hyi:X.N[i]? =some y:=by rfl) (hy:X.env.scope.names.lookup y=some .local:=by rfl)
 (hk:scope.kind=.function:=by rfl) (hs:wl scope X.env.scope=true:=by kernel_rfl) (hn:wR X.N N' scope=true:=by kernel_rfl) (hm:N'.length-X.N.length=m:=by rfl) (hset: ∀x,foldedSetIterable iter X.env x=pure x:=by intro _;rfl):
 DS X c k (.Assign [.Name y py] (.ListComp elt [⟨tg,iter,ifs,0⟩] scope pos) spos) (bK i (bL m gi g p f)):=λρ=>PS.imp (zq i hcalm hN hT hi hg hp he hsw hyi hy hk hs hn hm hset ρ) λD σ H hq_=>by
 obtain⟨hid,sr,q⟩:=hq_;unfold bK at q;cases e1:bL m gi g p f ρ with
 |none=>rw[e1] at q;exact q.elim
 |some z=>
  rw[e1] at q;exact⟨hid,sr,z,e1,λv H' s r=>q _ H' hid ((sr.ext s).setV (RN.rep r λa n=>sr.fresh n) i) (aM s)⟩
end
mutual
def dN:D->D->Bool
 | .non,.non=>true
 | .bl a,.bl b=>a==b
 | .bl a,.int b=>(if a then 1 else 0)==b
 | .int a,.bl b=>a==(if b then 1 else 0)
 | .int a,.int b=>a==b
 | .str a,.str b=>a==b
 | .tup a,.tup b=>eG a b
 | .lst a,.lst b=>eG a b
 | .lst a,.scr b=>eG a b
 | .scr a,.lst b=>eG a b
 | .scr a,.scr b=>eG a b
 |_,_=>false
def eG:List D->List D->Bool
 | [],[]=>true
 |x::xs,y::ys=>dN x y&&eG xs ys
 |_,_=>false
end
mutual
def eF:D->Nat
 | .tup a=>ft a+1
 | .lst a=>ft a+1
 | .scr _=>cLine
 |_=>0
def ft:List D->Nat
 | []=>0
 |x::xs=>max (eF x) (ft xs)
end
theorem mL: ∀ {xs:List D} {i:Nat} {d:D},xs[i]? =some d->eF d<=ft xs
 | [],_,_,h=>by simp at h
 |x::xs,0,d,h=>by simp at h;subst h;unfold ft;exact Nat.le_max_left _ _
 |x::xs,i+1,d,h=>by
  have:=mL (xs:=xs) (i:=i) (d:=d) (by simpa using h);unfold ft;exact Nat.le_trans this (Nat.le_max_right _ _)
mutual
theorem me: ∀x:D,dN x x=true
 | .non=>by unfold dN;rfl
 | .bl a=>by unfold dN;simp
 | .int a=>by unfold dN;simp
 | .str a=>by unfold dN;simp
 | .tup a=>by unfold dN;exact i6 a
 | .lst a=>by unfold dN;exact i6 a
 | .scr a=>by unfold dN;exact i6 a
theorem i6: ∀x:List D,eG x x=true
 | []=>by unfold eG;rfl
 |x::xs=>by unfold eG;rw[me x,i6 xs];rfl
end
def jj(xs ys:List D)(j:Nat):Bool:=match xs[j]?,ys[j]? with
 |some x,some y=>dN x y
 |_,_=>false
theorem nV {xs ys:List D}(h:xs.length=ys.length):(List.range xs.length).all (jj xs ys)=eG xs ys:=by
 induction xs generalizing ys with
 |nil=>
  cases ys with
  |nil=>unfold eG;rfl
  |cons y ys=>simp at h
 |cons x xs ih=>
  cases ys with
  |nil=>simp at h
  |cons y ys=>
   rw[List.length_cons,List.range_succ_eq_map,List.all_cons,List.all_map];have e0:jj (x::xs) (y::ys) 0=dN x y:=rfl;have e1:((jj (x::xs) (y::ys))∘Nat.succ)=jj xs ys:=by funext j;simp[jj]
   rw[e0,e1,ih (by simpa using h)]
   conv=>rhs;unfold eG
theorem lU: ∀ {xs ys:List D},xs.length≠ys.length->eG xs ys=false
 | [],[],h=>absurd rfl h
 | [],_::_,_=>by unfold eG;rfl
 |_::_,[],_=>by unfold eG;rfl
 |x::xs,y::ys,h=>by unfold eG;rw[lU (xs:=xs) (ys:=ys) (by simpa using h)];simp
section
variable {X:Cx}{aa:List (Addr×Obj)}{σ:St}{H:Hp}{s:Shared}
theorem eY(I:Inv X aa σ H s){a:Addr}{xs ys:List V}(h:SqL X.K H a xs)(h':SqT X.K H a ys):False:=by
 obtain⟨its,_,pl,_⟩:=I.list h;obtain⟨its',_,pt,_⟩:=I.tuple h';exact SeqAt.ne_of_list_tuple pl.isList pt rfl
theorem Ch {a b:List D}(h: ∀zs,eG a zs=eG b zs):(∀z,dN (.tup a) z=dN (.tup b) z)/\(∀z,dN (.lst a) z=dN (.lst b) z)/\ ∀z,dN (.scr a) z=dN (.lst b) z:=by
 refine⟨λz=>?_,λz=>?_,λz=>?_⟩<;>cases z<;>unfold dN<;>first|exact h _|rfl
theorem C7 {b:List D}: ∀z,dN (.scr b) z=dN (.lst b) z:=(Ch λ_=>rfl).2.2
mutual
theorem Rep.eqv(I:Inv X aa σ H s): ∀ {v:V} {x y:D},Rep X.K H v x->Rep X.K H v y-> ∀z,dN x z=dN y z
 |_,_,_,.non,.non=>λ_=>rfl
 |_,_,_,.bl,.bl=>λ_=>rfl
 |_,_,_,.int,.int=>λ_=>rfl
 |_,_,_,.str,.str=>λ_=>rfl
 |_,_,_,.tup h r,.tup h' r'=>by rw[I.tuple_inj h h'] at r;exact(Ch (Reps.eqv I r r')).1
 |_,_,_,.lst h r,.lst h' r'=>by rw[I.list_inj (SqL.of h) (SqL.of h')] at r;exact(Ch (Reps.eqv I r r')).2.1
 |_,_,_,.lst h r,.scr h' r'=>by rw[I.list_inj (SqL.of h) h'.seq] at r;exact λz=>((Ch (Reps.eqv I r r')).2.1 z).trans (C7 z).symm
 |_,_,_,.scr h r,.lst h' r'=>by rw[I.list_inj h.seq (SqL.of h')] at r;exact(Ch (Reps.eqv I r r')).2.2
 |_,_,_,.scr h r,.scr h' r'=>by rw[I.list_inj h.seq h'.seq] at r;exact λz=>((Ch (Reps.eqv I r r')).2.2 z).trans (C7 z).symm
 |_,_,_,.tup h r,.lst h' r'=>(eY I (SqL.of h') h).elim
 |_,_,_,.lst h r,.tup h' r'=>(eY I (SqL.of h) h').elim
 |_,_,_,.tup h r,.scr h' r'=>(eY I h'.seq h).elim
 |_,_,_,.scr h r,.tup h' r'=>(eY I h.seq h').elim
theorem Reps.eqv(I:Inv X aa σ H s): ∀ {v:List V} {x y:List D},Reps X.K H v x->Reps X.K H v y-> ∀z,eG x z=eG y z
 |_,_,_,.nil,.nil=>λ_=>rfl
 |_,_,_,.cons r t,.cons r' t'=>λz=>by
  cases z with
  |nil=>unfold eG;rfl
  |cons w ws=>unfold eG;rw[Rep.eqv I r r' w,Reps.eqv I t t' ws]
end
theorem aK(I:Inv X aa σ H s){a:Addr}{xs:List V}{ds:List D}(h:SqL X.K H a xs)(r:Reps X.K H xs ds): ∃its:List Value,s.heap.IsList a its.toArray/\its.length=ds.length/\ ∀(j:Nat) (hj:j<its.length),∃(v:V) (d:D),ds[j]? =some d/\RelV v its[j]/\Rep X.K H v d:=by
 obtain⟨its,rv,pl,_⟩:=I.list h;have h1:=rv.length;have h2:=r.length;refine⟨its,pl.isList,by omega,λj hj=>?_⟩;have e:xs[j]? =some xs[j]:=List.getElem?_eq_getElem (by omega);obtain⟨u,e1,r1⟩:=rv.get e;obtain⟨d,e2,r2⟩:=r.get' e;have:its[j]=u:=by rw[List.getElem?_eq_getElem hj] at e1;exact Option.some.inj e1
 rw[this];exact⟨xs[j],d,e2,r1,r2⟩
theorem bN(I:Inv X aa σ H s){a:Addr}{xs:List V}{ds:List D}(h:SqT X.K H a xs)(r:Reps X.K H xs ds): ∃its:List Value,s.heap.IsTuple a its.toArray/\its.length=ds.length/\ ∀(j:Nat) (hj:j<its.length),∃(v:V) (d:D),ds[j]? =some d/\RelV v its[j]/\Rep X.K H v d:=by
 obtain⟨its,rv,pl,_⟩:=I.tuple h;have h1:=rv.length;have h2:=r.length;refine⟨its,pl,by omega,λj hj=>?_⟩;have e:xs[j]? =some xs[j]:=List.getElem?_eq_getElem (by omega);obtain⟨u,e1,r1⟩:=rv.get e;obtain⟨d,e2,r2⟩:=r.get' e;have:its[j]=u:=by rw[List.getElem?_eq_getElem hj] at e1;exact Option.some.inj e1
 rw[this];exact⟨xs[j],d,e2,r1,r2⟩
end
section
variable {X:Cx}{aa:List (Addr×Obj)}{σ:St}{H:Hp}{s:Shared}
theorem fN(A:Around):A.in1.units=A.units+1:=rfl
theorem Aw {A:Around}{n:Nat}(IH: ∀ {x y:D} {v u:V} {a b:Value} {A:Around},eF x<n->A.units+eF x<cLine->RelV v a->RelV u b->Rep X.K H v x->Rep X.K H u y->SeqAt.EqAt A s a b (dN x y)){xs ys:List D}{its its2:List Value}(hd:ft xs<n)(hu:A.units+ft xs<cLine)
 (g1: ∀(j:Nat) (hj:j<its.length),∃(v:V) (d:D),xs[j]? =some d/\RelV v its[j]/\Rep X.K H v d) (g2: ∀(j:Nat) (hj:j<its2.length),∃(v:V) (d:D),ys[j]? =some d/\RelV v its2[j]/\Rep X.K H v d):
 ∀j (h1:j<its.toArray.size) (h2:j<its2.toArray.size),SeqAt.EqAt A s its.toArray[j] its2.toArray[j] (jj xs ys j):=λj h1 h2=>by
 obtain⟨v,d,e1,r1,p1⟩:=g1 j (by simpa using h1);obtain⟨u,d',e2,r2,p2⟩:=g2 j (by simpa using h2);have ez:jj xs ys j=dN d d':=by unfold jj;rw[e1,e2]
 rw[ez];have hdd:=mL e1;exact IH (by omega) (by omega) (by simpa using r1) (by simpa using r2) p1 p2
theorem iZ(I:Inv X aa σ H s){A:Around}{n:Nat}(IH: ∀ {x y:D} {v u:V} {a b:Value} {A:Around},eF x<n->A.units+eF x<cLine->RelV v a->RelV u b->Rep X.K H v x->Rep X.K H u y->SeqAt.EqAt A s a b (dN x y)){xs ys:List D}{zs ws:List V}{a b:Addr}(hd:ft xs<n)(hu:A.units+(ft xs+1)<cLine)
 (h1:SqL X.K H a zs) (r1:Reps X.K H zs xs) (h2:SqL X.K H b ws) (r2:Reps X.K H ws ys):SeqAt.RcAt A s (.ref a) (.ref b) (eG xs ys)/\SeqAt.RcNeAt A s (.ref a) (.ref b) (!eG xs ys):=by
 obtain⟨its,l1,n1,g1⟩:=aK I h1 r1;obtain⟨its2,l2,n2,g2⟩:=aK I h2 r2
 by_cases e:xs.length=ys.length
 ·have hsz:its.toArray.size=its2.toArray.size:=by simp;omega
  have he:=Aw (A:=A.in1) IH hd (by rw[fN];omega) g1 g2;have ea:(List.range its.toArray.size).all (jj xs ys)=eG xs ys:=by rw[List.size_toArray,n1];exact nV e
  rw[<-ea];exact⟨SeqAt.RcAt.lists l1 l2 hsz (by omega) he,SeqAt.RcNeAt.lists l1 l2 hsz (by omega) he⟩
 ·rw[lU e];have hsz:(its.toArray.size !=its2.toArray.size)=true:=by simp;omega
  exact⟨SeqAt.RcAt.lists_lengths l1 l2 hsz (by omega),SeqAt.RcNeAt.lists_lengths l1 l2 hsz (by omega)⟩
theorem tJ(I:Inv X aa σ H s){A:Around}{n:Nat}(IH: ∀ {x y:D} {v u:V} {a b:Value} {A:Around},eF x<n->A.units+eF x<cLine->RelV v a->RelV u b->Rep X.K H v x->Rep X.K H u y->SeqAt.EqAt A s a b (dN x y)){xs ys:List D}{zs ws:List V}{a b:Addr}(hd:ft xs<n)(hu:A.units+(ft xs+1)<cLine)
 (h1:SqT X.K H a zs) (r1:Reps X.K H zs xs) (h2:SqT X.K H b ws) (r2:Reps X.K H ws ys):SeqAt.RcAt A s (.ref a) (.ref b) (eG xs ys)/\SeqAt.RcNeAt A s (.ref a) (.ref b) (!eG xs ys):=by
 obtain⟨its,l1,n1,g1⟩:=bN I h1 r1;obtain⟨its2,l2,n2,g2⟩:=bN I h2 r2;have he:=Aw (A:=A.in1) IH hd (by rw[fN];omega) g1 g2;have ea:((List.range (min its.toArray.size its2.toArray.size)).all (jj xs ys)&&its.toArray.size==its2.toArray.size)=eG xs ys:=by
  rw[List.size_toArray,List.size_toArray,n1,n2]
  by_cases e:xs.length=ys.length
  ·rw[<-e,Nat.min_self,nV e];simp
  ·rw[lU e];simp[e]
 rw[<-ea];exact⟨SeqAt.RcAt.tuples l1 l2 (by omega) he,SeqAt.RcNeAt.tuples l1 l2 (by omega) he⟩
theorem kN(I:Inv X aa σ H s){A:Around}{a b:Addr}{x y:D}(r1:Rep X.K H (.ref a) x)(r2:Rep X.K H (.ref b) y)(e:a=b):SeqAt.EqAt A s (.ref a) (.ref b) (dN x y):=by
 subst e;rw[Rep.eqv I r1 r2,me];exact SeqAt.EqAt.same _
theorem Cd(I:Inv X aa σ H s){n:Nat}(IH: ∀ {x y:D} {v u:V} {a b:Value} {A:Around},eF x<n->A.units+eF x<cLine->RelV v a->RelV u b->Rep X.K H v x->Rep X.K H u y->SeqAt.EqAt A s a b (dN x y)){x y:D}{v u:V}{a b:Value}{A:Around}(hd:eF x<n+1)(hu:A.units+eF x<cLine)(hc:A.units<cLine)
 (ra:RelV v a) (rb:RelV u b) (px:Rep X.K H v x) (py:Rep X.K H u y):SeqAt.EqAt A s a b (dN x y):=by
 unfold dN;cases px with
 |non=>
  cases ra;cases py with
  |non=>
   cases rb;exact SeqAt.EqAt.same _
  |bl=>
   cases rb;exact SeqAt.EqAt.none_bool _
  |int=>
   obtain⟨t2,rfl⟩:=rb;exact SeqAt.EqAt.none_int _ _
  |str=>
   obtain⟨t2,rfl⟩:=rb;exact SeqAt.EqAt.none_str _ _
  | @tup a2 _ _ h2 r2=>
    cases rb;obtain⟨its2,l2,_⟩:=bN I h2 r2;exact SeqAt.EqAt.none_tuple l2 (by omega)
  | @lst a2 _ _ h2 r2=>
    cases rb;obtain⟨its2,l2,_⟩:=aK I (SqL.of h2) r2;exact SeqAt.EqAt.none_list l2 (by omega)
  | @scr a2 _ _ h2 r2=>
    cases rb;obtain⟨its2,l2,_⟩:=aK I h2.seq r2;exact SeqAt.EqAt.none_list l2 (by omega)
 |bl=>
  cases ra;cases py with
  |non=>
   cases rb;exact SeqAt.EqAt.bool_none _
  |bl=>
   cases rb;exact SeqAt.EqAt.bool_bool _ _
  |int=>
   obtain⟨t2,rfl⟩:=rb;exact SeqAt.EqAt.bool_int _ _ _
  |str=>
   obtain⟨t2,rfl⟩:=rb;exact SeqAt.EqAt.bool_str _ _ _
  | @tup a2 _ _ h2 r2=>
    cases rb;obtain⟨its2,l2,_⟩:=bN I h2 r2;exact SeqAt.EqAt.bool_tuple _ l2 (by omega)
  | @lst a2 _ _ h2 r2=>
    cases rb;obtain⟨its2,l2,_⟩:=aK I (SqL.of h2) r2;exact SeqAt.EqAt.bool_list _ l2 (by omega)
  | @scr a2 _ _ h2 r2=>
    cases rb;obtain⟨its2,l2,_⟩:=aK I h2.seq r2;exact SeqAt.EqAt.bool_list _ l2 (by omega)
 |int=>
  obtain⟨t1,rfl⟩:=ra;cases py with
  |non=>
   cases rb;exact SeqAt.EqAt.int_none _ _
  |bl=>
   cases rb;exact SeqAt.EqAt.int_bool _ _ _
  |int=>
   obtain⟨t2,rfl⟩:=rb;exact SeqAt.EqAt.int_int _ _ _ _
  |str=>
   obtain⟨t2,rfl⟩:=rb;exact SeqAt.EqAt.int_str _ _ _ _
  | @tup a2 _ _ h2 r2=>
    cases rb;obtain⟨its2,l2,_⟩:=bN I h2 r2;exact SeqAt.EqAt.int_tuple _ _ l2 (by omega)
  | @lst a2 _ _ h2 r2=>
    cases rb;obtain⟨its2,l2,_⟩:=aK I (SqL.of h2) r2;exact SeqAt.EqAt.int_list _ _ l2 (by omega)
  | @scr a2 _ _ h2 r2=>
    cases rb;obtain⟨its2,l2,_⟩:=aK I h2.seq r2;exact SeqAt.EqAt.int_list _ _ l2 (by omega)
 |str=>
  obtain⟨t1,rfl⟩:=ra;cases py with
  |non=>
   cases rb;exact SeqAt.EqAt.str_none _ _
  |bl=>
   cases rb;exact SeqAt.EqAt.str_bool _ _ _
  |int=>
   obtain⟨t2,rfl⟩:=rb;exact SeqAt.EqAt.str_int _ _ _ _
  |str=>
   obtain⟨t2,rfl⟩:=rb;exact SeqAt.EqAt.str_str _ _ _ _
  | @tup a2 _ _ h2 r2=>
    cases rb;obtain⟨its2,l2,_⟩:=bN I h2 r2;exact SeqAt.EqAt.str_tuple _ _ l2 (by omega)
  | @lst a2 _ _ h2 r2=>
    cases rb;obtain⟨its2,l2,_⟩:=aK I (SqL.of h2) r2;exact SeqAt.EqAt.str_list _ _ l2 (by omega)
  | @scr a2 _ _ h2 r2=>
    cases rb;obtain⟨its2,l2,_⟩:=aK I h2.seq r2;exact SeqAt.EqAt.str_list _ _ l2 (by omega)
 | @tup a1 _ _ h1 r1=>
   cases ra;obtain⟨its,l1,_⟩:=bN I h1 r1;cases py with
   |non=>
    cases rb;exact SeqAt.EqAt.tuple_none l1 (by omega)
   |bl=>
    cases rb;exact SeqAt.EqAt.tuple_bool _ l1 (by omega)
   |int=>
    obtain⟨t2,rfl⟩:=rb;exact SeqAt.EqAt.tuple_int _ _ l1 (by omega)
   |str=>
    obtain⟨t2,rfl⟩:=rb;exact SeqAt.EqAt.tuple_str _ _ l1 (by omega)
   | @tup a2 _ _ h2 r2=>
     cases rb;obtain⟨its2,l2,_⟩:=bN I h2 r2
     by_cases e:a1=a2
     ·exact(kN I (.tup h1 r1) (.tup h2 r2) e)
     ·exact SeqAt.EqAt.of_refs e (tJ I IH (by unfold eF at hd;omega) (by unfold eF at hu;omega) h1 r1 h2 r2).1
   | @lst a2 _ _ h2 r2=>
     cases rb;obtain⟨its2,l2,_⟩:=aK I (SqL.of h2) r2;exact SeqAt.EqAt.tuple_list l1 l2 (by omega)
   | @scr a2 _ _ h2 r2=>
     cases rb;obtain⟨its2,l2,_⟩:=aK I h2.seq r2;exact SeqAt.EqAt.tuple_list l1 l2 (by omega)
 | @scr a1 _ _ h1 r1=>exact absurd hu (by unfold eF;omega)
 | @lst a1 _ _ h1 r1=>
   cases ra;obtain⟨its,l1,_⟩:=aK I (SqL.of h1) r1;cases py with
   |non=>
    cases rb;exact SeqAt.EqAt.list_none l1 (by omega)
   |bl=>
    cases rb;exact SeqAt.EqAt.list_bool _ l1 (by omega)
   |int=>
    obtain⟨t2,rfl⟩:=rb;exact SeqAt.EqAt.list_int _ _ l1 (by omega)
   |str=>
    obtain⟨t2,rfl⟩:=rb;exact SeqAt.EqAt.list_str _ _ l1 (by omega)
   | @tup a2 _ _ h2 r2=>
     cases rb;obtain⟨its2,l2,_⟩:=bN I h2 r2;exact SeqAt.EqAt.list_tuple l1 l2 (by omega)
   | @lst a2 _ _ h2 r2=>
     cases rb;obtain⟨its2,l2,_⟩:=aK I (SqL.of h2) r2
     by_cases e:a1=a2
     ·exact(kN I (.lst h1 r1) (.lst h2 r2) e)
     ·exact SeqAt.EqAt.of_refs e (iZ I IH (by unfold eF at hd;omega) (by unfold eF at hu;omega) (SqL.of h1) r1 (SqL.of h2) r2).1
   | @scr a2 _ _ h2 r2=>
     cases rb;obtain⟨its2,l2,_⟩:=aK I h2.seq r2
     by_cases e:a1=a2
     ·exact(kN I (.lst h1 r1) (.scr h2 r2) e)
     ·exact SeqAt.EqAt.of_refs e (iZ I IH (by unfold eF at hd;omega) (by unfold eF at hu;omega) (SqL.of h1) r1 h2.seq r2).1
theorem mU(I:Inv X aa σ H s): ∀(n:Nat) {x y:D} {v u:V} {a b:Value} {A:Around},eF x<n->A.units+eF x<cLine->RelV v a->RelV u b->Rep X.K H v x->Rep X.K H u y->SeqAt.EqAt A s a b (dN x y)
 |0,x,y,v,u,a,b,A,hd,hu,ra,rb,px,py=>absurd hd (Nat.not_lt_zero _)
 |n+1,x,y,v,u,a,b,A,hd,hu,ra,rb,px,py=>Cd I (λh1 h2 h3 h4 h5 h6=>mU I n h1 h2 h3 h4 h5 h6) hd hu (by omega) ra rb px py
theorem BL(I:Inv X aa σ H s){x y:D}{v u:V}{a b:Value}{A:Around}(hu:A.units+eF x<cLine)(hc:A.units<cLine)(ra:RelV v a)(rb:RelV u b)(px:Rep X.K H v x)(py:Rep X.K H u y):SeqAt.RcAt A s a b (dN x y):=by
 have IH:=λ{x y:D} {v u:V} {a b:Value} {A:Around} (n:Nat)=> @mU X aa σ H s I n x y v u a b A
 have IH: ∀ {n:Nat} {x y:D} {v u:V} {a b:Value} {A:Around},eF x<n->A.units+eF x<cLine->RelV v a->RelV u b->Rep X.K H v x->Rep X.K H u y->SeqAt.EqAt A s a b (dN x y):=λ{n x y v u a b A}=>mU I n
 unfold dN;cases px with
 |non=>
  cases ra;cases py with
  |non=>
   cases rb;exact SeqAt.RcAt.none_none
  |bl=>
   cases rb;exact SeqAt.RcAt.none_bool _
  |int=>
   obtain⟨t2,rfl⟩:=rb;exact SeqAt.RcAt.none_int _ _
  |str=>
   obtain⟨t2,rfl⟩:=rb;exact SeqAt.RcAt.none_str _ _
  | @tup a2 _ _ h2 r2=>
    cases rb;obtain⟨its2,l2,_⟩:=bN I h2 r2;exact SeqAt.RcAt.none_tuple l2 (by omega)
  | @lst a2 _ _ h2 r2=>
    cases rb;obtain⟨its2,l2,_⟩:=aK I (SqL.of h2) r2;exact SeqAt.RcAt.none_list l2 (by omega)
  | @scr a2 _ _ h2 r2=>
    cases rb;obtain⟨its2,l2,_⟩:=aK I h2.seq r2;exact SeqAt.RcAt.none_list l2 (by omega)
 |bl=>
  cases ra;cases py with
  |non=>
   cases rb;exact SeqAt.RcAt.bool_none _
  |bl=>
   cases rb;exact SeqAt.RcAt.bool_bool _ _
  |int=>
   obtain⟨t2,rfl⟩:=rb;exact SeqAt.RcAt.bool_int _ _ _
  |str=>
   obtain⟨t2,rfl⟩:=rb;exact SeqAt.RcAt.bool_str _ _ _
  | @tup a2 _ _ h2 r2=>
    cases rb;obtain⟨its2,l2,_⟩:=bN I h2 r2;exact SeqAt.RcAt.bool_tuple _ l2 (by omega)
  | @lst a2 _ _ h2 r2=>
    cases rb;obtain⟨its2,l2,_⟩:=aK I (SqL.of h2) r2;exact SeqAt.RcAt.bool_list _ l2 (by omega)
  | @scr a2 _ _ h2 r2=>
    cases rb;obtain⟨its2,l2,_⟩:=aK I h2.seq r2;exact SeqAt.RcAt.bool_list _ l2 (by omega)
 |int=>
  obtain⟨t1,rfl⟩:=ra;cases py with
  |non=>
   cases rb;exact SeqAt.RcAt.int_none _ _
  |bl=>
   cases rb;exact SeqAt.RcAt.int_bool _ _ _
  |int=>
   obtain⟨t2,rfl⟩:=rb;exact SeqAt.RcAt.int_int _ _ _ _
  |str=>
   obtain⟨t2,rfl⟩:=rb;exact SeqAt.RcAt.int_str _ _ _ _
  | @tup a2 _ _ h2 r2=>
    cases rb;obtain⟨its2,l2,_⟩:=bN I h2 r2;exact SeqAt.RcAt.int_tuple _ _ l2 (by omega)
  | @lst a2 _ _ h2 r2=>
    cases rb;obtain⟨its2,l2,_⟩:=aK I (SqL.of h2) r2;exact SeqAt.RcAt.int_list _ _ l2 (by omega)
  | @scr a2 _ _ h2 r2=>
    cases rb;obtain⟨its2,l2,_⟩:=aK I h2.seq r2;exact SeqAt.RcAt.int_list _ _ l2 (by omega)
 |str=>
  obtain⟨t1,rfl⟩:=ra;cases py with
  |non=>
   cases rb;exact SeqAt.RcAt.str_none _ _
  |bl=>
   cases rb;exact SeqAt.RcAt.str_bool _ _ _
  |int=>
   obtain⟨t2,rfl⟩:=rb;exact SeqAt.RcAt.str_int _ _ _ _
  |str=>
   obtain⟨t2,rfl⟩:=rb;exact SeqAt.RcAt.str_str _ _ _ _
  | @tup a2 _ _ h2 r2=>
    cases rb;obtain⟨its2,l2,_⟩:=bN I h2 r2;exact SeqAt.RcAt.str_tuple _ _ l2 (by omega)
  | @lst a2 _ _ h2 r2=>
    cases rb;obtain⟨its2,l2,_⟩:=aK I (SqL.of h2) r2;exact SeqAt.RcAt.str_list _ _ l2 (by omega)
  | @scr a2 _ _ h2 r2=>
    cases rb;obtain⟨its2,l2,_⟩:=aK I h2.seq r2;exact SeqAt.RcAt.str_list _ _ l2 (by omega)
 | @tup a1 _ _ h1 r1=>
   cases ra;obtain⟨its,l1,_⟩:=bN I h1 r1;cases py with
   |non=>
    cases rb;exact SeqAt.RcAt.tuple_none l1 (by omega)
   |bl=>
    cases rb;exact SeqAt.RcAt.tuple_bool _ l1 (by omega)
   |int=>
    obtain⟨t2,rfl⟩:=rb;exact SeqAt.RcAt.tuple_int _ _ l1 (by omega)
   |str=>
    obtain⟨t2,rfl⟩:=rb;exact SeqAt.RcAt.tuple_str _ _ l1 (by omega)
   | @tup a2 _ _ h2 r2=>
     cases rb;obtain⟨its2,l2,_⟩:=bN I h2 r2;exact(tJ I IH (Nat.lt_succ_self _) (by unfold eF at hu;omega) h1 r1 h2 r2).1
   | @lst a2 _ _ h2 r2=>
     cases rb;obtain⟨its2,l2,_⟩:=aK I (SqL.of h2) r2;exact SeqAt.RcAt.tuple_list l1 l2 (by omega)
   | @scr a2 _ _ h2 r2=>
     cases rb;obtain⟨its2,l2,_⟩:=aK I h2.seq r2;exact SeqAt.RcAt.tuple_list l1 l2 (by omega)
 | @scr a1 _ _ h1 r1=>exact absurd hu (by unfold eF;omega)
 | @lst a1 _ _ h1 r1=>
   cases ra;obtain⟨its,l1,_⟩:=aK I (SqL.of h1) r1;cases py with
   |non=>
    cases rb;exact SeqAt.RcAt.list_none l1 (by omega)
   |bl=>
    cases rb;exact SeqAt.RcAt.list_bool _ l1 (by omega)
   |int=>
    obtain⟨t2,rfl⟩:=rb;exact SeqAt.RcAt.list_int _ _ l1 (by omega)
   |str=>
    obtain⟨t2,rfl⟩:=rb;exact SeqAt.RcAt.list_str _ _ l1 (by omega)
   | @tup a2 _ _ h2 r2=>
     cases rb;obtain⟨its2,l2,_⟩:=bN I h2 r2;exact SeqAt.RcAt.list_tuple l1 l2 (by omega)
   | @lst a2 _ _ h2 r2=>
     cases rb;obtain⟨its2,l2,_⟩:=aK I (SqL.of h2) r2;exact(iZ I IH (Nat.lt_succ_self _) (by unfold eF at hu;omega) (SqL.of h1) r1 (SqL.of h2) r2).1
   | @scr a2 _ _ h2 r2=>
     cases rb;obtain⟨its2,l2,_⟩:=aK I h2.seq r2;exact(iZ I IH (Nat.lt_succ_self _) (by unfold eF at hu;omega) (SqL.of h1) r1 h2.seq r2).1
theorem wq(I:Inv X aa σ H s){x y:D}{v u:V}{a b:Value}{A:Around}(hu:A.units+eF x<cLine)(hc:A.units<cLine)(ra:RelV v a)(rb:RelV u b)(px:Rep X.K H v x)(py:Rep X.K H u y):SeqAt.RcNeAt A s a b (!dN x y):=by
 have IH: ∀ {n:Nat} {x y:D} {v u:V} {a b:Value} {A:Around},eF x<n->A.units+eF x<cLine->RelV v a->RelV u b->Rep X.K H v x->Rep X.K H u y->SeqAt.EqAt A s a b (dN x y):=λ{n x y v u a b A}=>mU I n
 unfold dN;cases px with
 |non=>
  cases ra;cases py with
  |non=>
   cases rb;exact SeqAt.RcNeAt.none_none
  |bl=>
   cases rb;exact SeqAt.RcNeAt.none_bool _
  |int=>
   obtain⟨t2,rfl⟩:=rb;exact SeqAt.RcNeAt.none_int _ _
  |str=>
   obtain⟨t2,rfl⟩:=rb;exact SeqAt.RcNeAt.none_str _ _
  | @tup a2 _ _ h2 r2=>
    cases rb;obtain⟨its2,l2,_⟩:=bN I h2 r2;exact SeqAt.RcNeAt.none_tuple l2 (by omega)
  | @lst a2 _ _ h2 r2=>
    cases rb;obtain⟨its2,l2,_⟩:=aK I (SqL.of h2) r2;exact SeqAt.RcNeAt.none_list l2 (by omega)
  | @scr a2 _ _ h2 r2=>
    cases rb;obtain⟨its2,l2,_⟩:=aK I h2.seq r2;exact SeqAt.RcNeAt.none_list l2 (by omega)
 |bl=>
  cases ra;cases py with
  |non=>
   cases rb;exact SeqAt.RcNeAt.bool_none _
  |bl=>
   cases rb;exact SeqAt.RcNeAt.bool_bool _ _
  |int=>
   obtain⟨t2,rfl⟩:=rb;exact SeqAt.RcNeAt.bool_int _ _ _
  |str=>
   obtain⟨t2,rfl⟩:=rb;exact SeqAt.RcNeAt.bool_str _ _ _
  | @tup a2 _ _ h2 r2=>
    cases rb;obtain⟨its2,l2,_⟩:=bN I h2 r2;exact SeqAt.RcNeAt.bool_tuple _ l2 (by omega)
  | @lst a2 _ _ h2 r2=>
    cases rb;obtain⟨its2,l2,_⟩:=aK I (SqL.of h2) r2;exact SeqAt.RcNeAt.bool_list _ l2 (by omega)
  | @scr a2 _ _ h2 r2=>
    cases rb;obtain⟨its2,l2,_⟩:=aK I h2.seq r2;exact SeqAt.RcNeAt.bool_list _ l2 (by omega)
 |int=>
  obtain⟨t1,rfl⟩:=ra;cases py with
  |non=>
   cases rb;exact SeqAt.RcNeAt.int_none _ _
  |bl=>
   cases rb;exact SeqAt.RcNeAt.int_bool _ _ _
  |int=>
   obtain⟨t2,rfl⟩:=rb;exact SeqAt.RcNeAt.int_int _ _ _ _
  |str=>
   obtain⟨t2,rfl⟩:=rb;exact SeqAt.RcNeAt.int_str _ _ _ _
  | @tup a2 _ _ h2 r2=>
    cases rb;obtain⟨its2,l2,_⟩:=bN I h2 r2;exact SeqAt.RcNeAt.int_tuple _ _ l2 (by omega)
  | @lst a2 _ _ h2 r2=>
    cases rb;obtain⟨its2,l2,_⟩:=aK I (SqL.of h2) r2;exact SeqAt.RcNeAt.int_list _ _ l2 (by omega)
  | @scr a2 _ _ h2 r2=>
    cases rb;obtain⟨its2,l2,_⟩:=aK I h2.seq r2;exact SeqAt.RcNeAt.int_list _ _ l2 (by omega)
 |str=>
  obtain⟨t1,rfl⟩:=ra;cases py with
  |non=>
   cases rb;exact SeqAt.RcNeAt.str_none _ _
  |bl=>
   cases rb;exact SeqAt.RcNeAt.str_bool _ _ _
  |int=>
   obtain⟨t2,rfl⟩:=rb;exact SeqAt.RcNeAt.str_int _ _ _ _
  |str=>
   obtain⟨t2,rfl⟩:=rb;exact SeqAt.RcNeAt.str_str _ _ _ _
  | @tup a2 _ _ h2 r2=>
    cases rb;obtain⟨its2,l2,_⟩:=bN I h2 r2;exact SeqAt.RcNeAt.str_tuple _ _ l2 (by omega)
  | @lst a2 _ _ h2 r2=>
    cases rb;obtain⟨its2,l2,_⟩:=aK I (SqL.of h2) r2;exact SeqAt.RcNeAt.str_list _ _ l2 (by omega)
  | @scr a2 _ _ h2 r2=>
    cases rb;obtain⟨its2,l2,_⟩:=aK I h2.seq r2;exact SeqAt.RcNeAt.str_list _ _ l2 (by omega)
 | @tup a1 _ _ h1 r1=>
   cases ra;obtain⟨its,l1,_⟩:=bN I h1 r1;cases py with
   |non=>
    cases rb;exact SeqAt.RcNeAt.tuple_none l1 (by omega)
   |bl=>
    cases rb;exact SeqAt.RcNeAt.tuple_bool _ l1 (by omega)
   |int=>
    obtain⟨t2,rfl⟩:=rb;exact SeqAt.RcNeAt.tuple_int _ _ l1 (by omega)
   |str=>
    obtain⟨t2,rfl⟩:=rb;exact SeqAt.RcNeAt.tuple_str _ _ l1 (by omega)
   | @tup a2 _ _ h2 r2=>
     cases rb;obtain⟨its2,l2,_⟩:=bN I h2 r2;exact(tJ I IH (Nat.lt_succ_self _) (by unfold eF at hu;omega) h1 r1 h2 r2).2
   | @lst a2 _ _ h2 r2=>
     cases rb;obtain⟨its2,l2,_⟩:=aK I (SqL.of h2) r2;exact SeqAt.RcNeAt.tuple_list l1 l2 (by omega)
   | @scr a2 _ _ h2 r2=>
     cases rb;obtain⟨its2,l2,_⟩:=aK I h2.seq r2;exact SeqAt.RcNeAt.tuple_list l1 l2 (by omega)
 | @scr a1 _ _ h1 r1=>exact absurd hu (by unfold eF;omega)
 | @lst a1 _ _ h1 r1=>
   cases ra;obtain⟨its,l1,_⟩:=aK I (SqL.of h1) r1;cases py with
   |non=>
    cases rb;exact SeqAt.RcNeAt.list_none l1 (by omega)
   |bl=>
    cases rb;exact SeqAt.RcNeAt.list_bool _ l1 (by omega)
   |int=>
    obtain⟨t2,rfl⟩:=rb;exact SeqAt.RcNeAt.list_int _ _ l1 (by omega)
   |str=>
    obtain⟨t2,rfl⟩:=rb;exact SeqAt.RcNeAt.list_str _ _ l1 (by omega)
   | @tup a2 _ _ h2 r2=>
     cases rb;obtain⟨its2,l2,_⟩:=bN I h2 r2;exact SeqAt.RcNeAt.list_tuple l1 l2 (by omega)
   | @lst a2 _ _ h2 r2=>
     cases rb;obtain⟨its2,l2,_⟩:=aK I (SqL.of h2) r2;exact(iZ I IH (Nat.lt_succ_self _) (by unfold eF at hu;omega) (SqL.of h1) r1 (SqL.of h2) r2).2
   | @scr a2 _ _ h2 r2=>
     cases rb;obtain⟨its2,l2,_⟩:=aK I h2.seq r2;exact(iZ I IH (Nat.lt_succ_self _) (by unfold eF at hu;omega) (SqL.of h1) r1 h2.seq r2).2
end
theorem Rep1.full {K:W.Frag}{H:Hp}{hid:bw}{v:V}{d:D}(h:Rep1 K H (vw H hid) v d):Rep K H v d:=by
 rcases h with h|⟨a,xs,ds,rfl,rfl,h1,h2⟩
 ·exact h.mono (di _ _)
 ·exact .lst h1 (h2.mono (di _ _))
def CB(K:W.Frag):R2:=λv u H Q=> ∃x y,Rep K H v x/\Rep K H u y/\eF x<=32/\Q (.bl (dN x y)) H
def Dr(K:W.Frag):R2:=λv u H Q=> ∃x y,Rep K H v x/\Rep K H u y/\eF x<=32/\Q (.bl (!dN x y)) H
theorem mk {X:Cx}(hu:X.A.units+64<cLine):lh X (compareOp .Eq) (CB X.K):=by
 intro aa s σ H x y v u Q I rx ry h;obtain⟨dx,dy,p1,p2,hd,q⟩:=h;exact BL I (by omega) (by omega) rx ry p1 p2 X.prog X.w _ _ ⟨.bl _,H,I,rfl,q⟩
theorem fw {X:Cx}(hu:X.A.units+64<cLine):lh X (compareOp .NotEq) (Dr X.K):=by
 intro aa s σ H x y v u Q I rx ry h;obtain⟨dx,dy,p1,p2,hd,q⟩:=h;exact wq I (by omega) (by omega) rx ry p1 p2 X.prog X.w _ _ ⟨.bl _,H,I,rfl,q⟩
def nZ:D->D->Option D:=λx y=>if eF x<=32 then some (.bl (dN x y)) else none
def jf:D->D->Option D:=λx y=>if eF x<=32 then some (.bl (!dN x y)) else none
theorem p9 {K:W.Frag}:mX K .s (CB K) nZ:=by
 intro H hid v u x y d Q hf h r1 r2 q;unfold nZ at h;split at h
 ·cases h;exact⟨x,y,r1.full,r2.full, ‹_›,q _ H (Same.refl _) .bl⟩
 ·cases h
theorem iu {K:W.Frag}:mX K .s (Dr K) jf:=by
 intro H hid v u x y d Q hf h r1 r2 q;unfold jf at h;split at h
 ·cases h;exact⟨x,y,r1.full,r2.full, ‹_›,q _ H (Same.refl _) .bl⟩
 ·cases h
def EC(T:String):D->Bool
 | .non=>T=="NoneType"
 | .bl _=>T=="bool"||T=="int"
 | .int _=>T=="int"
 | .str _=>T=="str"
 | .tup _=>T=="tuple"
 | .lst _=>T=="list"
 | .scr _=>T=="list"
structure KT(T:String):Prop where
 n: ∀K,W.kitOne K (.type "NoneType") (.type T)=some (T=="NoneType")
 b: ∀K,W.kitOne K (.type "bool") (.type T)=some (T=="bool"||T=="int")
 i: ∀K,W.kitOne K (.type "int") (.type T)=some (T=="int")
 s: ∀K,W.kitOne K (.type "str") (.type T)=some (T=="str")
 t: ∀K,W.kitOne K (.type "tuple") (.type T)=some (T=="tuple")
 l: ∀K,W.kitOne K (.type "list") (.type T)=some (T=="list")
theorem A2:KT "int":=⟨λ_=>by kernel_rfl,λ_=>by kernel_rfl,λ_=>by kernel_rfl,λ_=>by kernel_rfl,λ_=>by kernel_rfl,λ_=>by kernel_rfl⟩
theorem zH:KT "bool":=⟨λ_=>by kernel_rfl,λ_=>by kernel_rfl,λ_=>by kernel_rfl,λ_=>by kernel_rfl,λ_=>by kernel_rfl,λ_=>by kernel_rfl⟩
theorem zS:KT "list":=⟨λ_=>by kernel_rfl,λ_=>by kernel_rfl,λ_=>by kernel_rfl,λ_=>by kernel_rfl,λ_=>by kernel_rfl,λ_=>by kernel_rfl⟩
theorem wN:KT "tuple":=⟨λ_=>by kernel_rfl,λ_=>by kernel_rfl,λ_=>by kernel_rfl,λ_=>by kernel_rfl,λ_=>by kernel_rfl,λ_=>by kernel_rfl⟩
section
variable {X:Cx}{c:Ct}{e o:Expr}{k:Kd}{f g:FE}{pos p p2:Pos}
theorem wQ {T:String}(kt:KT T):fO X (.builtin "isinstance") (λxs H Q=> ∃v d,xs=[v,.ty T]/\Rep X.K H v d/\Q (.bl (EC T d)) H):=by
 intro aa s σ H xs us Q I r h;obtain⟨v,d,rfl,rp,q⟩:=h;obtain⟨u,w',rfl,rx,ry⟩:=Ay r;cases ry;have fin: ∀tk,EP X aa σ Q (.bool (EC T d)) {s with toks:=tk}:=λtk=>⟨.bl _,H,I.tok _,rfl,q⟩
 cases rp with
 |non=>cases rx;exact W.kia_one W.kitx_none I.kIn True.intro (kt.n _) (λz=>nomatch z) fin
 |bl=>cases rx;exact W.kia_one W.kitx_bool I.kIn True.intro (kt.b _) (λz=>nomatch z) fin
 |int=>obtain⟨t,rfl⟩:=rx;exact W.kia_one W.kitx_int I.kIn True.intro (kt.i _) (λz=>nomatch z) fin
 |str=>obtain⟨t,rfl⟩:=rx;exact W.kia_one W.kitx_str I.kIn True.intro (kt.s _) (λz=>nomatch z) fin
 |tup h1 h2=>
  cases rx;obtain⟨⟨ob,ho,hc⟩,_⟩:=I.tupleN h1;exact W.kia_one W.kitx_tuple I.kIn ⟨ob,ho,hc⟩ (kt.t _) (λz=>nomatch z) fin
 |lst h1 h2=>
  cases rx;obtain⟨its,_,⟨ob,n,ho,hc,_⟩,_⟩:=I.list (SqL.of h1);exact W.kia_one W.kitx_list I.kIn ⟨ob,ho,hc⟩ (kt.l _) (λz=>nomatch z) fin
 |scr h1 h2=>
  cases rx;obtain⟨its,_,⟨ob,n,ho,hc,_⟩,_⟩:=I.list h1.seq;exact W.kia_one W.kitx_list I.kIn ⟨ob,ho,hc⟩ (kt.l _) (λz=>nomatch z) fin
def m8(T:String)(f:FE):FE:=λρ=>(f ρ).map λd=>.bl (EC T d)
theorem pq(T:String){y:Str}(kt:KT T)(he:DP X c k e f)(hm:X.mg "isinstance"=none)(hmT:X.mg y=none)(hg:Gl X "isinstance":=by rfl)(hgT:Gl X y:=by rfl)(hv:bootBuiltins "isinstance"=some (.builtin "isinstance"):=by kernel_rfl)(hvT:bootBuiltins y=some (.type T):=by kernel_rfl)(hn:y≠"__name__":=by decide)(hd:(y==("__debug__":Str))=false:=by decide)
 (hs1:starEach [e,.Name y p2] X.env=(false,eval e X.env)::starEach [.Name y p2] X.env:=by rfl) (hs2:starEach [.Name y p2] X.env=(false,eval (.Name y p2) X.env)::starEach [] X.env:=by rfl) (hpl:(backTo pos (starEach [.Name y p2] X.env)).any (·.1)=false:=by rfl):
 DP X c .s (.Call (.Name "isinstance" p) [e,.Name y p2] [] pos) (m8 T f):=λhid ρ=>
 PE.imp (iQ (wQ kt) hg hm hv (bV (he hid ρ) (bV (uO (v:=.ty T) hgT hmT hvT rfl hn hd) fu hs2) hs1) (by decide) (by decide) hs1 hpl) λσ H Q hq_=>by
  obtain⟨sr,d,hd,q⟩:=hq_;unfold m8 at hd;cases e1:f ρ with
  |none=>rw[e1] at hd;cases hd
  |some z=>
   rw[e1] at hd;cases hd;exact⟨sr,z,e1,λv H' s' r=>⟨v,z,rfl,(RK.b k r λa n=>sr.fresh n).full,q _ H' s' .bl⟩⟩
def jy:List D->Option (List Bool)
 | []=>some []
 | .bl b::r=>(jy r).map (b:: ·)
 |_=>none
theorem qD: ∀ {ds:List D} {bs:List Bool} {i:Nat} {d:D},jy ds=some bs->ds[i]? =some d-> ∃b,d=.bl b/\bs[i]? =some b
 | [],_,_,_,_,h=>by simp at h
 |x::r,bs,i,d,h,e=>by
  cases x with
  |bl b=>
   unfold jy at h;cases e1:jy r with
   |none=>rw[e1] at h;cases h
   |some rs=>
    rw[e1] at h;cases h;cases i with
    |zero=>simp at e;subst e;exact⟨b,rfl,rfl⟩
    |succ i=>
     obtain⟨b',h1,h2⟩:=qD (i:=i) e1 (by simpa using e);exact⟨b',h1,by simpa using h2⟩
  |_=>cases h
theorem qd: ∀ {ds:List D} {bs:List Bool},jy ds=some bs->ds.length=bs.length
 | [],_,h=>by cases h;rfl
 |x::r,bs,h=>by
  cases x with
  |bl b=>
   unfold jy at h;cases e1:jy r with
   |none=>rw[e1] at h;cases h
   |some rs=>rw[e1] at h;cases h;simp[qd e1]
  |_=>cases h
theorem vT(bs:List Bool):(List.range bs.length).any (λi=>bs.getD i false)=bs.any id:=by
 induction bs with
 |nil=>rfl
 |cons b bs ih=>
  rw[List.length_cons,List.range_succ_eq_map,List.any_cons,List.any_map,List.any_cons];rw[show((λi=>(b::bs).getD i false)∘Nat.succ)=λi=>bs.getD i false by funext i;simp[List.getD],ih];rfl
theorem sX(bs:List Bool):(List.range bs.length).all (λi=>bs.getD i false)=bs.all id:=by
 induction bs with
 |nil=>rfl
 |cons b bs ih=>
  rw[List.length_cons,List.range_succ_eq_map,List.all_cons,List.all_map,List.all_cons];rw[show((λi=>(b::bs).getD i false)∘Nat.succ)=λi=>bs.getD i false by funext i;simp[List.getD],ih];rfl
theorem si {aa:List (Addr×Obj)}{σ:St}{H:Hp}{s:Shared}{a:Addr}{xs:List V}{ds:List D}{bs:List Bool}(I:Inv X aa σ H s)(h1:SqL X.K H a xs)(h2:Reps X.K H xs ds)(hb:jy ds=some bs)(hc:X.calm=true){E:Value->Shared->Prop}{R:Value->Shared->Prop}
 (hR: ∀(J:Addr) (s2:Shared) (its:Array Value) (hl:its.size=bs.length),Walks X.prog X.w X.A.in1 J [J,a] [J] its.size (λi v=>its[i]? =some v) (λi h=>h.IsListIter J a i/\h.IsList a its)->s2.heap.IsListIter J a 0->s2.heap.IsList a its->TruthOf X.prog X.w X.A.in1 (λi v=>its[i]? =some v) (λi=>bs.getD i false)->
   (∀h' tk,(∀b o,b∉ [J]->s2.heap.get? b=some o->h'.get? b=some o)->Inv X aa σ H {s2 with heap:=h',toks:=tk})->R (.ref J) s2):wpAny (model X.prog X.w) X.A.in1 (pyIter (.ref a)) R E s:=by
 obtain⟨its,rv,pl,hz⟩:=I.list h1;have l1:=rv.length;have l2:=h2.length;have l3:=qd hb;have hlt:a<s.heap.objs.size:=by obtain⟨o,n,e,_⟩:=pl;exact Heap.lt_size e
 refine wpAny_pyIter_list pl.isList (hR s.heap.objs.size _ its.toArray (by simp;omega) (Walks.list (A:=X.A.in1) (I.ok.hd hc) _ a (Nat.ne_of_lt hlt) its.toArray) ⟨_,Heap.get?_push_size _ rfl,rfl,rfl⟩ ?_ ?_ ?_)
 ·obtain⟨o,ho,q⟩:=pl.isList;exact⟨o,Heap.get?_push_of_some _ ho,q⟩
 ·intro i v s' Q E hv hq;have hv':its[i]? =some v:=by simpa using hv
  have hi:=(List.getElem?_eq_some_iff.mp hv').1;have ex:xs[i]? =some xs[i]:=List.getElem?_eq_getElem (by omega);obtain⟨u,e1,r1⟩:=rv.get ex;rw[hv'] at e1;cases e1;obtain⟨d,e2,r2⟩:=h2.get' ex;obtain⟨b,rfl,e3⟩:=qD hb e2;rcases hx:xs[i] with _|_|_|_|_|_|_|_<;>rw[hx] at r1 r2<;>cases r2
  cases r1;have:bs.getD i false=b:=by simp[List.getD,e3]
  dsimp only at hq;rw[this] at hq;exact wpAny_truthy_bool hq
 ·intro h' tk hk;refine I.kept λb o e=>hk b o (λhm=>?_) (Heap.get?_push_of_some _ e)
  have:b=s.heap.objs.size:=by simpa using hm
  exact absurd (this▸Heap.lt_size e) (Nat.lt_irrefl _)
theorem pZ(hc:X.calm=true):fO X (.builtin "all") (λxs H Q=> ∃a ys ds bs,xs=[.ref a]/\SqL X.K H a ys/\Reps X.K H ys ds/\jy ds=some bs/\Q (.bl (bs.all id)) H):=by
 intro aa s σ H xs us Q I r h;obtain⟨a,ys,ds,bs,rfl,h1,h2,h3,q⟩:=h;obtain⟨u,rfl,rx⟩:=iS r;cases rx;refine call_all_walk (si I h1 h2 h3 hc λJ s2 its hl W st1 st2 tr kp=>?_);refine⟨J,_,_,_,_,_,_,rfl,W,⟨st1,st2⟩,tr,λh' tk hk=>⟨.bl _,H,kp h' tk hk,rfl,?_⟩⟩;rw[hl,sX];exact q
def tH:List D->Option D
 | [.lst ds]=>(jy ds).map λbs=>.bl (bs.all id)
 |_=>none
theorem xM:jl X.K .s (λxs H Q=> ∃a ys ds bs,xs=[.ref a]/\SqL X.K H a ys/\Reps X.K H ys ds/\jy ds=some bs/\Q (.bl (bs.all id)) H) tH:=by
 intro H hid vs ds d Q hf h r q;unfold tH at h;split at h
 ·rename_i zs
  cases e1:jy zs with
  |none=>rw[e1] at h;cases h
  |some bs=>
   rw[e1] at h;cases h;obtain⟨x,rfl,r1⟩:=Reps1.one r;obtain⟨a,xs,rfl,h1,h2⟩:=r1.lst;exact⟨a,xs,zs,bs,rfl,h1,h2.mono (di _ _),e1,q _ H (Same.refl _) .bl⟩
 ·cases h
end
end L2
namespace PySem.SeqAt
open AutoSeq1 (wpAny_loadPart')
open MeetsSeq MeetsSeq2 MeetsSeq3 SeqRoads2
end PySem.SeqAt
namespace L2
open PySem PySem.Spec PyProof.Rows
def zj(ds:List D)(x:D):Option Nat:=ds.findIdx? λd=>dN d x
theorem ub {X:Cx}{aa:List (Addr×Obj)}{σ:St}{H:Hp}{s:Shared}(I:Inv X aa σ H s){x:D}{v:V}{a:Value}{A:Around}(hx:Rep X.K H v x)(ra:RelV v a): ∀ {ds:List D} {xs:List V} {its:List Value},Reps X.K H xs ds->Vals xs its->A.units+ft ds<cLine->
 ∃e:Value->Bool,(∀y,y∈its->SeqAt.EqAt A s y a (e y))/\ ∀(j:Nat) (hj:j<its.length) (d:D),ds[j]? =some d->e its[j]=dN d x:=by
 intro ds xs its r rv hu
 classical
 let e:Value->Bool:=λy=>if h: ∃(d:D) (u:V),RelV u y/\Rep X.K H u d then dN h.choose x else false
 have key: ∀y u d,RelV u y->Rep X.K H u d->e y=dN d x:=λy u d h1 h2=>by
  have hex: ∃(d:D) (u:V),RelV u y/\Rep X.K H u d:=⟨d,u,h1,h2⟩
  show(if h: ∃(d:D) (u:V),RelV u y/\Rep X.K H u d then dN h.choose x else false)=dN d x;rw[dif_pos hex];obtain⟨u',s1,s2⟩:=hex.choose_spec;have eu:u'=u:=s1.inj h1;rw[eu] at s2;exact Rep.eqv I s2 h2 x
 have l1:=rv.length;have l2:=r.length;have at': ∀(j:Nat) (hj:j<its.length),∃u d,ds[j]? =some d/\RelV u its[j]/\Rep X.K H u d:=λj hj=>by
  have ex:xs[j]? =some xs[j]:=List.getElem?_eq_getElem (by omega);obtain⟨w,e1,r1⟩:=rv.get ex;obtain⟨d,e2,r2⟩:=r.get' ex;have:its[j]=w:=by rw[List.getElem?_eq_getElem hj] at e1;exact Option.some.inj e1
  rw[this];exact⟨_,d,e2,r1,r2⟩
 refine⟨e,λy hy=>?_,λj hj d hd=>?_⟩
 ·obtain⟨j,hj,rfl⟩:=List.mem_iff_getElem.mp hy;obtain⟨u,d,e1,r1,r2⟩:=at' j hj;rw[key _ _ _ r1 r2];have:=mL e1;exact mU I (eF d+1) (Nat.lt_succ_self _) (by omega) r1 ra r2 hx
 ·obtain⟨u,d',e1,r1,r2⟩:=at' j hj;rw[hd] at e1;cases e1;exact key _ _ _ r1 r2
section
variable {X:Cx}{c:Ct}{e o:Expr}{k k2:Kd}{f g:FE}{pos p p2 apos:Pos}
def aO:=i2 (λ_ _=>true) λi j=>.int (i+j)
def bD:=i2 (λ_ _=>true) λi j=>.int (i-j)
def be:=i2 (λi j=>decide (i.natAbs<2^1000)&&decide (j.natAbs<2^1000)) λi j=>.int (i*j)
def cO:=i2 (λ_ j=>decide (0<j)) λi j=>.int (i % j)
def im:=i2 (λ_ j=>decide (0<j)&&decide (j.natAbs<2^1000)) λi j=>.int (i / j)
def eC:=i2 (λi j=>decide (0<=j)&&decide (j<=1000000)&&decide (i.natAbs<2^64)) λi j=>.int (i^j.toNat)
def yv:=i2 (λ_ _=>true) λi j=>.bl (decide (i<j))
def zJ:=i2 (λ_ _=>true) λi j=>.bl (decide (j<i))
def DK:=i2 (λ_ _=>true) λi j=>.bl (decide (j<=i))
theorem uA {i:Int}(h:i.natAbs<2^1000):Builtin.Int.intBits i<=2^20:=by
 unfold Builtin.Int.intBits;split
 ·exact Nat.zero_le _
 ·rename_i hz
  have h0:i.natAbs≠0:=by simp at hz;omega
  have:=(Nat.log2_lt h0).mpr h;omega
theorem ut:lh X (binaryOp .Mult) (rI IntMulOk λi j=>.int (i*j)):=Cj λ_ _ _ _ _ _ _ hc q=>mul_int q hc
variable {a b:Expr}
theorem cB {k1 k2:Kd}(ha:DP X c k1 a f)(hb:DP X c k2 b g):DP X c .s (.BinOp a .Add b pos) (ao aO f g):=jS wa uJ ha hb
theorem gE {k1 k2:Kd}(ha:DP X c k1 a f)(hb:DP X c k2 b g):DP X c .s (.BinOp a .Sub b pos) (ao bD f g):=jS wC uJ ha hb
theorem xT {K:W.Frag}:mX K .s (rI IntMulOk λi j=>.int (i*j)) be:=vx λi j h=>by
 simp only[Bool.and_eq_true,decide_eq_true_eq] at h;exact IntMulOk.of_bits (uA h.1) (uA h.2)
theorem eA {k1 k2:Kd}(ha:DP X c k1 a f)(hb:DP X c k2 b g):DP X c .s (.BinOp a .Mult b pos) (ao be f g):=jS ut xT ha hb
theorem Bm {K:W.Frag}:mX K .s (rI (λ_ j=>0<j) λi j=>.int (i % j)) cO:=vx λi j h=>by simpa using h
theorem hW {k1 k2:Kd}(ha:DP X c k1 a f)(hb:DP X c k2 b g):DP X c .s (.BinOp a .Mod b pos) (ao cO f g):=jS Bc Bm ha hb
theorem xt:lh X (binaryOp .FloorDiv) (rI (λ_ j=>0<j/\j.natAbs<2^1000) λi j=>.int (i / j)):=Cj λi j _ _ _ _ _ hc q=>by
 obtain⟨h1,h2⟩:=hc;refine floordiv_int (by omega) (by rw[Int.fdiv_eq_ediv_of_nonneg i (by omega)];exact q) (.inl (PyProof.noPylong_of_log2 ?_));have:=(Nat.log2_lt (n:=j.natAbs) (by omega)).mpr h2;omega
theorem yB {K:W.Frag}:mX K .s (rI (λ_ j=>0<j/\j.natAbs<2^1000) λi j=>.int (i / j)) im:=vx λi j h=>by
 simp only[Bool.and_eq_true,decide_eq_true_eq] at h;exact⟨h.1,h.2⟩
theorem og {k1 k2:Kd}(ha:DP X c k1 a f)(hb:DP X c k2 b g):DP X c .s (.BinOp a .FloorDiv b pos) (ao im f g):=jS xt yB ha hb
theorem A0 {K:W.Frag}:mX K .s (rI Dl λi j=>.int (i^j.toNat)) eC:=vx λi j h=>by
 simp only[Bool.and_eq_true,decide_eq_true_eq] at h;exact⟨h.1.1,h.1.2,h.2⟩
theorem j7 {k1 k2:Kd}(ha:DP X c k1 a f)(hb:DP X c k2 b g):DP X c .s (.BinOp a .Pow b pos) (ao eC f g):=jS BA A0 ha hb
theorem fU {f g:GE}(ha:DE X c .s a f)(hb:DE X c .s b g):DE X c .s (.BinOp a .Add b pos) (bu aO f g):=we wa uJ ha hb
theorem ki {f g:GE}(ha:DE X c .s a f)(hb:DE X c .s b g):DE X c .s (.BinOp a .Sub b pos) (bu bD f g):=we wC uJ ha hb
theorem mv {f g:GE}(ha:DE X c .s a f)(hb:DE X c .s b g):DE X c .s (.BinOp a .Mult b pos) (bu be f g):=we ut xT ha hb
def AR:D->Option D
 | .int i=>some (.int (-i))
 |_=>none
def cZ(f:FE):FE:=λρ=>(f ρ).bind AR
theorem dB(ha:DP X c k a f):DP X c .s (.UnaryOp .USub a pos) (cZ f):=λhid ρ=>PE.imp (C9 BQ (ha hid ρ)) λσ H Q hq_=>by
 obtain⟨sr,d,hd,q⟩:=hq_;unfold cZ at hd;cases e1:f ρ with
 |none=>rw[e1] at hd;cases hd
 |some z=>
  rw[e1] at hd;have hd:AR z=some d:=hd;unfold AR at hd;split at hd
  ·cases hd;refine⟨sr,_,e1,λv H1 s1 r1=>?_⟩;cases (RK.b k r1 λa n=>sr.fresh n).int;exact⟨_,rfl,q _ H1 s1 .int⟩
  ·cases hd
def wD:List D->Option D
 | [.int i]=>some (.int i)
 | [.bl b]=>some (.int (if b then 1 else 0))
 |_=>none
theorem AW:jl X.K .s (λxs H Q=>(∃i,xs=[.int i]/\Q (.int i) H)\/ ∃k,xs=[.bl k]/\Q (.int (if k then 1 else 0)) H) wD:=by
 intro H hid vs ds d Q hf h r q;unfold wD at h;split at h
 ·cases h;obtain⟨x,rfl,r1⟩:=Reps1.one r;cases r1.int;exact .inl ⟨_,rfl,q _ H (Same.refl _) .int⟩
 ·cases h;obtain⟨x,rfl,r1⟩:=Reps1.one r;cases r1.bl;exact .inr ⟨_,rfl,q _ H (Same.refl _) .int⟩
 ·cases h
end
structure Cl(P:Program)(w:World)(K:W.Frag)(mg:Str->Option Value)(base:Heap)(k:Nat)(x:Str)(ps:List Str)(sp:Sp):Prop where
 ex: ∃f fd,FnOk P w K mg base nU k f fd ps sp/\mg x=some (.ref f)/\W.keepIn K (.ref f)=true/\Binds K fd ps []
structure Df(K:W.Frag)(mg:Str->Option Value)(x:Str)(st:Stmt)(ps:List Str):Prop where
 ex: ∃f fd,Fun K x x st f fd/\mg x=some (.ref f)/\Binds K fd ps []
section
variable {P:Program}{w:World}{K:W.Frag}{mg:Str->Option Value}{base:Heap}{x:Str}{st:Stmt}{N ps:List Str}{k n:Nat}{t:FS}{kd:Kd}
theorem da(F:Df K mg x st ps)(S:FnScope N ps (au st))(hkd:kd≠ .b)(hn:ps.length=n)
 (body: ∀(f:Addr) (cdv:Value) (A:Around) (outer:List Env) (s:Shared) (H:Hp) (hid:bw) (E:XK),Room k (A.deeper (envOfC x (au st) s.heap.objs.size f cdv))->
   rN (kQ nU P w K mg base N x (au st) f cdv A outer s H E).nox ⟨H,hid,λ_=>false⟩ kd (aR st) t):
 Cl P w K mg base (k+1) x ps (gy K kd n (j2 kd N.length t)):=by
 obtain⟨f,fd,F,hm,hb⟩:=F.ex;subst hn;exact⟨f,fd,uP F S hkd (body f),hm,F.kp,hb⟩
theorem o6(F:Df K mg x st ps)(S:FnScope N ps (au st))(hkd:kd≠ .b)(hn:ps.length=n+1)
 (body: ∀(f:Addr) (cdv:Value) (A:Around) (outer:List Env) (s:Shared) (H:Hp) (hid:bw) (a:Addr) (E:XK),Room k (A.deeper (envOfC x (au st) s.heap.objs.size f cdv))->
   rN (kQ nU P w K mg base N x (au st) f cdv A outer s H E).nox ⟨H,hid,λb=>decide (b=a)⟩ kd (aR st) t):
 Cl P w K mg base (k+1) x ps (rO K kd n (v9 kd N.length t)):=by
 obtain⟨f,fd,F,hm,hb⟩:=F.ex;exact⟨f,fd,B8 F S hkd hn (body f),hm,F.kp,hb⟩
end
section
variable {X:Cx}{c:Ct}{e a b:Expr}{es rest:List Expr}{k:Kd}{pos p:Pos}{x:Str}{ps:List Str}{j n:Nat}
def nF(n:Nat)(P:List D->Option D):List D->Option D:=λds=>if ds.length=n then P ds else none
theorem eK {P:List D->Option D}{fs:FA}(C:Cl X.prog X.w X.K X.mg X.base j x ps (gy X.K k n P))(hr:Room j X.A)
 (ha:DA X c (e::es) fs) (hg:Gl X x:=by rfl) (hdb:(x==("__debug__":Str))=false:=by decide) (he:starEach (e::es) X.env=(false,eval e X.env)::starEach es X.env:=by rfl) (hpl:(backTo pos (starEach es X.env)).any (·.1)=false:=by rfl):
 DP X c k (.Call (.Name x p) (e::es) [] pos) (aA (nF n P) fs):=by
 obtain⟨f,fd,F,hm,hk,hb⟩:=C.ex;exact zF F hr hm hk hb ha hg hdb he hpl
theorem ce(i:Nat){y:Str}{py:Pos}{M:List D->List D->Option (D×List D)}{fs:GA}(C:Cl X.prog X.w X.K X.mg X.base j x ps (rO X.K k n M))(hr:Room j X.A)
 (ha:DG X c es fs) (hkb:k≠ .b:=by decide) (hN:X.N[i]? =some y:=by rfl) (hv:nB X.env.scope y:=by first|exact Or.inl rfl|exact Or.inr (Or.inl rfl)|exact Or.inr (Or.inr rfl)) (hd:(y==("__debug__":Str))=false:=by decide)
 (hcd:(y==("__classdict__":Str))=false:=by decide) (hs:starEach (.Name y py::es) X.env=(false,eval (.Name y py) X.env)::starEach es X.env:=by rfl) (hg:Gl X x:=by rfl) (hdb:(x==("__debug__":Str))=false:=by decide) (hpl:(backTo pos (starEach es X.env)).any (·.1)=false:=by rfl):
 DE X c k (.Call (.Name x p) (.Name y py::es) [] pos) (aF i n M fs):=by
 obtain⟨f,fd,F,hm,hk,hb⟩:=C.ex;exact xa i F hr hm hk hb ha hkb hN hv hd hcd hs hg hdb hpl
end
open PySem PySem.W PyProof.Rows
open PySem PySem.W PySem.Calls PyProof.Rows
open PySem PySem.W PySem.Spec PyProof.Rows
def iH(x y:Int):Bool:=decide (x<y)
structure Lt {α:Type}(lt:α->α->Bool):Prop where
 tr: ∀ {a b c:α},lt b a=false->lt c b=false->lt c a=false
 as: ∀ {a b:α},lt a b=true->lt b a=false
 eq: ∀ {a b:α},lt a b=false->lt b a=false->a=b
theorem Dn:Lt iH:=⟨λh1 h2=>by simp only[iH,decide_eq_false_iff_not] at*;omega,λh=>by simp only[iH,decide_eq_false_iff_not,decide_eq_true_eq] at*;omega,λh1 h2=>by simp only[iH,decide_eq_false_iff_not] at*;omega⟩
def sP {α:Type}(lt:α->α->Bool)(x:α):List α->List α
 | []=>[x]
 |y::r=>if lt x y=true then x::y::r else y::sP lt x r
def cz {α:Type}(lt:α->α->Bool):List α->List α
 | []=>[]
 |x::r=>sP lt x (cz lt r)
section
variable {α:Type}{lt:α->α->Bool}
theorem kq(x:α): ∀l:List α,(sP lt x l).Perm (x::l)
 | []=>.refl _
 |y::r=>by
  unfold sP;split
  ·exact .refl _
  ·exact((kq x r).cons y).trans (.swap _ _ _)
theorem bB: ∀l:List α,(cz lt l).Perm l
 | []=>.refl _
 |x::r=>(kq x _).trans ((bB r).cons x)
theorem uG(O:Lt lt)(x:α): ∀ {l:List α},l.Pairwise (λa b=>lt b a=false)->(sP lt x l).Pairwise (λa b=>lt b a=false)
 | [],_=>by simp[sP]
 |y::r,h=>by
  obtain⟨h1,h2⟩:=List.pairwise_cons.mp h;unfold sP;split
  ·rename_i e
   refine List.pairwise_cons.mpr ⟨λz hz=>?_,h⟩;rcases List.mem_cons.mp hz with rfl|hz
   ·exact O.as e
   ·exact O.tr (O.as e) (h1 z hz)
  ·rename_i e
   refine List.pairwise_cons.mpr ⟨λz hz=>?_,uG O x h2⟩;rcases List.mem_cons.mp ((kq x r).mem_iff.mp hz) with rfl|hz
   ·simpa using e
   ·exact h1 z hz
theorem kc(O:Lt lt): ∀l:List α,(cz lt l).Pairwise (λa b=>lt b a=false)
 | []=>.nil
 |x::r=>uG O x (kc O r)
theorem vZ(O:Lt lt){l l':List α}(p:l'.Perm l)(s:l'.Pairwise (λa b=>lt b a=false)):l'=cz lt l:=
 List.Perm.eq_of_pairwise (λa b _ _ h1 h2=>O.eq h2 h1) s (kc O l) (p.trans (bB l).symm)
theorem sO(ts:List α)(d:α):(List.range ts.length).map (λi=>ts.getD i d)=ts:=List.ext_getElem? λi=>by
 by_cases hi:i<ts.length
 ·simp[hi]
 ·simp[hi]
end
theorem pf {α:Type}{lt:α->α->Bool}{l:List α}(h:l.length<2):cz lt l=l:=by
 match l,h with
 | [],_=>rfl
 | [_],_=>rfl
def xg:List Value->List Int->Prop:=Paired λu i=> ∃t,u=Value.int i t
section
variable {X:Cx}{c:Ct}{e a b:Expr}{es rest:List Expr}{f g:GE}{fs:GA}{k:Kd}{pos p:Pos}{x:Str}{id T:String}{r:List V->Hp->VK->Prop}{F:List D->Option D}{ps:List Str}{j n:Nat}
theorem ua {r:R2}{F:D->D->Option D}(hr:IxR X r)(hF:mX X.K k r F)(ha:DE X c .s a f)(hb:DE X c .s b g)(hs:ol b)(hk:k≠ .b:=by decide):DE X c k (.Subscript a b pos) (bu F f g):=λhid ρ=>
 PE.imp (AI hr (ha hid ρ) (jW λρ1=>hb hid ρ1) hs) λσ H Q h=>C2 hF hk h
def je(fs:GA):GE:=λρ=>(fs ρ).bind λq=>if q.1.length<=sizeLine then some (.tup q.1,q.2) else none
def tF(fs:GA):GE:=λρ=>(fs ρ).bind λq=>if q.1.length<=sizeLine then some (.lst q.1,q.2) else none
theorem vS {ρ ρ':aG}{d:D}(h:je fs ρ=some (d,ρ')): ∃ds,fs ρ=some (ds,ρ')/\ds.length<=sizeLine/\d=.tup ds:=by
 unfold je at h;cases e:fs ρ with
 |none=>rw[e] at h;cases h
 |some q=>
  rw[e] at h;dsimp only[Option.bind] at h;split at h
  ·cases h;exact⟨q.1,rfl, ‹_›,rfl⟩
  ·cases h
theorem vm {ρ ρ':aG}{d:D}(h:tF fs ρ=some (d,ρ')): ∃ds,fs ρ=some (ds,ρ')/\ds.length<=sizeLine/\d=.lst ds:=by
 unfold tF at h;cases e:fs ρ with
 |none=>rw[e] at h;cases h
 |some q=>
  rw[e] at h;dsimp only[Option.bind] at h;split at h
  ·cases h;exact⟨q.1,rfl, ‹_›,rfl⟩
  ·cases h
theorem mw {x1}(h:DG X c es fs):DE X c .s (.Tuple es x1 pos) (je fs):=λhid ρ=>PE.imp (xp (h hid ρ)) λσ H Q hq_=>by
 obtain⟨sr,d,ρ',hd,q⟩:=hq_;obtain⟨ds,e1,hz,rfl⟩:=vS hd;exact⟨sr,ds,ρ',e1,λvs H1 k1 s1 r1=>⟨by rw[r1.length];exact hz,λp hp=>q _ _ (PostE.left k1 (s1.post (k:=.s) (bq hp _) (mI hp (s1.fresh hp) r1) (by decide)))⟩⟩
theorem Bi(h:DG X c es fs):DE X c .n (.List es pos) (tF fs):=λhid ρ=>PE.imp (xV (h hid ρ)) λσ H Q hq_=>by
 obtain⟨sr,d,ρ',hd,q⟩:=hq_;obtain⟨ds,e1,hz,rfl⟩:=vm hd;exact⟨sr,ds,ρ',e1,λvs H1 k1 s1 r1=>⟨by rw[r1.length];exact hz,λp hp=>q _ _ (PostE.left k1 (s1.post (k:=.n) (bq hp _) (ka hp (Same.refl _) r1) (by decide)))⟩⟩
def kU(F:List D->Option D)(fs:GA):GE:=λρ=>(fs ρ).bind λq=>(F q.1).map λd=>(d,q.2)
theorem sy {F:List D->Option D}{ρ ρ':aG}{d:D}(h:kU F fs ρ=some (d,ρ')): ∃ds,fs ρ=some (ds,ρ')/\F ds=some d:=by
 unfold kU at h;cases e:fs ρ with
 |none=>rw[e] at h;cases h
 |some q=>
  rw[e] at h;dsimp only[Option.bind] at h;cases e2:F q.1 with
  |none=>rw[e2] at h;cases h
  |some z=>rw[e2] at h;cases h;exact⟨q.1,rfl,e2⟩
theorem Ca {P:List D->Option D}(C:Cl X.prog X.w X.K X.mg X.base j x ps (gy X.K k n P))(hr:Room j X.A)
 (ha:DG X c (e::es) fs) (hkb:k≠ .b:=by decide) (hg:Gl X x:=by rfl) (hdb:(x==("__debug__":Str))=false:=by decide) (he:starEach (e::es) X.env=(false,eval e X.env)::starEach es X.env:=by rfl) (hpl:(backTo pos (starEach es X.env)).any (·.1)=false:=by rfl):
 DE X c k (.Call (.Name x p) (e::es) [] pos) (kU (nF n P) fs):=by
 obtain⟨f,fd,F,hm,hk,hb⟩:=C.ex;exact λhid ρ=>PE.imp (jT F hr hg hm hk hb .nil (pU (X:=X)) (ha hid ρ) hdb he hpl) λσ H Q hq_=>by
  obtain⟨sr,d,ρ',hd,q⟩:=hq_;obtain⟨ds,e1,e2⟩:=sy hd;unfold nF at e2;split at e2
  ·refine⟨sr,ds,ρ',e1,λvs H1 k1 s1 r1=>?_⟩;show gy X.K k n P (vs++[]) H1 Q E0;rw[List.append_nil];exact⟨hid,ds,s1.trk,r1, ‹_›,d,e2,λv H' s2 r2=>q v H' (PostE.left k1 (s1.post s2 r2 hkb))⟩
  ·cases e2
end
section
variable {prog:Program}{w:World}{A:Around}{R:Result->Shared->Prop}{s:Shared}{elt t1 t2 i1 i2:Expr}{ifs1 ifs2:List Expr}{scope:Scope}{pos:Pos}{it acc:Value}{env:Env}
theorem Ao:compTurn (.ListComp elt [⟨t1,i1,ifs1,0⟩,⟨t2,i2,ifs2,0⟩] scope pos) 1 it acc env=(do
 standAt i2.pos
 match <-pyNext it with
 |none=>pure (.done .next)
 |some v=>
  letOwnedTupleGo t2 it v
  assign t2 env v
  let ok <-jO ifs2 env
  if ok=true then do(do let _ <-call (.builtin "list.append") [acc,<-eval elt env]);again (.compLoop (.ListComp elt [⟨t1,i1,ifs1,0⟩,⟨t2,i2,ifs2,0⟩] scope pos) 1 it acc env)
  else again (.compLoop (.ListComp elt [⟨t1,i1,ifs1,0⟩,⟨t2,i2,ifs2,0⟩] scope pos) 1 it acc env)):=by rfl
theorem xm:compTurn (.ListComp elt [⟨t1,i1,ifs1,0⟩,⟨t2,i2,ifs2,0⟩] scope pos) 0 it acc env=(do
 standAt i1.pos
 match <-pyNext it with
 |none=>pure (.done .next)
 |some v=>
  letOwnedTupleGo t1 it v
  assign t1 env v
  let ok <-jO ifs1 env
  if ok=true then do
   let x <-eval i2 env
   standAt i2.pos
   let x <-foldedSetIterable i2 env x
   let _ <-runOwn (.compStart (.ListComp elt [⟨t1,i1,ifs1,0⟩,⟨t2,i2,ifs2,0⟩] scope pos) 1 (<-holding [x] (pyIter x)) acc env) env
   again (.compLoop (.ListComp elt [⟨t1,i1,ifs1,0⟩,⟨t2,i2,ifs2,0⟩] scope pos) 0 it acc env)
  else again (.compLoop (.ListComp elt [⟨t1,i1,ifs1,0⟩,⟨t2,i2,ifs2,0⟩] scope pos) 0 it acc env)):=by rfl
abbrev xE:=(Shared->Prop)->Shared->Prop
def t7(prog:Program)(w:World)(A:Around)(elt:Expr)(acc:Value)(env:Env):xE:=λQ s=>
 wpAny (model prog w) A (eval elt env) (λx s₄=>wpAny (model prog w) A (call (.builtin "list.append") [acc,x]) (λ_ s₅=>Q s₅) (λ_ _=>False) s₄) (λ_ _=>False) s
def o4(prog:Program)(w:World)(A:Around)(e iter:Expr)(acc:Value)(env:Env):xE:=λQ s=>
 wpAny (model prog w) A (eval iter env) (λx s₄=>wpAny (model prog w) A (pyIter x) (λit s₅=>codeAny (model prog w) A (.compStart e 1 it acc env) (λr s'=>match r with
  | .ok _=>Q s'
  | .error _=>False) s₅) (λ_ _=>False) s₄) (λ_ _=>False) s
def wU(prog:Program)(w:World)(A:Around)(code:Code)(tg:Expr)(ifs:List Expr)(it:Value)(env:Env)(TA:xE)(R:Result->Shared->Prop):Prop:= ∀(I:Nat->Shared->Prop),
 (∀n s,I n s->wpAny (model prog w) A (pyNext it) (λr s₁=>match r with
   |none=>R (.ok .next) s₁
   |some v=>wpAny (model prog w) A (letOwnedTupleGo tg it v) (λ_ s₁=>wpAny (model prog w) A (assign tg env v) (λ_ s₂=>
     wpAny (model prog w) A (jO ifs env) (λok s₃=>
      if ok=true then TA (λs₅=> ∃m,m<n/\I m s₅) s₃
      else∃m,m<n/\I m s₃) (λ_ _=>False) s₂) (λ_ _=>False) s₁) (λ_ _=>False) s₁) (λ_ _=>False) s)->
 ∀(n:Nat) (s:Shared),I n s->codeAny (model prog w) A code R s
theorem yj:wU prog w A (.compLoop (.ListComp elt [⟨t1,i1,ifs1,0⟩,⟨t2,i2,ifs2,0⟩] scope pos) 1 it acc env) t2 ifs2 it env (t7 prog w A elt acc env) R:=by
 intro I turn n s h;have no: ∀ {E':Value->Shared->Prop} (x:Value) (s:Shared),False->E' x s:=λ_ _ z=>z.elim
 refine codeAny_loop rfl I (λn s hI=>?_) n h;show wpAny _ A ((compTurn (.ListComp elt [⟨t1,i1,ifs1,0⟩,⟨t2,i2,ifs2,0⟩] scope pos) 1 it acc env).onRaise (λx=>do noteFrame x env;theTreesLotGoes x)) _ _ s;refine wpAny_noted ?_
 rw[Ao];refine wpAny_bind (wpAny_standAt (wpAny_bind (wpAny_mono (turn n s hI) (λr s₁ h₁=>?_) no)));cases r with
 |none=>exact wpAny_pure h₁
 |some v=>
  refine wpAny_bind (wpAny_mono h₁ (λ_ s₁ h₁=>wpAny_bind (wpAny_mono h₁ (λ_ s₂ h₂=>wpAny_bind (wpAny_mono h₂ (λok s₃ h₃=>?_) no)) no)) no);cases ok with
  |false=>exact wpAny_pure ⟨rfl,h₃⟩
  |true=>exact wpAny_bind (wpAny_bind (wpAny_mono h₃ (λx s₄ h₄=>wpAny_bind (wpAny_mono h₄ (λ_ s₅ h₅=>wpAny_pure (wpAny_pure ⟨rfl,h₅⟩)) no)) no))
theorem vc(hset: ∀x,foldedSetIterable i2 env x=pure x):wU prog w A (.compLoop (.ListComp elt [⟨t1,i1,ifs1,0⟩,⟨t2,i2,ifs2,0⟩] scope pos) 0 it acc env) t1 ifs1 it env (o4 prog w A (.ListComp elt [⟨t1,i1,ifs1,0⟩,⟨t2,i2,ifs2,0⟩] scope pos) i2 acc env) R:=by
 intro I turn n s h;have no: ∀ {E':Value->Shared->Prop} (x:Value) (s:Shared),False->E' x s:=λ_ _ z=>z.elim
 refine codeAny_loop rfl I (λn s hI=>?_) n h;show wpAny _ A ((compTurn (.ListComp elt [⟨t1,i1,ifs1,0⟩,⟨t2,i2,ifs2,0⟩] scope pos) 0 it acc env).onRaise (λx=>do noteFrame x env;theTreesLotGoes x)) _ _ s;refine wpAny_noted ?_
 rw[xm];refine wpAny_bind (wpAny_standAt (wpAny_bind (wpAny_mono (turn n s hI) (λr s₁ h₁=>?_) no)));cases r with
 |none=>exact wpAny_pure h₁
 |some v=>
  refine wpAny_bind (wpAny_mono h₁ (λ_ s₁ h₁=>wpAny_bind (wpAny_mono h₁ (λ_ s₂ h₂=>wpAny_bind (wpAny_mono h₂ (λok s₃ h₃=>?_) no)) no)) no);cases ok with
  |false=>exact wpAny_pure ⟨rfl,h₃⟩
  |true=>
   refine wpAny_bind (wpAny_mono h₃ (λx s₄ h₄=>wpAny_bind (wpAny_standAt (wpAny_bind (wpAny_of_eq (hset x) (wpAny_bind (wpAny_holding (wpAny_mono h₄ (λit2 s₅ h₅=>?_) no))))))) no);refine wpAny_bind (wpAny_runOwn (codeAny_mono h₅ λr s' hr=>?_));cases r with
   |ok f=>exact wpAny_pure ⟨rfl,hr⟩
   |error e=>exact hr.elim
end
def mJ(g:FG)(p:FT)(A:FA)(ρ0:aG):List D->Option (List D)
 | []=>some []
 |d::r=>(g d ρ0).bind λρ1=>(p ρ1).bind λb=>if b=true then(A ρ1).bind λys=>(mJ g p A ρ0 r).map (ys++ ·) else mJ g p A ρ0 r
def D9(n:Nat)(ρ:aG):Prop:= ∀(i:Nat) (s:Sl),n<=i->ρ[i]? =some s->s=.no
def w6(Y:Cx)(c:Ct)(hid:bw)(D0:Addr)(L W:Hp)(A:FA)(TA:xE)(ρ1:aG):Prop:= ∀(aa:List (Addr×Obj)) (s:Shared) (σ:St) (H:Hp) (xs:List V) (ad zs:List D) (Q:Shared->Prop),Inv Y aa σ H s->SR Y.K c hid ρ1 σ H->
 H D0=some (.lst xs)->Reps Y.K (vw H hid) xs ad->xs.length+zs.length<=sizeLine->Same L H->Same W (vw H hid)->(∀i:Nat,Ow ρ1[i]? ->σ[i]? ≠some (some (.ref D0)))->A ρ1=some zs->
 (∀(s':Shared) (σ':St) (H':Hp) (xs':List V),Inv Y aa σ' H' s'->SR Y.K c hid ρ1 σ' H'->H' D0=some (.lst xs')->Reps Y.K (vw H' hid) xs' (ad++zs)->Same L H'->Same (vw H hid) (vw H' hid)->(∀i:Nat,Ow ρ1[i]? ->σ'[i]? ≠some (some (.ref D0)))->Q s')->TA Q s
section
variable {Y:Cx}{c:Ct}{tg:Expr}{ifs:List Expr}{g:FG}{p:FT}{A:FA}{TA:xE}{code:Code}
structure CLG(Y:Cx)(aa:List (Addr×Obj))(c:Ct)(hid:bw)(ρ0:aG)(L W H3:Hp)(D0:Addr)(fp:List Addr)(tn:Nat->Heap->Prop)(g:FG)(p:FT)(A:FA)(ds ys ad0:List D)(n i:Nat)(xs:List V)(ad:List D)(σ':St)(H':Hp)(s':Shared):Prop where
 e:n=ds.length-i
 hi:i<=ds.length
 I:Inv Y aa σ' H' s'
 st:tn i s'.heap
 fr: ∀b∈fp,H' b=none
 sr:SR Y.K c hid ρ0 σ' H'
 sm:Same L H'
 ac:H' D0=some (.lst xs)
 rp:Reps Y.K (vw H' hid) xs ad
 w:Same W (vw H' hid)
 v:Same (vw H3 hid) (vw H' hid)
 na: ∀i:Nat,Ow ρ0[i]? ->σ'[i]? ≠some (some (.ref D0))
 go: ∃rest,mJ g p A ρ0 (ds.drop i)=some rest/\ad++rest=ad0++ys
theorem pW(hcalm:Y.calm=true)(hxe:Y.xe=λ_ _=>False){n0:Nat}(hT:jY n0 g)(hg:uW Y c tg g)(hp:vB Y c ifs p)
 {aa:List (Addr×Obj)} {σ3:St} {H3 L W:Hp} {s4:Shared} {hid:bw} {ρ0:aG} {J:It} {it D0:Addr} {fp:List Addr} {tn:Nat->Heap->Prop} {ds ys ad0:List D} {xs0:List V} {R:Result->Shared->Prop}
 (hA: ∀d ρ1,g d ρ0=some ρ1->w6 Y c hid D0 L W A TA ρ1)
 (hN:D9 n0 ρ0) (I:Inv Y aa σ3 H3 s4) (sr:SR Y.K c hid ρ0 σ3 H3) (hh:hid D0=true) (na: ∀i:Nat,Ow ρ0[i]? ->σ3[i]? ≠some (some (.ref D0))) (hacc:H3 D0=some (.lst xs0)) (rp0:Reps Y.K (vw H3 hid) xs0 ad0) (sm:Same L H3) (wv:Same W (vw H3 hid)) (T:Turn Y.prog Y.w Y.K tg J fp it tn) (st:tn 0 s4.heap) (hF: ∀b∈fp,iA Y aa H3 b)
 (io:De Y.K L W J ds) (hz:ad0.length+ys.length<=sizeLine) (hc:mJ g p A ρ0 ds=some ys)
 (hTP:wU Y.prog Y.w Y.A code tg ifs (.ref it) Y.env TA R)
 (hR: ∀(s':Shared) (σ':St) (H':Hp) (xs:List V),Inv Y aa σ' H' s'->SR Y.K c hid ρ0 σ' H'->Same L H'->H' D0=some (.lst xs)->Reps Y.K (vw H' hid) xs (ad0++ys)->Same (vw H3 hid) (vw H' hid)->(∀i:Nat,Ow ρ0[i]? ->σ'[i]? ≠some (some (.ref D0)))->R (.ok .next) s'):
 codeAny (model Y.prog Y.w) Y.A code R s4:=by
 have stat: ∀ {H':Hp},(∀b∈fp,H' b=none)-> ∀b∈fp,iA Y aa H' b:=λ{H'} hn b hb=>⟨hn b hb,(hF b hb).2⟩
 refine hTP (λn s'=> ∃(i:Nat) (xs:List V) (ad:List D) (σ':St) (H':Hp),CLG Y aa c hid ρ0 L W H3 D0 fp tn g p A ds ys ad0 n i xs ad σ' H' s') ?_ ds.length s4
  ⟨0,xs0,ad0,σ3,H3,by simp,Nat.zero_le _,I,st,λb hb=>(hF b hb).1,sr,sm,hacc,rp0,wv,Same.refl _,na,ys,by simpa using hc,rfl⟩
 rintro n s5 ⟨i,xs,ad,σ5,H5,rfl,hi,I5,st5,f5,sr5,sm5,ac5,rp5,w5,v5,na5,rest,hc5,hy5⟩;have wH:Same W H5:=w5.trans (di _ _)
 by_cases hlt:i<ds.length
 ·have hd:ds[i]? =some ds[i]:=List.getElem?_eq_getElem hlt;have e2:ds.drop i=ds[i]::ds.drop (i+1):=List.drop_eq_getElem_cons hlt;rw[e2] at hc5;unfold mJ at hc5;obtain⟨go,yl⟩:=io.1 i ds[i] H5 hd sm5 wH;refine cq (T.item Y rfl rfl rfl hcalm i aa s5 σ5 H5 (λ_ _=>False) I5 (stat f5) st5 go) λr s6 hq_=>?_
  obtain⟨u,hr,h6⟩:=hq_;subst hr;refine cq h6 λ_ s7 hq_=>?_
  obtain⟨x,H7,I7,r7,y7,st7,f7⟩:=hq_;obtain⟨s7',rp⟩:=yl x H7 y7;have rx:=rp hid sr5.tr w5;have I7':=I7.pinned (stat f7) (T.obj _ _ st7);cases e3:g ds[i] ρ0 with
  |none=>rw[e3] at hc5;cases hc5
  |some ρ1=>
   rw[e3] at hc5;have hc5:(p ρ1).bind (λb=>if b=true then(A ρ1).bind λys=>(mJ g p A ρ0 (ds.drop (i+1))).map (ys++ ·) else mJ g p A ρ0 (ds.drop (i+1)))=some rest:=hc5;obtain⟨tl1,tl2⟩:=hT _ _ _ e3;have fg: ∀ {σ':St} {H':Hp},SR Y.K c hid ρ1 σ' H'->SR Y.K c hid ρ0 σ' H':=λ{σ' H'} z=>z.forget tl1 λj s e=>by
    by_cases hj:j<n0
    ·exact .inr ((tl2 j hj).trans e)
    ·exact .inl (hN j s (by omega) e)
   have ow01: ∀j:Nat,Ow ρ0[j]? ->Ow ρ1[j]? :=λj o=>by
    by_cases hj:j<n0
    ·rw[tl2 j hj];exact o
    ·exfalso;cases e:ρ0[j]? with
     |none=>rw[e] at o;exact o
     |some s=>have:=hN j s (by omega) e;subst this;rw[e] at o;exact o
   have keepT: ∀ {σ':St} {H':Hp} {s':Shared},Inv Y (aa++kr fp s7.heap) σ' H' s'->tn (i+1) s'.heap/\ ∀b∈fp,H' b=none:=λ{σ' H' s'} J'=>by
    refine⟨T.keep _ _ _ st7 λb hb o e=>(J'.pin (b,o) (List.mem_append_right _ (List.mem_append_right _ (eQ hb e)))).1,λb hb=>?_⟩;obtain⟨o,e,_⟩:=T.obj _ _ st7 b hb;exact(J'.pin (b,o) (List.mem_append_right _ (List.mem_append_right _ (eQ hb e)))).2.1
   refine cq (hxe▸hg hid ρ0 ds[i] _ s7 σ5 H7 x u (λσ' H'=>H'=H7/\SR Y.K c hid ρ1 σ' H7/\OwK ρ0 ρ1 σ5 σ') I7' r7 ⟨sr5.ext s7',rx,ρ1,e3,λσ' z o=>⟨rfl,z,o⟩⟩) λ_ s8 hq_=>?_
   obtain⟨σ8,H8,I8,e8,q8,o8⟩:=hq_;subst e8;have na1: ∀j:Nat,Ow ρ1[j]? ->σ8[j]? ≠some (some (.ref D0)):=λj o=>by
    rw[(o8 j o).2];exact na5 j (o8 j o).1
   cases e4:p ρ1 with
   |none=>rw[e4] at hc5;cases hc5
   |some b=>
    rw[e4] at hc5;have hc5:(if b=true then(A ρ1).bind λys=>(mJ g p A ρ0 (ds.drop (i+1))).map (ys++ ·) else mJ g p A ρ0 (ds.drop (i+1)))=some rest:=hc5;refine cq (hxe▸hp hid ρ1 _ s8 σ8 H8 (λb' H'=>b'=b/\Same H8 H') I8 ⟨q8,b,e4,λH' s'=>⟨rfl,s'⟩⟩) λok s9 hq_=>?_
    obtain⟨H9,I9,e9,sm9⟩:=hq_;subst e9;have w9:Same (vw H5 hid) (vw H9 hid):=aM (s7'.trans sm9);cases ok with
    |false=>
     have hc5:mJ g p A ρ0 (ds.drop (i+1))=some rest:=hc5;obtain⟨k1,k2⟩:=keepT I9;exact⟨ds.length- (i+1),by omega,i+1,xs,ad,σ8,H9,rfl,hlt,I9.unpinned,k1,k2,fg (q8.ext sm9),sm5.trans (s7'.trans sm9),sm9 _ _ (s7' _ _ ac5),rp5.mono w9,w5.trans w9,v5.trans w9,λj o=>na1 j (ow01 j o),rest,hc5,hy5⟩
    |true=>
     have hc5:((A ρ1).bind λys=>(mJ g p A ρ0 (ds.drop (i+1))).map (ys++ ·))=some rest:=hc5;cases e5:A ρ1 with
     |none=>rw[e5] at hc5;cases hc5
     |some zs=>
      rw[e5] at hc5;have hc5:(mJ g p A ρ0 (ds.drop (i+1))).map (zs++ ·)=some rest:=hc5;cases e6:mJ g p A ρ0 (ds.drop (i+1)) with
      |none=>rw[e6] at hc5;cases hc5
      |some rest'=>
       rw[e6] at hc5;cases hc5;have l1:=rp5.length;have l2:=congrArg List.length hy5;simp only[List.length_append] at l2;refine hA ds[i] ρ1 e3 _ s9 σ8 H9 xs ad zs _ I9 (q8.ext sm9) (sm9 _ _ (s7' _ _ ac5)) (rp5.mono w9) (by omega) (sm5.trans (s7'.trans sm9)) (w5.trans w9) na1 e5 λs10 σ10 H10 xs' I10 q10 a10 rp10 smL v10 na10=>?_
       obtain⟨k1,k2⟩:=keepT I10;exact⟨ds.length- (i+1),by omega,i+1,xs',ad++zs,σ10,H10,rfl,hlt,I10.unpinned,k1,k2,fg q10,smL,a10,rp10,(w5.trans w9).trans v10,(v5.trans w9).trans v10,λj o=>na10 j (ow01 j o),rest',e6,by rw[<-hy5];simp⟩
 ·have e:i=ds.length:=by omega
  subst e;rw[List.drop_eq_nil_of_le (Nat.le_refl _)] at hc5;cases hc5;rw[List.append_nil] at hy5;subst hy5;refine cq (T.done Y rfl rfl rfl hcalm ds.length aa s5 σ5 H5 (λ_ _=>False) I5 (stat f5) st5 (io.2 H5 sm5 wH)) λr s6 hq_=>?_
  obtain⟨hr,I6⟩:=hq_;subst hr;exact hR s6 σ5 H5 xs I6 sr5 sm5 ac5 rp5 v5 na5
end
def qw(f:FE):FA:=λρ=>(f ρ).map λd=>[d]
def xl(gi:FA)(g:FG)(p:FT)(f:FE):FA:=λρ1=>(gi ρ1).bind λds=>mJ g p (qw f) ρ1 ds
def vP(m:Nat)(gi1:FA)(g1:FG)(p1:FT)(gi2:FA)(g2:FG)(p2:FT)(f:FE):FE:=λρ=>(gi1 ρ).bind λds=>(mJ g1 p1 (xl gi2 g2 p2 f) (ρ++List.replicate m .no) ds).bind λys=>if ys.length<=sizeLine then some (.lst ys) else none
theorem vM {m:Nat}{gi1 gi2:FA}{g1 g2:FG}{p1 p2:FT}{f:FE}{ρ:aG}{d:D}(h:vP m gi1 g1 p1 gi2 g2 p2 f ρ=some d): ∃ds ys,gi1 ρ=some ds/\mJ g1 p1 (xl gi2 g2 p2 f) (ρ++List.replicate m .no) ds=some ys/\ys.length<=sizeLine/\d=.lst ys:=by
 unfold vP at h;cases e1:gi1 ρ with
 |none=>rw[e1] at h;cases h
 |some ds=>
  rw[e1] at h;dsimp only[Option.bind] at h;cases e2:mJ g1 p1 (xl gi2 g2 p2 f) (ρ++List.replicate m .no) ds with
  |none=>rw[e2] at h;cases h
  |some ys=>
   rw[e2] at h;dsimp only at h;split at h
   ·cases h;exact⟨ds,ys,rfl,e2, ‹_›,rfl⟩
   ·cases h
def wO(n:Nat)(g:FG):Prop:= ∀d (ρ0 ρ1:aG),g d ρ0=some ρ1-> ∀i:Nat,n<=i->ρ1[i]? =ρ0[i]?
def tR(n:Nat)(g:tY):Prop:= ∀d (ρ0 ρ1:aG),g d ρ0=some ρ1-> ∀i:Nat,n<=i->ρ1[i]? =ρ0[i]?
theorem C3 {n i:Nat}(h:i<n):wO n (gN i):=λd ρ0 ρ1 e=>by
 cases e;exact λj hj=>List.getElem?_set_ne (by omega)
theorem yD {n:Nat}:tR n fz:=λd ρ0 ρ1 e=>by
 unfold fz at e;split at e
 ·cases e;exact λ_ _=>rfl
 ·cases e
theorem rL {n:Nat}{g:FG}{gs:tY}(h1:wO n g)(h2:tR n gs):tR n (cj g gs):=λd ρ0 ρ1 e=>by
 cases d with
 |nil=>cases e
 |cons d ds=>
  have e:(g d ρ0).bind (λρ'=>gs ds ρ')=some ρ1:=e;cases e1:g d ρ0 with
  |none=>rw[e1] at e;cases e
  |some ρ2=>
   rw[e1] at e;exact λi hi=>(h2 ds ρ2 ρ1 e i hi).trans (h1 d ρ0 ρ2 e1 i hi)
theorem DN {n m:Nat}{gs:tY}(h:tR n gs):wO n (gT m gs):=λd ρ0 ρ1 e=>by
 unfold gT at e;split at e
 ·split at e
  ·exact h _ _ _ e
  ·cases e
 ·cases e
section
variable {prog:Program}{w:World}{A:Around}{R:Result->Shared->Prop}{s:Shared}{elt t1 t2 i1 i2:Expr}{ifs1 ifs2:List Expr}{scope:Scope}{pos:Pos}{it acc:Value}{env:Env}
theorem ww
 (h0:codeAny (model prog w) A (.compLoop (.ListComp elt [⟨t1,i1,ifs1,0⟩,⟨t2,i2,ifs2,0⟩] scope pos) 1 it acc env) R s)
 (h:wpAny (model prog w) A (pyIter it) (λit' s'=>codeAny (model prog w) A (.compLoop (.ListComp elt [⟨t1,i1,ifs1,0⟩,⟨t2,i2,ifs2,0⟩] scope pos) 1 it' acc env) R s')
   (notedBy (model prog w) A env λx s'=>R (.error x) s') s):
 codeAny (model prog w) A (.compStart (.ListComp elt [⟨t1,i1,ifs1,0⟩,⟨t2,i2,ifs2,0⟩] scope pos) 1 it acc env) R s:=by
 refine codeAny_of_tree (show wpAny _ _ ((compStart (.ListComp elt [⟨t1,i1,ifs1,0⟩,⟨t2,i2,ifs2,0⟩] scope pos) 1 it acc env).onRaise (λx=>do noteFrame x env;standAt theWindowsPlace)) _ _ s from wpAny_notedAt ?_);unfold compStart;show wpAny _ _ (ask>>=_) _ _ s;refine wpAny_bind (wpAny_askSetting (wpAny_ite ?_));split
 ·first
   |exact wpAny_bind (wpAny_pure (wpAny_pure (And.intro rfl h0)))
   |exact wpAny_pure (And.intro rfl h0)
 ·first
   |exact wpAny_bind (wpAny_rule (wpAny_bind (wpAny_standAt (wpAny_bind (wpAny_mono h (λit' s' h'=>wpAny_pure (And.intro rfl h')) λ_ _ x=>x)))))
   |(refine wpAny_bind (wpAny_rule ?_);show wpAny _ _ (standAt i2.pos>>=_) _ _ s;exact wpAny_bind (wpAny_standAt (wpAny_bind (wpAny_mono h (λit' s' h'=>wpAny_pure (And.intro rfl h')) λ_ _ x=>x))))
end
section
variable {Y:Cx}{c:Ct}{elt t1 t2 i1 i2:Expr}{ifs1 ifs2:List Expr}{scope:Scope}{pos:Pos}{f:FE}{g2:FG}{p2:FT}{gi2:FA}{hid:bw}{D0:Addr}{L W:Hp}{ρ1:aG}
theorem yt(hxe:Y.xe=λ_ _=>False)(he:DP Y c .s elt f)(hh:hid D0=true)(h00:c.H₀ D0=none)(nD:L D0=none):w6 Y c hid D0 L W (qw f) (t7 Y.prog Y.w Y.A elt (.ref D0) Y.env) ρ1:=by
 intro aa s σ H xs ad zs Q I sr ac rp hz smL wv na hA hQ;unfold qw at hA;cases e5:f ρ1 with
 |none=>rw[e5] at hA;cases hA
 |some y=>
  rw[e5] at hA;cases hA;unfold t7;refine cq (hxe▸he hid ρ1 _ s σ H (λv H'=>Same H H'/\Rep Y.K (vw H' hid) v y) I ⟨sr,y,e5,λv H' s' r=>⟨s',r⟩⟩) λv s10 hq_=>?_
  obtain⟨z,H10,I10,rz,sm10,rp10⟩:=hq_;have a10:H10 D0=some (.lst xs):=sm10 _ _ ac;refine cq (hxe▸fH (X:=Y) _ s10 σ H10 (.ref D0) [z] (.ref D0) [v] (λ_ H'=>H'=cb H10 D0 (.lst (xs++[z]))) I10 rfl (.cons rz .nil) ⟨D0,xs,z,rfl,rfl,a10,by simp at hz;omega,rfl⟩) λ_ s11 ⟨_,H11,I11,_,e11⟩=>?_
  subst e11;have vv:vw (cb H10 D0 (.lst (xs++[z]))) hid=vw H10 hid:=eL hh;have w10:Same (vw H hid) (vw H10 hid):=aM sm10;refine hQ s11 σ _ (xs++[z]) I11 ((sr.ext sm10).write hh h00 na a10) aN ?_ (λb o e=>?_) ?_ na
  ·rw[vv];exact(rp.mono w10).append (.cons rp10 .nil)
  ·rw[aH (bo e nD)];exact sm10 _ _ (smL _ _ e)
  ·rw[vv];exact w10
theorem vh(hcalm:Y.calm=true)(hxe:Y.xe=λ_ _=>False){n1:Nat}(hT:jY n1 g2)(hN:D9 n1 ρ1)(hi:DIp Y c t2 i2 gi2)(hg:uW Y c t2 g2)(hp:vB Y c ifs2 p2)(he:DP Y c .s elt f)(hh:hid D0=true)(h00:c.H₀ D0=none)(nD:L D0=none):
 w6 Y c hid D0 L W (xl gi2 g2 p2 f) (o4 Y.prog Y.w Y.A (.ListComp elt [⟨t1,i1,ifs1,0⟩,⟨t2,i2,ifs2,0⟩] scope pos) i2 (.ref D0) Y.env) ρ1:=by
 intro aa s σ H xs ad zs Q I sr ac rp hz smL wv na hA hQ;unfold xl at hA;cases e5:gi2 ρ1 with
 |none=>rw[e5] at hA;cases hA
 |some ds=>
  rw[e5] at hA;have hA:mJ g2 p2 (qw f) ρ1 ds=some zs:=hA;unfold o4;refine cq (hxe▸hi hid ρ1 aa s σ H (λJ H'=>Same H H'/\ItOk Y.K (vw H' hid) J ds) I ⟨sr,ds,e5,λJ H' s1 io=>⟨s1,io⟩⟩) λv s1 h1=>cq h1 λitv s2 h2=>?_
  obtain⟨it,fp,tn,J,H2,rfl,I2,T,st2,f2,sm,io⟩:=h2;have l1:=rp.length
  have loop:codeAny (model Y.prog Y.w) Y.A (.compLoop (.ListComp elt [⟨t1,i1,ifs1,0⟩,⟨t2,i2,ifs2,0⟩] scope pos) 1 (.ref it) (.ref D0) Y.env) (λr s'=>match r with
   | .ok _=>Q s'
   | .error _=>False) s2:=by
   refine pW (L:=L) (W:=vw H2 hid) (ad0:=ad) (xs0:=xs) (A:=qw f) (TA:=t7 Y.prog Y.w Y.A elt (.ref D0) Y.env) hcalm hxe hT hg hp (λd ρ2 _=>yt hxe he hh h00 nD) hN I2 (sr.ext sm) hh na (sm _ _ ac) (rp.mono (aM sm)) (smL.trans sm) (Same.refl _) T st2 f2 io.b (by omega) hA yj ?_
   intro s' σ' H' xs' I' sr' smL' ac' rp' v' na';exact hQ s' σ' H' xs' I' sr' ac' rp' smL' ((aM sm).trans v') na'
  exact ww loop (T.self Y.A 0 _ _ _ st2 loop)
end
section
variable {X:Cx}{c:Ct}{elt t1 t2 i1 i2:Expr}{ifs1 ifs2:List Expr}{scope:Scope}{pos:Pos}{N':List Str}{m n1:Nat}{gi1 gi2:FA}{g1 g2:FG}{p1 p2:FT}{f:FE}
theorem qA(hcalm:X.calm=true)(hk:scope.kind=.function)(hs:wl scope X.env.scope=true)(hn:wR X.N N' scope=true)(hm:N'.length-X.N.length=m)(hT1:jY X.N.length g1)(hU1:wO n1 g1)(hn1:X.N.length<=n1)(hT2:jY n1 g2)
 (hset: ∀C s₀ H₀ ex,∀x,foldedSetIterable i2 (aP X N' scope C s₀ H₀ ex).env x=pure x)
 (hg1: ∀C s₀ H₀ ex,uW (aP X N' scope C s₀ H₀ ex) c t1 g1) (hp1: ∀C s₀ H₀ ex,vB (aP X N' scope C s₀ H₀ ex) c ifs1 p1) (hi2: ∀C s₀ H₀ ex,DIp (aP X N' scope C s₀ H₀ ex) c t2 i2 gi2)
 (hg2: ∀C s₀ H₀ ex,uW (aP X N' scope C s₀ H₀ ex) c t2 g2) (hp2: ∀C s₀ H₀ ex,vB (aP X N' scope C s₀ H₀ ex) c ifs2 p2) (he: ∀C s₀ H₀ ex,DP (aP X N' scope C s₀ H₀ ex) c .s elt f)
 {E:Value->Shared->Prop} {aa:List (Addr×Obj)} {σ:St} {H:Hp} {s:Shared} {hid:bw} {ρ:aG} {J:It} {it:Addr} {fp:List Addr} {tn:Nat->Heap->Prop} {ds ys:List D} {RR:Value->Addr->Result->Shared->Prop}
 (I:Inv X aa σ H s) (sr:SR X.K c hid ρ σ H) (T:Turn X.prog X.w X.K t1 J fp it tn) (st:tn 0 s.heap) (hF: ∀b∈fp,iA X aa H b) (io:De X.K H (vw H hid) J ds) (hz:ys.length<=sizeLine) (hc:mJ g1 p1 (xl gi2 g2 p2 f) (ρ++List.replicate m .no) ds=some ys)
 (hR: ∀(D C:Addr) (s':Shared) (H':Hp) (xs:List V),s.heap.objs.size<=D->s.heap.objs.size<=C->D≠C->H D=none->Same H H'->H' D=some (.lst xs)->Reps X.K (vw H' (bY hid D)) xs ys->(∃m,s'.heap.Ns C m)->H' C=none->s'.os=s.os->AllBare s'.gens->HOk X.prog X.w H' s'.heap->Un (frs X.stack) fp H H' s.heap s'.heap->RR (.ref D) C (.ok .next) s'):
 wpAny (model X.prog X.w) X.A (newList []) (λacc s₃=>wpAny (model X.prog X.w) X.A (newFunctionEnv scope X.env.globals (pI X.env.cells scope.names []) [] X.env.qual none .none (some X.env)) (λcenv s₄=>
  codeAny (model X.prog X.w) X.A (.compStart (.ListComp elt [⟨t1,i1,ifs1,0⟩,⟨t2,i2,ifs2,0⟩] scope pos) 0 (.ref it) acc {cenv with scope:=relabel scope X.env}) (RR acc cenv.locals) s₄) E s₃) E s:=by
 refine wpAny_newObj_type (ud λh₁ hns₁ kp1 oc₁=>?_);dsimp only at hns₁ kp1 oc₁⊢;generalize hH2:s.heap.push {cls:=.type "list",dict:=none,data:=.seq ([]:List Value).toArray}=H2 at hns₁ kp1 oc₁⊢;have hC:H2.objs.size=s.heap.objs.size+1:=by rw[<-hH2,Heap.size_push]
 have hD:H s.heap.objs.size=none:=I.hok.fresh (Nat.le_refl _);have I2:Inv X aa σ (cb H s.heap.objs.size (.lst [])) {s with heap:=H2}:=by
  rw[<-hH2];exact I.laid (t':=s.toks) (λb o e=>Heap.get?_push_of_some _ e) (Nat.le_refl _) ⟨Nat.zero_le _,[],0,.nil,Heap.get?_push_size _ rfl⟩
 have fpLt: ∀b∈fp,b<s.heap.objs.size:=λb hb=>let⟨o,e,_⟩:=T.obj 0 s.heap st b hb;Heap.lt_size e
 have hF2: ∀b∈fp,iA X aa (cb H s.heap.objs.size (.lst [])) b:=λb hb=>⟨by rw[aH (Nat.ne_of_lt (fpLt b hb))];exact(hF b hb).1,(hF b hb).2⟩
 have kp0: ∀b o,s.heap.get? b=some o->H2.get? b=some o:=λb o e=>by rw[<-hH2];exact Heap.get?_push_of_some _ e
 have IY:=qb (tk:=s.toks) (N':=N') (fp:=fp) I2 hF2 (λb hb=>let⟨o,e,_⟩:=T.obj 0 s.heap st b hb;⟨o,kp0 b o e⟩) hk hs hn hns₁ kp1 oc₁;rw[hm] at IY;dsimp only at IY;have sr0:SR X.K c (bY hid s.heap.objs.size) (ρ++List.replicate m .no) (σ++List.replicate m none) (cb H s.heap.objs.size (.lst [])):=(sr.hide (bq hD _) hD aN).more m;have hρ:ρ.length=X.N.length:=by rw[<-sr.len];exact I.len
 have nf:hid s.heap.objs.size=false:=sr.fresh hD;have st1:tn 0 h₁:=T.keep _ _ _ st λb hb o e=>kp1 b o (kp0 b o e)
 have na0: ∀i:Nat,Ow (ρ++List.replicate m Sl.no)[i]? ->(σ++List.replicate m none)[i]? ≠some (some (V.ref s.heap.objs.size)):=(sr.more m).notOw nf
 have wv:Same (vw H hid) (vw (cb H s.heap.objs.size (.lst [])) (bY hid s.heap.objs.size)):=by rw[oZ hD];exact Same.refl _
 have nos:D9 X.N.length (ρ++List.replicate m Sl.no):=λi s hi e=>by
  rw[List.getElem?_append_right (by omega),List.getElem?_replicate] at e;split at e
  ·cases e;rfl
  ·cases e
 have loop: ∀s4:Shared,s4={s with heap:=h₁,toks:=s.toks}->
  codeAny (model X.prog X.w) X.A (.compLoop (.ListComp elt [⟨t1,i1,ifs1,0⟩,⟨t2,i2,ifs2,0⟩] scope pos) 0 (.ref it) (.ref s.heap.objs.size) (compEnvC scope (mB X.env.cells scope H2.objs.size) H2.objs.size X.env)) (RR (.ref s.heap.objs.size) H2.objs.size) s4:=by
  rintro s4 rfl;have fpY: ∀b∈fp,iA (aP X N' scope H2.objs.size {s with heap:=H2} (cb H s.heap.objs.size (.lst [])) fp) [] (cb H s.heap.objs.size (.lst [])) b:=λb hb=>
   ⟨(hF2 b hb).1,(IY.ok.exf b hb).1,IY.ok.exfs b hb,.inl hb,(IY.ok.exf b hb).2,λq hq=>by have hq':q∈([]:List (Addr×Obj))++[]:=hq;simp at hq'⟩
  refine pW (Y:=aP X N' scope H2.objs.size {s with heap:=H2} (cb H s.heap.objs.size (.lst [])) fp) (L:=H) (hid:=bY hid s.heap.objs.size) (W:=vw H hid) (ad0:=[]) (xs0:=[]) (A:=xl gi2 g2 p2 f) (TA:=o4 X.prog X.w X.A (.ListComp elt [⟨t1,i1,ifs1,0⟩,⟨t2,i2,ifs2,0⟩] scope pos) i2 (.ref s.heap.objs.size) (compEnvC scope (mB X.env.cells scope H2.objs.size) H2.objs.size X.env))
   hcalm rfl hT1 (hg1 _ _ _ _) (hp1 _ _ _ _) (λd ρ1 e=>vh (Y:=aP X N' scope H2.objs.size {s with heap:=H2} (cb H s.heap.objs.size (.lst [])) fp) hcalm rfl hT2 (λi s hi e'=>?_) (hi2 _ _ _ _) (hg2 _ _ _ _) (hp2 _ _ _ _) (he _ _ _ _) fM (sr.fresh0 hD) hD) nos IY sr0 fM na0 aN .nil (bq hD _) wv T st1 fpY io (by simpa using hz) hc (vc (hset H2.objs.size {s with heap:=H2} (cb H s.heap.objs.size (.lst [])) fp)) ?_
  ·rw[hU1 _ _ _ e i hi] at e';exact nos i s (by omega) e'
  ·intro s' σ' H' xs I' _ sm' hx' rp' _ _;have un1:Un (frs X.stack) fp H (cb H s.heap.objs.size (.lst [])) s.heap H2:=Un.laid (λb o e=>kp0 b o e) (Nat.le_refl _) hD;exact hR s.heap.objs.size H2.objs.size s' H' xs (Nat.le_refl _) (by rw[hC];exact Nat.le_succ _) (by rw[hC];exact Nat.ne_of_lt (Nat.lt_succ_self _)) hD sm' hx' rp' (let⟨m,hm,_⟩:=I'.loc;⟨m,hm⟩) I'.free I'.os I'.bare I'.hok (un1.trans I'.base)
 exact codeAny_compStart_list (loop _ rfl) (T.self X.A 0 _ _ _ st1 (loop _ rfl))
theorem yb(hcalm:X.calm=true)(n1:Nat)(hT1:jY X.N.length g1)(hU1:wO n1 g1)(hT2:jY n1 g2)(hi:Cn X c t1 i1 gi1)
 (hg1: ∀C s₀ H₀ ex,uW (aP X N' scope C s₀ H₀ ex) c t1 g1) (hp1: ∀C s₀ H₀ ex,vB (aP X N' scope C s₀ H₀ ex) c ifs1 p1) (hi2: ∀C s₀ H₀ ex,DIp (aP X N' scope C s₀ H₀ ex) c t2 i2 gi2)
 (hg2: ∀C s₀ H₀ ex,uW (aP X N' scope C s₀ H₀ ex) c t2 g2) (hp2: ∀C s₀ H₀ ex,vB (aP X N' scope C s₀ H₀ ex) c ifs2 p2) (he: ∀C s₀ H₀ ex,DP (aP X N' scope C s₀ H₀ ex) c .s elt f)
 (hk:scope.kind=.function:=by rfl) (hs:wl scope X.env.scope=true:=by kernel_rfl) (hn:wR X.N N' scope=true:=by kernel_rfl) (hm:N'.length-X.N.length=m:=by rfl) (hn1:X.N.length<=n1:=by exact Nat.le_of_ble_eq_true rfl) (hset: ∀x,foldedSetIterable i1 X.env x=pure x:=by intro _;rfl)
 (hset2: ∀C s₀ H₀ ex,∀x,foldedSetIterable i2 (aP X N' scope C s₀ H₀ ex).env x=pure x:=by intros;rfl):
 DP X c .n (.ListComp elt [⟨t1,i1,ifs1,0⟩,⟨t2,i2,ifs2,0⟩] scope pos) (vP m gi1 g1 p1 gi2 g2 p2 f):=by
 intro hid ρ aa s σ H Q I hq;obtain⟨sr,d,hd,q⟩:=hq;obtain⟨ds,ys,e1,hc,hz,rfl⟩:=vM hd;rw[eval_ListComp];refine wpAny_comprehension_free (use:=none) rfl hset (fW λx hx=>I.ok.has x (iI hs x hx)) hk (kR hs) ?_
 refine cq (hi hid ρ aa s σ H (λJ H'=>Same H H'/\De X.K H' (vw H' hid) J ds) I ⟨sr,ds,e1,λJ H' s1 io=>⟨s1,io⟩⟩) λv s1 h1=>cq h1 λitv s2 h2=>?_
 obtain⟨it,fp,tn,J,H2,rfl,I2,T,st2,f2,sm,io⟩:=h2;refine qA (RR:=λacc C=>compPost (model X.prog X.w) X.A X.xe none (EP X aa σ Q) acc C) hcalm hk hs hn hm hT1 hU1 hn1 hT2 hset2 hg1 hp1 hi2 hg2 hp2 he I2 (sr.ext sm) T st2 f2 io hz hc ?_
 intro D C s' H' xs hDge hCge hDC hD sm' hx rp ⟨mm,hns⟩ hC' hos hbare hok hun;refine⟨mm,hns,λh' hsb=>⟨.ref D,H',?_,rfl,q _ H' (sm.trans sm') ⟨D,xs,ys,rfl,rfl,sm.free hD,hx,rp⟩⟩⟩;have neC: ∀b o,s2.heap.get? b=some o->b≠C:=λb o e z=>by subst z;exact absurd (Heap.lt_size e) (Nat.not_lt.mpr hCge)
 have hun':Un (frs X.stack) fp H2 H' s2.heap h':=⟨λb o e n h1 h2=>(hsb.2 b (neC b o e)).trans (hun.keep b o e n h1 h2),λb o e n h1 h2=>let⟨sl,z⟩:=hun.slot b o e n h1 h2;⟨sl,(hsb.2 b (neC b o e)).trans z⟩,hun.free,λb o e h2=>let⟨o',z⟩:=hun.there b o e h2;⟨o',(hsb.2 b (neC b o e)).trans z⟩,hun.tups,hun.frzs,hun.tbls⟩
 have hok':HOk X.prog X.w H' h':=λb o e=>by
  have nb: ∀b' o',H' b'=some o'->b'≠C:=λb' o' e' z=>by subst z;rw[hC'] at e';cases e'
  refine(hok b o e).stay (λc' u hc' z=>(hsb.2 c' ?_).trans z) (λ_ z=>z) λ_ _ z=>z
  rcases hc' with z'|z'
  ·rw[z'];exact nb b o e
  ·exact nb c' _ z'
 exact I2.call' (s':={s' with heap:=h'}) (ch:=fp) hos hun' hok' hbare λb hb=>⟨(f2 b hb).2.2.2.1,(f2 b hb).2.1,(f2 b hb).2.2.2.2.1,(f2 b hb).2.2.2.2.2⟩
end
def qS(ds:List D)(lo hi:Option Int):List D:=(ds.drop (HT.sIx ds.length 0 lo)).take (HT.sIx ds.length ds.length hi-HT.sIx ds.length 0 lo)
theorem xK {K:W.Frag}{F:Hp}{xs:List V}{ds:List D}(r:Reps K F xs ds)(lo hi:Option Int):Reps K F (vp xs lo hi) (qS ds lo hi):=by
 unfold vp qS;rw[r.length];exact(r.drop _).take _
abbrev FO:=aG->Option (Option Int)
def E9(K:W.Frag)(c:Ct)(hid:bw)(f:FO)(ρ:aG):TO:=λσ H Q=>SR K c hid ρ σ H/\ ∃o,f ρ=some o/\ ∀H',Same H H'->Q o H'
def DO(X:Cx)(c:Ct)(e:Option Expr)(f:FO):Prop:= ∀hid ρ,PO X e (E9 X.K c hid f ρ)
theorem PO.imp {X:Cx}{e:Option Expr}{t t':TO}(h:PO X e t)(i: ∀σ H Q,t' σ H Q->t σ H Q):PO X e t':=λaa s σ H Q I q=>h aa s σ H Q I (i σ H Q q)
section
variable {X:Cx}{c:Ct}{e a b:Expr}{f g:FE}{k:Kd}{pos p2:Pos}{lo hi:Option Expr}{l u:FO}
def yy:FO:=λ_=>some none
def xW(f:FE):FO:=λρ=>(f ρ).bind λd=>match d with
 | .int i=>some (some i)
 |_=>none
theorem tL:DO X c none yy:=λhid ρ=>PO.imp zX λσ H Q ⟨sr,o,e,q⟩=>by cases e;exact q H (Same.refl _)
theorem tW(h:DP X c k e f):DO X c (some e) (xW f):=λhid ρ=>PO.imp (yO (h hid ρ)) λσ H Q hq_=>by
 obtain⟨sr,o,e,q⟩:=hq_;unfold xW at e;cases e1:f ρ with
 |none=>rw[e1] at e;cases e
 |some d=>
  rw[e1] at e;cases d with
  |int i=>
   cases e;refine⟨sr,_,e1,λv H' s r=>⟨i,?_,q H' s⟩⟩;exact(RK.b k r λa n=>sr.fresh n).int
  |_=>cases e
def mP(f:FE)(l u:FO):FE:=λρ=>(f ρ).bind λd=>match d with
 | .lst ds=>(l ρ).bind λlo=>(u ρ).map λhi=>.lst (qS ds lo hi)
 |_=>none
theorem wu(he:DP X c k e f)(hl:DO X c lo l)(hu:DO X c hi u):DP X c .n (.Subscript e (.Slice lo hi none p2) pos) (mP f l u):=λhid ρ=>
 PE.imp (wc yW (he hid ρ) (hl hid ρ) (hu hid ρ)) λσ H Q hq_=>by
  obtain⟨sr,d,hd,q⟩:=hq_;unfold mP at hd;cases e1:f ρ with
  |none=>rw[e1] at hd;cases hd
  |some z=>
   rw[e1] at hd;cases z with
   |lst ds=>
    have hd:((l ρ).bind λlo=>(u ρ).map λhi=>D.lst (qS ds lo hi))=some d:=hd;cases e2:l ρ with
    |none=>rw[e2] at hd;cases hd
    |some o1=>
     rw[e2] at hd;cases e3:u ρ with
     |none=>rw[e3] at hd;cases hd
     |some o2=>
      rw[e3] at hd;cases hd;refine⟨sr,_,e1,λv H1 s1 r1=>⟨sr.ext s1,o1,e2,λH2 s2=>⟨(sr.ext s1).ext s2,o2,e3,λH3 s3=>?_⟩⟩⟩;obtain⟨a,xs,rfl,h1,h2⟩:=((RK.b k r1 λa n=>sr.fresh n).ext (s2.trans s3)).lst;exact⟨a,xs,rfl,h1,λp hp=>q _ _ ((s1.trans (s2.trans s3)).trans (bq hp _)) (ka hp (s1.trans (s2.trans s3)) (xK h2 o1 o2))⟩
   |_=>cases hd
end
end L2
namespace PySem
open Sem (wp)
open AutoSeq1 (wpAny_loadPart')
end PySem
namespace L2
open PySem PySem.Spec PyProof.Rows
open PySem PySem.W PySem.Calls PyProof.Rows
def se(i:Nat)(g:FE):GE:=λρ=>match g ρ with
 |some (.lst zs)=>(match eI i ρ with
  |some bs=>if bs.length+zs.length<=sizeLine then some (.non,dI i (bs++zs) ρ) else none
  |none=>none)
 |_=>none
theorem vC {i:Nat}{g:FE}{ρ ρ':aG}{d:D}(h:se i g ρ=some (d,ρ')): ∃zs bs,g ρ=some (.lst zs)/\eI i ρ=some bs/\bs.length+zs.length<=sizeLine/\d=.non/\ρ'=dI i (bs++zs) ρ:=by
 unfold se at h;split at h
 ·split at h
  ·split at h
   ·cases h;exact⟨_,_, ‹_›, ‹_›, ‹_›,rfl,rfl⟩
   ·cases h
  ·cases h
 ·cases h
section
variable {X:Cx}{c:Ct}{e:Expr}{y:Str}{py apos pos:Pos}{g:FE}
theorem Ak(i:Nat)(he:DP X c .n e g)
 (hN:X.N[i]? =some y:=by rfl) (hv:nB X.env.scope y:=by first|exact Or.inl rfl|exact Or.inr (Or.inl rfl)|exact Or.inr (Or.inr rfl)) (hd:(y==("__debug__":Str))=false:=by decide) (hcd:(y==("__classdict__":Str))=false:=by decide)
 (hbase:attributeBase (.Name y py) "extend" X.env (eval (.Name y py) X.env)=eval (.Name y py) X.env:=by rfl)
 (hfew:((backTo pos (starEach [e] X.env)).all (λx=> !x.1)&&(backToKw pos (keywordEach [] X.env)).all (λx=>x.1.isSome)
   &&decide ([e].length+([]:List Keyword).length+(if([]:List Keyword).isEmpty then 0 else 1)<30))=true:=by rfl)
 (hline:(apos.endLine==pos.line)=true:=by rfl) (hs:starEach [e] X.env=(false,eval e X.env)::starEach [] X.env:=by rfl) (hplain:(backTo pos (starEach [] X.env)).any (·.1)=false:=by rfl):
 DE X c .s (.Call (.Attribute (.Name y py) "extend" apos) [e] [] pos) (se i g):=λhid ρ=>
 PE.imp (uw PySem.F.plainAttrs_list PySem.F.slot_list_extend PySem.F.type_list_extend vD (pv i hN hv hd hcd) (bV (he hid ρ) fu hs) hbase hfew hline hs hplain) λσ H Q hq_=>by
  obtain⟨sr,d,ρ',hd',q⟩:=hq_;obtain⟨zs,bs,e1,e2,e3,rfl,rfl⟩:=vC hd';obtain⟨a,xs0,a1,a2,a3,a4,a5⟩:=sr.held e2;refine⟨.ref a,a1,.inl ⟨rfl,_,SqL.of a2⟩,sr,_,e1,λv H1 s1 r1=>?_⟩;obtain⟨l,ws,ds',z,rfl,n1,n2,n3⟩:=r1;cases z;have rw1:Reps X.K (vw H1 hid) ws zs:=n3.mono (eZ λb w=>cY w);have rx1:Reps X.K (vw H1 hid) xs0 bs:=a4.mono (aM s1);refine⟨a,l,xs0,ws,rfl,rfl,s1 _ _ a2,n2,by rw[rx1.length,rw1.length];exact e3,?_⟩;have vv:vw (cb H1 a (.lst (xs0++ws))) hid=vw H1 hid:=eL a3;refine q .non _ ⟨λb o z hb=>?_,(sr.ext s1).put e2 a1 (λb o z hb=>by rw[aH hb];exact z) aN (by rw[vv];exact rx1.append rw1),.non⟩;rw[aH (λe=>by subst e;rw[a3] at hb;cases hb)];exact s1 _ _ z
end
def Dp {α:Type}(d:α)(n:Nat):Option α:=if n<=sizeLine then some d else none
def EN {α:Type}(d:α)(n:Nat):Option α:=if n<sizeLine then some d else none
theorem gL {α:Type}{d:α}{n:Nat}(h:n<=1000):Dp d n=some d:=if_pos (Nat.le_of_lt (kj h))
theorem vd {α:Type}{d:α}{n:Nat}(h:n<=1000):EN d n=some d:=if_pos (kj h)
theorem z8(fs:FA)(ρ:aG):bZ fs ρ=(fs ρ).bind λds=>Dp (.tup ds) ds.length:=rfl
theorem pi(fs:FA)(ρ:aG):aX fs ρ=(fs ρ).bind λds=>Dp (.lst ds) ds.length:=rfl
theorem wJ(m:Nat)(gi:FA)(g:FG)(p:FT)(f:FE)(ρ:aG):bL m gi g p f ρ=(gi ρ).bind λds=>(Dp () ds.length).bind λ_=>(cX g p f (ρ++List.replicate m .no) ds).map D.lst:=by
 unfold bL Dp;congr 1;funext ds;split<;>rfl
theorem zV(bs:List D)(d:D):iK bs [d]=EN (.non,bs++[d]) bs.length:=rfl
def Dh(ds:List D):Option (List D):=match ds with
 | [.int j]=>if j.natAbs<4000000000 then some (lD 0 j.toNat) else none
 |_=>none
theorem qa(f:FA)(ρ:aG):ji f ρ=(f ρ).bind Dh:=rfl
theorem qe {j:Int}(h:j.natAbs<=1000):Dh [.int j]=some (lD 0 j.toNat):=by
 show(if j.natAbs<4000000000 then some (lD 0 j.toNat) else none)=_;rw[if_pos (by omega)]
theorem aU(i j:Int):aO (.int i) (.int j)=some (.int (i+j)):=rfl
theorem bU(i j:Int):bD (.int i) (.int j)=some (.int (i-j)):=rfl
theorem lB(i j:Int):yv (.int i) (.int j)=some (.bl (decide (i<j))):=rfl
theorem uh(i j:Int):DK (.int i) (.int j)=some (.bl (decide (j<=i))):=rfl
theorem dX {i j:Int}(h:0<j):cO (.int i) (.int j)=some (.int (i % j)):=by
 unfold cO i2;dsimp only;rw[if_pos (by simpa using h)]
theorem sI {n:Nat}(h:n<10^200):n<2^1000:=Nat.lt_of_lt_of_le h (by decide)
theorem bR {i j:Int}(h1:i.natAbs<10^200)(h2:j.natAbs<10^200):be (.int i) (.int j)=some (.int (i*j)):=by
 unfold be i2;dsimp only;rw[if_pos (by rw[decide_eq_true (sI h1),decide_eq_true (sI h2)];rfl)]
theorem kF {i j:Int}(h1:0<j)(h2:j.natAbs<10^200):im (.int i) (.int j)=some (.int (i / j)):=by
 unfold im i2;dsimp only;rw[if_pos (by rw[decide_eq_true h1,decide_eq_true (sI h2)];rfl)]
theorem jD {i j:Int}(h0:0<=j)(h1:j<=1000000)(h2:i.natAbs<2^64):eC (.int i) (.int j)=some (.int (i^j.toNat)):=by
 unfold eC i2;dsimp only;rw[if_pos (by rw[decide_eq_true h0,decide_eq_true h1,decide_eq_true h2];rfl)]
theorem kK {x y:D}(h:eF x<=32):nZ x y=some (.bl (dN x y)):=if_pos h
theorem j6 {x y:D}(h:eF x<=32):jf x y=some (.bl (!dN x y)):=if_pos h
theorem fC(i j:Int):dN (.int i) (.int j)=decide (i=j):=by
 unfold dN;rw[Bool.eq_iff_iff];simp
theorem db(i:Int):eF (.int i)=0:=by unfold eF;rfl
structure Bag(N:Nat)(a b:Int):Prop where
 a0:0<=a
 a1:a.natAbs<10^180
 b0:0<=b
 b1:b<=N
 lo:b≠0->a.natAbs<2147483647
abbrev aS(a b:Int):List D:=[.int a,.int b]
def o9:FS:=
 aJ (fI (bH (ao yv (ai 1) (aA j9 (ae (ai 0) (ag))))) (aV (ao aW (ai 0) (ai 1))) (skip))
 (aV (am (.int 0)))
def gl:List D->Option D:=j2 .s 2 o9
def xq:FS:=
 aJ (bK 2 (ao cO (aA qI (ae (aA (nF 2 gl) (ae (ai 0) (ae (ai 1) (ag)))) (ag))) (ao be (ao be (ao eC (am (.int 10)) (am (.int 60))) (ao eC (am (.int 10)) (am (.int 60)))) (ao eC (am (.int 10)) (am (.int 60))))))
 (aJ (fI (bH (ao DK (ai 2) (ao eC (am (.int 10)) (am (.int 18))))) (aV (aX (ae (ai 2) (ae (am (.int 0)) (ag))))) (skip))
 (aJ (bK 3 (ao cO (ao aO (ao aO (ai 2) (ao be (am (.int 7919)) (ai 1))) (am (.int 17))) (am (.int 2147483647))))
 (aJ (fE (bi (ji (ae (aA mz (ae (aA j9 (ae (ai 0) (ag))) (ae (am (.int 9)) (ag)))) (ag)))) (gN 4) (bK 3 (ao cO (ao aO (ao aO (ao eC (ai 3) (am (.int 5))) (ao cO (ao aW (ai 0) (ai 4)) (am (.int 2147483629)))) (ao be (am (.int 31)) (ai 4))) (am (.int 2147483647)))))
 (aV (aX (ae (ai 3) (ae (am (.int 1)) (ag))))))))
def xo:List D->Option D:=j2 .n 5 xq
def oh:FS:=
 aJ (fI (bH (ao nZ (ao aW (iz 0) (am (.int 1))) (am (.int 0)))) (aJ (bK 2 (ao cO (ao aW (iz 0) (am (.int 0))) (ai 1)))
 (aJ (fq (iL 0 (am (.int 0))) (pu (ao im (ao aW (iz 0) (am (.int 0))) (ai 1))))
 (aV (ai 2)))) (skip))
 (aJ (fq (iL 0 (am (.int 0))) (pu (ao cO (ao aO (ao aO (ao eC (ao aW (iz 0) (am (.int 0))) (am (.int 5))) (ao be (am (.int 48271)) (ao aW (iz 0) (am (.int 1))))) (am (.int 11))) (am (.int 2147483647)))))
 (aJ (fq (iL 0 (am (.int 1))) (pu (ao aO (ao aW (iz 0) (am (.int 1))) (am (.int 1)))))
 (aV (ao cO (ao im (ao cO (ao be (ao aW (iz 0) (am (.int 0))) (am (.int 69621))) (am (.int 2147483629))) (am (.int 8))) (ai 1)))))
def oR:List D->List D->Option (D×List D):=v9 .s 3 oh
theorem eU {i m:Int}(h:0<m):0<=i % m/\i % m<m:=⟨Int.emod_nonneg _ (by omega),Int.emod_lt_of_pos _ h⟩
theorem zk {N:Nat}{a b m:Int}(B:Bag N a b)(hN:N<=1000000000)(hm:0<m)(hm2:m.natAbs<10^20): ∃d a' b',oR (aS a b) [.int m]=some (.int d,aS a' b')/\Bag (N+1) a' b'/\0<=d/\d<m:=by
 have hm3:m.natAbs<10^200:=Nat.lt_of_lt_of_le hm2 (by decide)
 by_cases hb:b=0
 ·subst hb;refine⟨a % m,a / m,0,?_,⟨Int.ediv_nonneg B.a0 (by omega),?_,by omega,by omega,λz=>absurd rfl z⟩,eU hm⟩
  ·simp[oR,v9,oh,js,aS,aJ,fI,bH,ao,aW,iz,ai,am,kK,fC,db,zD,oO,uN,bK,dX hm,fq,pu,kF hm hm3,iL,eI,dI,B0,aV,m9]
  ·have h1:=B.a1;have:a / m<=a:=Int.ediv_le_self _ B.a0;have:0<=a / m:=Int.ediv_nonneg B.a0 (by omega);omega
 ·have lo:=B.lo hb;have p1:a.natAbs<2^64:=Nat.lt_trans lo (by decide);have p2:b.natAbs<10^200:=Nat.lt_of_lt_of_le (show b.natAbs<10^10 by have:=B.b1;have:=B.b0;omega) (by decide);generalize hA:(a^5+48271*b+11) % 2147483647=A;have hA':0<=A/\A<2147483647:=by rw[<-hA];exact eU (by decide)
  have p3:A.natAbs<10^200:=Nat.lt_of_lt_of_le (show A.natAbs<10^10 by omega) (by decide);refine⟨A*69621 % 2147483629 / 8 % m,A,b+1,?_,⟨hA'.1,?_,by have:=B.b0;omega,by have:=B.b1;omega,λ_=>by omega⟩,eU hm⟩
  ·have c1:(48271:Int).natAbs<10^200:=Nat.lt_of_lt_of_le (show(48271:Int).natAbs<10^10 by decide) (by decide);have c2:(69621:Int).natAbs<10^200:=Nat.lt_of_lt_of_le (show(69621:Int).natAbs<10^10 by decide) (by decide);have c3:(8:Int).natAbs<10^200:=Nat.lt_of_lt_of_le (show(8:Int).natAbs<10^10 by decide) (by decide);have e1:eC (.int a) (.int 5)=some (.int (a^5)):=jD (by decide) (by decide) p1;have e2:be (.int 48271) (.int b)=some (.int (48271*b)):=bR c1 p2;have e3: ∀i:Int,cO (.int i) (.int 2147483647)=some (.int (i % 2147483647)):=λi=>dX (by decide)
   have e4: ∀i:Int,cO (.int i) (.int 2147483629)=some (.int (i % 2147483629)):=λi=>dX (by decide)
   have e5:be (.int A) (.int 69621)=some (.int (A*69621)):=bR p3 c2;have e6: ∀i:Int,im (.int i) (.int 8)=some (.int (i / 8)):=λi=>kF (by decide) c3
   simp[oR,v9,oh,js,aS,aJ,fI,bH,ao,aW,iz,ai,am,kK,fC,db,zD,oO,uN,hb,skip,e1,e2,e3,e4,aU,fq,pu,iL,eI,dI,B0,aV,m9,hA,e5,e6,dX hm]
  ·exact Nat.lt_of_lt_of_le (show A.natAbs<10^10 by omega) (by decide)
theorem aE {t u:FS}{ρ ρ':aG}(h:t ρ=.nx ρ'):aJ t u ρ=u ρ':=by unfold aJ;rw[h]
theorem oG {t u:FS}{ρ ρ':aG}{d:D}(h:t ρ=.rt d ρ'):aJ t u ρ=.rt d ρ':=by unfold aJ;rw[h]
abbrev nI(i:Nat):D:=.int (i:Int)
abbrev lG(ns:List Int):D:=.scr (ns.map D.int)
theorem AK(n:Nat):lD 0 n=(List.range n).map nI:=by
 unfold lD;simp
theorem lq {n j:Nat}(h:j<n):uN n (j:Int)=some j:=by
 unfold uN;rw[if_pos (by omega),if_pos (by omega)];simp
theorem yL(ns:List Int)(k:Nat): ∃c,gl [lG ns,nI k]=some (.int c):=by
 by_cases h:k<ns.length
 ·refine⟨ns[k],?_⟩;simp[gl,j2,o9,cS,aJ,fI,bH,ao,ai,aA,ae,ag,j9,lB,zD,h,aV,aW,oO,lq (show k<(ns.map D.int).length by simpa using h)];simp[lq h,h]
 ·refine⟨0,?_⟩;simp[gl,j2,o9,cS,aJ,fI,bH,ao,ai,aA,ae,ag,j9,lB,zD,h,aV,skip,am]
theorem pY(ns:List Int)(k:D)(c:D): ∀(l:List Nat),(∀i∈l,i<ns.length/\i<1000)-> ∀(x:Int) (s4:Sl),0<=x->x<2147483647-> ∃(x':Int) (s4':Sl),0<=x'/\x'<2147483647/\
 eN (gN 4) (bK 3 (ao cO (ao aO (ao aO (ao eC (ai 3) (am (.int 5))) (ao cO (ao aW (ai 0) (ai 4)) (am (.int 2147483629)))) (ao be (am (.int 31)) (ai 4))) (am (.int 2147483647)))) (l.map nI) [.v (lG ns),.v k,.v c,.v (.int x),s4]=.nx [.v (lG ns),.v k,.v c,.v (.int x'),s4']
 | [],_,x,s4,h1,h2=>⟨x,s4,h1,h2,rfl⟩
 |i::l,hl,x,s4,h1,h2=>by
  obtain⟨hi,hi2⟩:=hl i (by simp);have e1:eC (.int x) (.int 5)=some (.int (x^5)):=jD (by decide) (by decide) (Nat.lt_of_lt_of_le (show x.natAbs<10^10 by omega) (by decide));have e2:be (.int 31) (nI i)=some (.int (31*i)):=bR (Nat.lt_of_lt_of_le (show(31:Int).natAbs<10^10 by decide) (by decide)) (Nat.lt_of_lt_of_le (show(i:Int).natAbs<10^10 by omega) (by decide));have e3: ∀i:Int,cO (.int i) (.int 2147483647)=some (.int (i % 2147483647)):=λi=>dX (by decide)
  have e4: ∀i:Int,cO (.int i) (.int 2147483629)=some (.int (i % 2147483629)):=λi=>dX (by decide)
  obtain⟨y1,y2⟩:=eU (i:=x^5+ns[i] % 2147483629+31*i) (m:=2147483647) (by decide);obtain⟨x',s4',g1,g2,g3⟩:=pY ns k c l (λj hj=>hl j (by simp[hj])) _ (.v (nI i)) y1 y2;refine⟨x',s4',g1,g2,?_⟩;rw[<-g3];simp[eN,gN,bK,ao,ai,am,e1,e2,e3,e4,aW,oO,lq (show i<(ns.map D.int).length by simpa using hi),lq hi,hi,aU]
theorem BU(ns:List Int)(k:Nat)(hk:k<=1000)(hn:ns.length<=63): ∃a b,xo [lG ns,nI k]=some (.lst (aS a b))/\Bag 1 a b:=by
 obtain⟨c,hc⟩:=yL ns k;have p1:eC (.int 10) (.int 60)=some (.int (10^60)):=jD (by decide) (by decide) (by decide);have p2:eC (.int 10) (.int 18)=some (.int (10^18)):=jD (by decide) (by decide) (by decide);have q60:((10:Int)^60).natAbs<10^200:=by decide
 have q120:((10:Int)^60*10^60).natAbs<10^200:=by decide
 have m1:be (.int (10^60)) (.int (10^60))=some (.int (10^60*10^60)):=bR q60 q60;have m2:be (.int (10^60*10^60)) (.int (10^60))=some (.int (10^60*10^60*10^60)):=bR q120 q60;have m3:be (.int 7919) (nI k)=some (.int (7919*k)):=bR (Nat.lt_of_lt_of_le (show(7919:Int).natAbs<10^10 by decide) (by decide)) (Nat.lt_of_lt_of_le (show(k:Int).natAbs<10^10 by omega) (by decide));generalize hA:(if c<0 then -c else c) % (10^60*10^60*10^60)=A;have hA':0<=A/\A<10^60*10^60*10^60:=by rw[<-hA];exact eU (by decide)
 have s1:bK 2 (ao cO (aA qI (ae (aA (nF 2 gl) (ae (ai 0) (ae (ai 1) (ag)))) (ag))) (ao be (ao be (ao eC (am (.int 10)) (am (.int 60))) (ao eC (am (.int 10)) (am (.int 60)))) (ao eC (am (.int 10)) (am (.int 60))))) [.v (lG ns),.v (nI k),.no,.no,.no]=.nx [.v (lG ns),.v (nI k),.v (.int A),.no,.no]:=by
  have m4: ∀i:Int,cO (.int i) (.int (10^60*10^60*10^60))=some (.int (i % (10^60*10^60*10^60))):=λi=>dX (by decide)
  unfold bK;have:ao cO (aA qI (ae (aA (nF 2 gl) (ae (ai 0) (ae (ai 1) (ag)))) (ag))) (ao be (ao be (ao eC (am (.int 10)) (am (.int 60))) (ao eC (am (.int 10)) (am (.int 60)))) (ao eC (am (.int 10)) (am (.int 60)))) [.v (lG ns),.v (nI k),.no,.no,.no]=some (.int A):=by
   have ec:aA (nF 2 gl) (ae (ai 0) (ae (ai 1) ag)) [.v (lG ns),.v (nI k),.no,.no,.no]=some (.int c):=hc;simp only[ao,aA,ae,ag,am,Option.bind_some,p1,m1,m2,qI];have ec':((ai 0 [.v (lG ns),.v (nI k),.no,.no,.no]).bind λd=>((ai 1 [.v (lG ns),.v (nI k),.no,.no,.no]).bind λd=>(some []).map λr=>d::r).map λr=>d::r).bind (nF 2 gl)=some (.int c):=hc;rw[ec'];simp only[Option.bind_some,Option.map_some,m4,qI,hA]
  rw[this];rfl
 have r0:cS 5 [lG ns,nI k]=[.v (lG ns),.v (nI k),.no,.no,.no]:=rfl;unfold xo j2 xq;rw[r0,aE s1];have hA180:A.natAbs<10^180:=by
  have:(10:Int)^60*10^60*10^60=((10^180:Nat):Int):=by decide
  rw[this] at hA';omega
 by_cases hb:(10:Int)^18<=A
 ·refine⟨A,0,?_,⟨hA'.1,hA180,by decide,by decide,λz=>absurd rfl z⟩⟩;simp only[aJ,fI,bH,ao,ai,List.getElem?_cons_succ,List.getElem?_cons_zero,Option.bind_some,am,p2,uh,zD,decide_eq_true hb,aV,pi,ae,ag,Option.map_some];rw[gL (by simp)]
 ·generalize hx:(A+7919*(k:Int)+17) % 2147483647=x;have hx':0<=x/\x<2147483647:=by rw[<-hx];exact eU (by decide)
  have m4:cO (.int (A+7919*(k:Int)+17)) (.int 2147483647)=some (.int x):=by rw[dX (by decide),hx]
  have hr:ji (ae (aA mz (ae (aA j9 (ae (ai 0) (ag))) (ae (am (.int 9)) (ag)))) (ag)) [.v (lG ns),.v (nI k),.v (.int A),.v (.int x),.no]=some ((List.range (min ns.length 9)).map nI):=by
   rw[qa];simp only[aA,ae,ag,ai,am,List.getElem?_cons_zero,Option.bind_some,Option.map_some,j9,mz,List.length_map];have:(if(9:Int)<(ns.length:Int) then(9:Int) else(ns.length:Int))=((min ns.length 9:Nat):Int):=by split<;>omega
   rw[this,qe (by omega),AK,Int.toNat_natCast]
  obtain⟨x',s4',g1,g2,g3⟩:=pY ns (nI k) (.int A) (List.range (min ns.length 9)) (λi hi=>by have:=List.mem_range.mp hi;omega) x .no hx'.1 hx'.2;refine⟨x',1,?_,⟨g1,Nat.lt_of_lt_of_le (show x'.natAbs<10^10 by omega) (by decide),by decide,by decide,λ_=>by omega⟩⟩;have f1:fE (bi (ji (ae (aA mz (ae (aA j9 (ae (ai 0) (ag))) (ae (am (.int 9)) (ag)))) (ag)))) (gN 4) (bK 3 (ao cO (ao aO (ao aO (ao eC (ai 3) (am (.int 5))) (ao cO (ao aW (ai 0) (ai 4)) (am (.int 2147483629)))) (ao be (am (.int 31)) (ai 4))) (am (.int 2147483647)))) [.v (lG ns),.v (nI k),.v (.int A),.v (.int x),.no]=.nx [.v (lG ns),.v (nI k),.v (.int A),.v (.int x'),s4']:=by
   unfold fE bi;rw[hr];exact g3
  have i1:fI (bH (ao DK (ai 2) (ao eC (am (.int 10)) (am (.int 18))))) (aV (aX (ae (ai 2) (ae (am (.int 0)) (ag))))) (skip) [.v (lG ns),.v (nI k),.v (.int A),.no,.no]=.nx [.v (lG ns),.v (nI k),.v (.int A),.no,.no]:=by
   simp only[fI,bH,ao,ai,List.getElem?_cons_succ,List.getElem?_cons_zero,Option.bind_some,am,p2,uh,zD,decide_eq_false hb,skip]
  have i2:bK 3 (ao cO (ao aO (ao aO (ai 2) (ao be (am (.int 7919)) (ai 1))) (am (.int 17))) (am (.int 2147483647))) [.v (lG ns),.v (nI k),.v (.int A),.no,.no]=.nx [.v (lG ns),.v (nI k),.v (.int A),.v (.int x),.no]:=by
   simp only[bK,ao,ai,List.getElem?_cons_succ,List.getElem?_cons_zero,Option.bind_some,am,m3,aU,m4,List.set_cons_succ,List.set_cons_zero]
  rw[aE i1,aE i2,aE f1];simp only[aV,pi,ae,ag,ai,am,List.getElem?_cons_succ,List.getElem?_cons_zero,Option.bind_some,Option.map_some];rw[gL (by simp)]
theorem gg {i n:Nat}{M:List D->List D->Option (D×List D)}{fs:GA}{ρ ρ1:aG}{b0 bs ds bs':List D}{d:D}(h0:eI i ρ=some b0)(h1:fs ρ=some (ds,ρ1))(h2:eI i ρ1=some bs)(h3:ds.length=n)(h4:M bs ds=some (d,bs')):aF i n M fs ρ=some (d,dI i bs' ρ1):=by
 unfold aF;rw[h0];dsimp only;rw[h1];dsimp only;rw[h2];dsimp only;rw[if_pos h3,h4]
theorem bG {f:GE}{fs:GA}{ρ ρ1 ρ2:aG}{d:D}{ds:List D}(h1:f ρ=some (d,ρ1))(h2:fs ρ1=some (ds,ρ2)):bb f fs ρ=some (d::ds,ρ2):=by
 unfold bb bE;rw[h1];dsimp only[Option.bind];rw[h2];rfl
theorem dS {f:FA}{ρ:aG}{ds:List D}(h:f ρ=some ds):bi f ρ=some (ds,ρ):=by unfold bi;rw[h];rfl
theorem dm {f:FE}{ρ:aG}{d:D}(h:f ρ=some d):pu f ρ=some (d,ρ):=by unfold pu;rw[h];rfl
theorem az {F:D->D->Option D}{f g:FE}{ρ:aG}{x y:D}(h1:f ρ=some x)(h2:g ρ=some y):ao F f g ρ=F x y:=by unfold ao;rw[h1,Option.bind_some,h2,Option.bind_some]
theorem cg {F:D->D->Option D}{f g:GE}{ρ ρ1 ρ2:aG}{x y d:D}(h1:f ρ=some (x,ρ1))(h2:g ρ1=some (y,ρ2))(h3:F x y=some d):bu F f g ρ=some (d,ρ2):=by
 unfold bu bE;rw[h1];dsimp only[Option.bind];rw[h2];dsimp only[Option.bind];rw[h3];rfl
theorem fD {i:Nat}{f:FE}{ρ:aG}{d:D}(h:f ρ=some d):bK i f ρ=.nx (ρ.set i (.v d)):=by unfold bK;rw[h]
theorem cQ {i:Nat}{f:GE}{ρ ρ1:aG}{d:D}(h:f ρ=some (d,ρ1)):dc i f ρ=.nx (ρ1.set i (.v d)):=by unfold dc;rw[h]
theorem yF {i:Nat}{f:GE}{ρ ρ1:aG}{ds:List D}(h:f ρ=some (.lst ds,ρ1)):vo i f ρ=.nx (ρ1.set i (.own ds)):=by unfold vo;rw[h];rfl
theorem gX {i:Nat}{f:FE}{ρ:aG}{ds:List D}(h:f ρ=some (.lst ds)):fG i f ρ=.nx (ρ.set i (.own ds)):=by unfold fG;rw[h];rfl
theorem cv {f:FA}{ρ:aG}{ds:List D}(h:f ρ=some ds)(h2:ds.length<=1000):bZ f ρ=some (.tup ds):=by
 rw[z8,h,Option.bind_some,gL h2]
theorem bW {f:FA}{ρ:aG}{ds:List D}(h:f ρ=some ds)(h2:ds.length<=1000):aX f ρ=some (.lst ds):=by
 rw[pi,h,Option.bind_some,gL h2]
theorem ay {f:FE}{fs:FA}{ρ:aG}{d:D}{ds:List D}(h1:f ρ=some d)(h2:fs ρ=some ds):ae f fs ρ=some (d::ds):=by unfold ae;rw[h1,h2];rfl
theorem gG {F:List D->Option D}{f:FA}{ρ:aG}{ds:List D}(h:f ρ=some ds):aA F f ρ=F ds:=by unfold aA;rw[h];rfl
theorem dO {α:Type}{g:FG}{f:FE}{ρ0:aG}{h o:α->D}: ∀(l:List α),(∀i∈l,∃ρ1,g (h i) ρ0=some ρ1/\f ρ1=some (o i))->cX g dP f ρ0 (l.map h)=some (l.map o)
 | [],_=>rfl
 |a::l,H=>by
  obtain⟨ρ1,h1,h2⟩:=H a (by simp);have ih:=dO l λi hi=>H i (by simp[hi])
  rw[List.map_cons];unfold cX;rw[h1,Option.bind_some];simp only[dP,Option.bind_some,if_true,h2,ih];rfl
theorem fj {m:Nat}{gi:FA}{g:FG}{p:FT}{f:FE}{ρ:aG}{ds ys:List D}(h1:gi ρ=some ds)(h2:ds.length<=1000)(h3:cX g p f (ρ++List.replicate m .no) ds=some ys):bL m gi g p f ρ=some (.lst ys):=by
 rw[wJ,h1,Option.bind_some,gL h2,Option.bind_some,h3];rfl
theorem mS {f:FA}{ρ:aG}{n:Nat}(h:f ρ=some [nI n])(hn:n<=1000):ji f ρ=some ((List.range n).map nI):=by
 rw[qa,h,Option.bind_some,qe (by omega),AK];rfl
theorem AL {n:Nat}{P:List D->Option D}{ds:List D}(h:ds.length=n):nF n P ds=P ds:=if_pos h
theorem mj {g:FG}{f:GE}{ρ ρ1 ρ2:aG}{d:D}(h1:f ρ=some (d,ρ1))(h2:g d ρ1=some ρ2):fq g f ρ=.nx ρ2:=by unfold fq;rw[h1];dsimp only;rw[h2];rfl
theorem fx {n:Nat}{P:List D->Option D}{fs:FA}{ρ:aG}{ds:List D}(h:fs ρ=some ds)(hl:ds.length=n):aA (nF n P) fs ρ=P ds:=(gG h).trans (AL hl)
theorem wo {F:List D->Option D}{fs:GA}{ρ ρ1:aG}{ds:List D}{d:D}(h:fs ρ=some (ds,ρ1))(h2:F ds=some d):kU F fs ρ=some (d,ρ1):=by unfold kU;rw[h];dsimp only[Option.bind];rw[h2];rfl
theorem A9 {n:Nat}{P:List D->Option D}{fs:GA}{ρ ρ1:aG}{ds:List D}{d:D}(h:fs ρ=some (ds,ρ1))(hl:ds.length=n)(h2:P ds=some d):kU (nF n P) fs ρ=some (d,ρ1):=wo h ((AL hl).trans h2)
theorem pj {kd:Kd}{n:Nat}{t:FS}{ds:List D}{ρ:aG}{d:D}(h:t (cS n ds)=.rt d ρ):j2 kd n t ds=some d:=by unfold j2;rw[h]
theorem cx {f:FE}{ρ:aG}{d:D}(h:f ρ=some d):aV f ρ=.rt d ρ:=by unfold aV;rw[h]
theorem ug: ∀bs:List Bool,jy (bs.map D.bl)=some bs
 | []=>rfl
 |b::r=>by show(jy (r.map D.bl)).map (b:: ·)=_;rw[ug r];rfl
theorem uy(bs:List Bool):tH [.lst (bs.map D.bl)]=some (.bl (bs.all id)):=by
 show(jy (bs.map D.bl)).map (λbs=>D.bl (bs.all id))=_;rw[ug];rfl
theorem wE {p:FT}{t u:FS}{ρ:aG}(h:p ρ=some false):fI p t u ρ=u ρ:=by unfold fI;rw[h]
theorem kX {p:FT}{t u:FS}{ρ:aG}(h:p ρ=some true):fI p t u ρ=t ρ:=by unfold fI;rw[h]
theorem Bq {p q:FT}{ρ:aG}{b:Bool}(h1:p ρ=some false)(h2:q ρ=some b):lj p q ρ=some b:=by unfold lj;rw[h1];exact h2
theorem Dy {p q:FT}{ρ:aG}(h1:p ρ=some true):lj p q ρ=some true:=by unfold lj;rw[h1];rfl
theorem yz {p q:FT}{ρ:aG}{b:Bool}(h1:p ρ=some true)(h2:q ρ=some b):jL p q ρ=some b:=by unfold jL;rw[h1];exact h2
theorem sD {p:FT}{ρ:aG}{b:Bool}(h:p ρ=some b):tz p ρ=some (.bl b):=by unfold tz;rw[h];rfl
theorem p7 {f:GE}{ρ ρ1:aG}{d:D}(h:f ρ=some (d,ρ1)):de f ρ=.nx ρ1:=by unfold de;rw[h]
theorem cC {f:FE}{ρ:aG}{b:Bool}(h:f ρ=some (.bl b)):bH f ρ=some b:=by unfold bH;rw[h];rfl
theorem ke {f:FE}{ρ:aG}{b:Bool}(h:f ρ=some (.bl b)):eJ f ρ=some b:=by unfold eJ;rw[h];rfl
theorem iO {p:FT}{ρ:aG}{b:Bool}(h:p ρ=some b):eD p ρ=some (!b):=by unfold eD;rw[h];rfl
theorem j0 {x:D}(h:eF x<=32):jf x x=some (.bl false):=by rw[j6 h,me];rfl
theorem eV {g:FG}{b:FS}{d:D}{r:List D}{ρ ρ1 ρ2:aG}(h1:g d ρ=some ρ1)(h2:b ρ1=.nx ρ2):eN g b (d::r) ρ=eN g b r ρ2:=by
 show(match g d ρ with
  |none=>Out.no
  |some ρ1=>match b ρ1 with
   | .nx ρ2=>eN g b r ρ2
   | .ct ρ2=>eN g b r ρ2
   | .bk ρ2=>.nx ρ2
   | .rt d ρ2=>.rt d ρ2
   | .no=>.no)=_
 rw[h1];dsimp only;rw[h2]
theorem ic {f:GA}{g:FG}{b:FS}{ρ ρ1:aG}{ds:List D}(h:f ρ=some (ds,ρ1)):fE f g b ρ=eN g b ds ρ1:=by unfold fE;rw[h]
theorem fX {kd:Kd}{n:Nat}{t:FS}{ds:List D}{d:D}(h: ∃ρ,t (cS n ds)=.rt d ρ):j2 kd n t ds=some d:=let⟨_,h⟩:=h;pj h
theorem oi {t u:FS}{ρ:aG}{d:D}(P:aG->Prop)(h: ∃ρ',t ρ=.nx ρ'/\P ρ')(hu: ∀ρ',P ρ'-> ∃ρ'',u ρ'=.rt d ρ''): ∃ρ'',aJ t u ρ=.rt d ρ'':=by
 obtain⟨ρ',h1,h2⟩:=h;obtain⟨ρ'',h3⟩:=hu ρ' h2;exact⟨ρ'',(aE h1).trans h3⟩
theorem lu {f:GA}{g:FG}{b:FS}{ρ ρ1:aG}{ds:List D}{P:aG->Prop}(h:f ρ=some (ds,ρ1))(hl: ∃ρ',eN g b ds ρ1=.nx ρ'/\P ρ'): ∃ρ',fE f g b ρ=.nx ρ'/\P ρ':=by
 obtain⟨ρ',h1,h2⟩:=hl;exact⟨ρ',(ic h).trans h1,h2⟩
theorem lC {g:FG}{b:FS}{P:aG->Prop}: ∀(l:List D),(∀d∈l,∀ρ,P ρ-> ∃ρ1 ρ2,g d ρ=some ρ1/\b ρ1=.nx ρ2/\P ρ2)-> ∀ρ,P ρ-> ∃ρ',eN g b l ρ=.nx ρ'/\P ρ'
 | [],_,ρ,p=>⟨ρ,rfl,p⟩
 |d::l,h,ρ,p=>by
  obtain⟨ρ1,ρ2,h1,h2,p2⟩:=h d (by simp) ρ p;obtain⟨ρ',e,p'⟩:=lC l (λd' hd=>h d' (by simp[hd])) ρ2 p2;exact⟨ρ',(eV h1 h2).trans e,p'⟩
theorem ph {i:Nat}{fs:GA}{ρ ρ1:aG}{b0 bs:List D}{d:D}(h0:eI i ρ=some b0)(h1:fs ρ=some ([d],ρ1))(h2:eI i ρ1=some bs)(h3:bs.length<=900):de (aF i 1 iK fs) ρ=.nx (dI i (bs++[d]) ρ1):=
 p7 (gg h0 h1 h2 rfl (by rw[zV,vd (by omega)]))
theorem nN {α:Type}{g:FG}{p:FT}{f:FE}{ρ0:aG}{h o:α->D}{q:α->Bool}: ∀(l:List α),(∀i∈l,∃ρ1,g (h i) ρ0=some ρ1/\p ρ1=some (q i)/\(q i=true->f ρ1=some (o i)))->cX g p f ρ0 (l.map h)=some ((l.filter q).map o)
 | [],_=>rfl
 |a::l,H=>by
  obtain⟨ρ1,h1,h2,h3⟩:=H a (by simp);have ih:=nN l λi hi=>H i (by simp[hi])
  rw[List.map_cons];unfold cX;rw[h1,Option.bind_some,h2,Option.bind_some];cases e:q a with
  |true=>rw[if_pos rfl,h3 e,Option.bind_some,ih];simp[e]
  |false=>rw[if_neg (by simp),ih];simp[e]
theorem po {α:Type}{g:FG}{p:FT}{A:FA}{ρ0:aG}{h:α->D}{q:α->Bool}{o:α->List D}: ∀(l:List α),(∀i∈l,∃ρ1,g (h i) ρ0=some ρ1/\p ρ1=some (q i)/\(q i=true->A ρ1=some (o i)))->mJ g p A ρ0 (l.map h)=some ((l.filter q).flatMap o)
 | [],_=>rfl
 |a::l,H=>by
  obtain⟨ρ1,h1,h2,h3⟩:=H a (by simp);have ih:=po l λi hi=>H i (by simp[hi])
  rw[List.map_cons];unfold mJ;rw[h1,Option.bind_some,h2,Option.bind_some];cases e:q a with
  |true=>rw[if_pos rfl,h3 e,Option.bind_some,ih];simp[e]
  |false=>rw[if_neg (by simp),ih];simp[e]
theorem zG {f:FE}{ρ:aG}{d:D}(h:f ρ=some d):qw f ρ=some [d]:=by unfold qw;rw[h];rfl
theorem Bx {gi:FA}{g:FG}{p:FT}{f:FE}{ρ:aG}{ds ys:List D}(h1:gi ρ=some ds)(h2:mJ g p (qw f) ρ ds=some ys):xl gi g p f ρ=some ys:=by
 unfold xl;rw[h1,Option.bind_some,h2]
open PySem PySem.W PySem.Spec PyProof.Rows
theorem Inv.turnedL {X:Cx}{aa:List (Addr×Obj)}{σ:St}{H:Hp}{s:Shared}{h':Heap}{t':Nat}(L:List Addr)(I:Inv X aa σ H s)(hf: ∀b∈L,iA X aa H b)(k: ∀b o,b∉L->s.heap.get? b=some o->h'.get? b=some o):Inv X aa σ H {s with heap:=h',toks:=t'}:=by
 have nit: ∀b u,H b=some u->b∉L:=λb u e z=>by rw[(hf b z).1] at e;cases e
 have hL:X.env.locals∉L:=λz=>(hf _ z).2.1 rfl
 refine I.step (g':=s.gens) (d':=s.drawn) (ch:=L) (λb hb=>?_) (λb o _ _ hc e _=>k b o hc e) (λb o _ _ hc e _=>⟨o.slots,k b o hc e⟩) (λ_ _ _ _ n=>n)
  (λb o hc e=>⟨o,k b o hc e⟩) (λ_ _ e=>e) (λ_ _ _ e=>e) (λb ps e=>⟨#[],by rw[e];simp⟩) (λm hm=>?_) (λb u e=>?_) I.bare
 ·obtain⟨f0,f1,f2,f3,f4,f5⟩:=hf b hb;exact⟨f3,f1,f4,f5⟩
 ·obtain⟨o,es,ep,ho,r⟩:=hm;exact⟨o,es,ep,k _ o hL ho,r⟩
 ·refine(I.hok b u e).stay (λc v hc q=>k c v ?_ q) (λ_ q=>q) λ_ _ q=>q
  rcases hc with z|z
  ·rw[z];exact nit b u e
  ·exact nit c _ z
def E3(K:W.Frag)(a b:Addr):It:=
 ⟨λi H=> ∃xs ys x y,SqL K H a xs/\SqL K H b ys/\xs[i]? =some x/\ys[i]? =some y,λi H x H'=> ∃T,x=.ref T/\H T=none/\ ∀xs ys,SqL K H a xs->SqL K H b ys-> ∃y z,xs[i]? =some y/\ys[i]? =some z/\H'=cb H T (.tup [y,z]),λi H=> ∃xs ys,SqL K H a xs/\SqL K H b ys/\(xs.length<=i\/ys.length<=i)⟩
theorem xc {P:Program}{w:World}{K:W.Frag}{es:List Expr}{x1}{pos:Pos}(a b z TI TO i1 i2:Addr)(AP:ZipApart z TI TO i1 i2 a b):Turn P w K (.Tuple es x1 pos) (E3 K a b) [z,TI,TO,i1,i2] z (λi h=>IsZip h z TI TO .none/\IsPair h TI (.ref i1) (.ref i2)/\(∃p q,IsPair h TO p q)/\h.IsListIter i1 a i/\h.IsListIter i2 b i) where
 mem:=by simp
 obj:=λi h st c hc=>by
  obtain⟨hz,hTI,⟨p,q,hTO⟩,⟨o1,ho1,_,hd1⟩,⟨o2,ho2,_,hd2⟩⟩:=st;simp only[List.mem_cons,List.not_mem_nil,or_false] at hc;rcases hc with rfl|rfl|rfl|rfl|rfl
  ·exact⟨_,hz,λv e=>by cases e⟩
  ·exact⟨_,hTI,λv e=>by cases e⟩
  ·exact⟨_,hTO,λv e=>by cases e⟩
  ·exact⟨_,ho1,λv e=>by rw[hd1] at e;cases e⟩
  ·exact⟨_,ho2,λv e=>by rw[hd2] at e;cases e⟩
 keep:=λi h h' st k=>by
  obtain⟨hz,hTI,⟨p,q,hTO⟩,h1,h2⟩:=st;exact⟨k z (by simp) _ hz,k TI (by simp) _ hTI,⟨p,q,k TO (by simp) _ hTO⟩,h1.at λo x=>k i1 (by simp) o x,h2.at λo x=>k i2 (by simp) o x⟩
 item:=by
  intro X hP hw hK hc i aa s σ H E I hf st hg;subst hP hw hK;obtain⟨xs,ys,x,y,hqx,hqy,hx,hy⟩:=hg;obtain⟨itx,rvx,px,hzx⟩:=I.list hqx;obtain⟨ity,rvy,py,hzy⟩:=I.list hqy;obtain⟨u,hu,ru⟩:=rvx.get hx;obtain⟨v,hv,rv⟩:=rvy.get hy;obtain⟨hz,hTI,⟨p,q,hTO⟩,h1,h2⟩:=st;refine wpAny_pyNext_zip_item AP hz hTI hTO h1 h2 (show s.heap.IsList a itx.toArray from px.isList) (show s.heap.IsList b ity.toArray from py.isList) (x:=u) (y:=v) (by simpa using hu) (by simpa using hv) λg gz gTO g1 g2 gT gsz hk=>⟨_,rfl,?_⟩
  refine wpAny_letOwnedTupleGo_zip gz λg' gz' hs'=>?_
  have lz:z<s.heap.objs.size:=Heap.lt_size hz;have lTI:TI<s.heap.objs.size:=Heap.lt_size hTI;have lTO:TO<s.heap.objs.size:=Heap.lt_size hTO;have li1:i1<s.heap.objs.size:=let⟨_,e,_⟩:=h1;Heap.lt_size e
  have li2:i2<s.heap.objs.size:=let⟨_,e,_⟩:=h2;Heap.lt_size e
  have sb: ∀c,c≠z->g'.get? c=g.get? c:=λc hc=>hs'.2 c hc
  have gT':g'.get? s.heap.objs.size=some {cls:=.type "tuple",data:=.seq #[u,v]}:=(sb _ (Nat.ne_of_gt lz)).trans gT;have gTO':IsPair g' TO u v:=(sb _ AP.TOz).trans gTO;have g1':g'.IsListIter i1 a (i+1):=g1.at λo e=>(sb _ AP.i1z).trans e
  have g2':g'.IsListIter i2 b (i+1):=g2.at λo e=>(sb _ AP.i2z).trans e
  have gTI':IsPair g' TI (.ref i1) (.ref i2):=(sb _ AP.TIz).trans (hk TI _ AP.TIz AP.TITO AP.TIi1 AP.TIi2 hTI);have hn:H s.heap.objs.size=none:=I.hok.fresh (Nat.le_refl _);have fl: ∀c∈[z,TI,TO,i1,i2],c<s.heap.objs.size:=λc hc=>by
   simp only[List.mem_cons,List.not_mem_nil,or_false] at hc;rcases hc with rfl|rfl|rfl|rfl|rfl<;>assumption
  have hf': ∀c∈[z,TI,TO,i1,i2],iA X aa (cb H s.heap.objs.size (.tup [x,y])) c:=λc hc=>by
   obtain⟨f0,f1,f2,f3,f4,f5⟩:=hf c hc;exact⟨by rw[aH (Nat.ne_of_lt (fl c hc))];exact f0,f1,f2,f3,f4,f5⟩
  have I0:Inv X aa σ (cb H s.heap.objs.size (.tup [x,y])) {s with heap:=s.heap.push {cls:=.type "tuple",data:=.seq #[u,v]},toks:=s.toks}:=
   I.laid (t':=s.toks) (λb o q=>Heap.get?_push_of_some _ q) (Nat.le_refl _) (show ObjOk X.prog X.w _ _ _ (.tup [x,y]) from
    ⟨Nat.le_of_lt (kj (by simp)),[u,v],.cons ru (.cons rv .nil),⟨_,Heap.get?_push_size _ rfl,rfl,_,rfl⟩,_,Heap.get?_push_size _ rfl,rfl⟩)
  have I1:Inv X aa σ (cb H s.heap.objs.size (.tup [x,y])) {s with heap:=g',toks:=s.toks}:=by
   have:=Inv.turnedL (t':=s.toks) (h':=g') [z,TI,TO,i1,i2] I0 hf' λc o hc e=>?_
   ·exact this
   simp only[List.mem_cons,List.not_mem_nil,or_false,not_or] at hc
   by_cases ec:c=s.heap.objs.size
   ·subst ec;have e:(s.heap.push {cls:=.type "tuple",data:=.seq #[u,v]}).get? s.heap.objs.size=some o:=e;rw[Heap.get?_push_size _ rfl] at e;cases e;exact gT'
   ·have e:(s.heap.push {cls:=.type "tuple",data:=.seq #[u,v]}).get? c=some o:=e;rw[Heap.get?_push_ne _ _ _ ec] at e;exact(sb c hc.1).trans (hk c o hc.1 hc.2.2.1 hc.2.2.2.1 hc.2.2.2.2 e)
  refine⟨.ref s.heap.objs.size,cb H s.heap.objs.size (.tup [x,y]),I1,rfl,⟨_,rfl,hn,λxs' ys' hx' hy'=>⟨x,y,by rw[I.list_inj hx' hqx];exact hx,by rw[I.list_inj hy' hqy];exact hy,rfl⟩⟩,⟨gz',gTI',⟨_,_,gTO'⟩,g1',g2'⟩,λc hc=>(hf' c hc).1⟩
 done:=by
  intro X hP hw hK hc i aa s σ H E I hf st hg;subst hP hw hK;obtain⟨xs,ys,hqx,hqy,hx⟩:=hg;obtain⟨itx,rvx,px,hzx⟩:=I.list hqx;obtain⟨ity,rvy,py,hzy⟩:=I.list hqy;obtain⟨hz,hTI,⟨p,q,hTO⟩,h1,h2⟩:=st;have l1:=rvx.length;have l2:=rvy.length;refine wpAny_pyNext_zip_end (I.ok.hd hc) AP hz hTI hTO h1 h2 (show s.heap.IsList a itx.toArray from px.isList) (show s.heap.IsList b ity.toArray from py.isList) (hx.imp (λe=>by simp;omega) λe=>by simp;omega) λg hk=>⟨rfl,?_⟩
  refine Inv.turnedL [z,TI,TO,i1,i2] I hf λc o hc e=>?_
  simp only[List.mem_cons,List.not_mem_nil,or_false,not_or] at hc;exact hk c o hc.1 hc.2.2.1 hc.2.2.2.1 hc.2.2.2.2 e
 self:=λ_ _ _ _ _ st h=>let⟨hz,_⟩:=st;wpAny_pyIter_zip hz h
section
variable {X:Cx}{c:Ct}{k:Kd}{es:List Expr}{x1:Nat}{tp pos p:Pos}
def rJ(xs ys:List D):List D:=(List.range (min xs.length ys.length)).map λ(i:Nat)=>D.tup [xs.getD i .non,ys.getD i .non]
def sV(f g:FE):FA:=λρ=>match f ρ,g ρ with
 |some (.lst xs),some (.lst ys)=>some (rJ xs ys)
 |_,_=>none
theorem u9 {f g:FE}{ρ:aG}{ds:List D}(h:sV f g ρ=some ds): ∃xs ys,f ρ=some (.lst xs)/\g ρ=some (.lst ys)/\ds=rJ xs ys:=by
 unfold sV at h;split at h
 ·cases h;exact⟨_,_, ‹_›, ‹_›,rfl⟩
 ·cases h
theorem wP {K:W.Frag}{W:Hp}{a b:Addr}{xs ys:List V}{ds es:List D}(h1:SqL K W a xs)(h2:SqL K W b ys)(r1:Reps K W xs ds)(r2:Reps K W ys es):ItOk K W (E3 K a b) (rJ ds es):=by
 have l1:=r1.length;have l2:=r2.length;have el:(rJ ds es).length=min ds.length es.length:=by simp[rJ]
 refine⟨λi d H e s=>?_,λH s=>⟨_,_,Same.seq s h1,Same.seq s h2,?_⟩⟩
 ·have hi:i<min ds.length es.length:=by rw[<-el];exact(List.getElem?_eq_some_iff.mp e).1
  have ex:xs[i]? =some xs[i]:=List.getElem?_eq_getElem (by omega);have ey:ys[i]? =some ys[i]:=List.getElem?_eq_getElem (by omega);refine⟨⟨_,_,xs[i],ys[i],Same.seq s h1,Same.seq s h2,ex,ey⟩,λy H' ⟨T,e2,hT,e3⟩=>?_⟩;subst e2;obtain⟨u,v,e4,e4',e5⟩:=e3 _ _ (Same.seq s h1) (Same.seq s h2);subst e5;refine⟨bq hT _,λhid tr sw=>?_⟩;have hf:hid T=false:=by
   cases eh:hid T with
   |false=>rfl
   |true=>obtain⟨o,ho⟩:=tr T eh;rw[hT] at ho;cases ho
  obtain⟨d',e6,r6⟩:=r1.get' e4;obtain⟨d'',e7,r7⟩:=r2.get' e4';have ed:d=.tup [d',d'']:=by
   unfold rJ at e;rw[List.getElem?_map,List.getElem?_range hi] at e;have q1:ds.getD i .non=d':=by simp[List.getD,e6]
   have q2:es.getD i .non=d'':=by simp[List.getD,e7]
   rw[Option.map_some,q1,q2] at e;exact(Option.some.inj e).symm
  rw[ed];exact mI hT hf (.cons (r6.mono sw) (.cons (r7.mono sw) .nil))
 ·rw[el];omega
theorem v7(n l1 l2:Nat)(h1:l1<n)(h2:l2<n):ZipApart (n+4) (n+2) (n+3) n (n+1) l1 l2:=by
 constructor<;>(show¬ @Eq Nat _ _)<;>omega
theorem yA {e1 e2:Expr}{f g:FE}(h1:DP X c .s e1 f)(h2:DP X c .s e2 g)(hm:X.mg "zip"=none)(hg:Gl X "zip":=by rfl)(hs:starEach [e1,e2] X.env=(false,eval e1 X.env)::starEach [e2] X.env:=by rfl)(hs2:starEach [e2] X.env=[(false,eval e2 X.env)]:=by rfl):DIp X c (.Tuple es x1 tp) (.Call (.Name "zip" p) [e1,e2] [] pos) (sV f g):=by
 intro hid ρ aa s σ H R I hq;obtain⟨sr,ds,hd,q⟩:=hq;obtain⟨xs,ys,a1,a2,rfl⟩:=u9 hd;refine Call_ (kx (u:=.type "zip") I hg hm (by kernel_rfl) (PyProof.Rows.callWith_type1 (cq (bV (h1 hid ρ) (bV (h2 hid ρ) fu hs2) hs pos aa s σ H (λvs H'=> ∃v w,vs=[v,w]/\Same H H'/\Rep X.K (vw H' hid) v (.lst xs)/\Rep X.K (vw H' hid) w (.lst ys)) I ⟨sr,_,a1,λv H' s' r=>⟨sr.ext s',_,a2,λw H'' s'' r'=>⟨v,w,rfl,s'.trans s'',Rep.mono (aM s'') r,r'⟩⟩⟩) λvs s1 ⟨ws,H1,I1,r1,v,w,e,s',r,r'⟩=>?_) hs (by rw[hs2];rfl)));subst e;cases r1 with
 |cons ra rb=>
  cases rb with
  |cons rb rc=>
   cases rc;cases r with
   |lst t1 t2=>
    cases r' with
    |lst t3 t4=>
     have t1:=SqL.of (K:=X.K) t1;have t3:=SqL.of (K:=X.K) t3;cases ra;cases rb;obtain⟨itx,rvx,px,hzx⟩:=I1.list ((di _ _).seq t1);obtain⟨ity,rvy,py,hzy⟩:=I1.list ((di _ _).seq t3);have b1: ∀ {c:Addr} {us},s1.heap.IsList c us->c<s1.heap.objs.size:=λh=>let⟨_,e,_⟩:=h;Heap.lt_size e
     have L1:s1.heap.IsList _ itx.toArray:=px.isList;have L2':s1.heap.IsList _ ity.toArray:=py.isList;have m1:=b1 L1;have m2:=b1 L2';refine call_zip_2 L1 L2' λg hz hTI hTO hi1 hi2 hsz hk=>?_
     refine wpAny_pyIter_zip hz ⟨_,[s1.heap.objs.size+4,s1.heap.objs.size+2,s1.heap.objs.size+3,s1.heap.objs.size,s1.heap.objs.size+1],_,_,H1,rfl,I1.kept (t':=s1.toks) λb o e=>hk b o e,xc _ _ _ _ _ _ _ (v7 _ _ _ m1 m2),⟨hz,hTI,⟨_,_,hTO⟩,hi1,hi2⟩,λb hb=>?_,q _ H1 s' (wP t1 t3 t2 t4)⟩;have hb:s1.heap.objs.size<=b:=by
      simp only[List.mem_cons,List.not_mem_nil,or_false] at hb;rcases hb with rfl|rfl|rfl|rfl|rfl
      ·exact Nat.le_add_right _ _
      ·exact Nat.le_add_right _ _
      ·exact Nat.le_add_right _ _
      ·exact Nat.le_refl _
      ·exact Nat.le_add_right _ _
     exact I1.fpOk hb (I1.hok.fresh hb)
end
section
variable {X:Cx}{c:Ct}{a b e:Expr}{f g:FE}{pos p p2 p3:Pos}{k:Kd}
def AM(K:W.Frag):R2:=λx y H Q=> ∃l b xs zs,x=.ref l/\y=.ref b/\SqL K H l xs/\SqL K H b zs/\xs.length+zs.length<=sizeLine/\ ∀p,H p=none->Q (.ref p) (cb H p (.lst (xs++zs)))
theorem yC:lh X (binaryOp .Add) (AM X.K):=by
 intro aa s σ H x y v u Q I rx ry h;obtain⟨l,b,xs,zs,rfl,rfl,hL,hB,hz,q⟩:=h;cases rx;cases ry;obtain⟨its,r,⟨o,n,e,c1,d1,t1⟩,z1⟩:=I.list hL;obtain⟨its2,r2,⟨o2,n2,e2,c2,d2,t2⟩,z2⟩:=I.list hB;obtain⟨oc,od,ot,sl⟩:=o;obtain⟨oc2,od2,ot2,sl2⟩:=o2;dsimp only at c1 d1 t1 c2 d2 t2;subst c1 d1 t1 c2 d2 t2;have hl:=r.length;have hl2:=r2.length;refine concat_meets ⟨_,e,rfl⟩ ⟨_,e2,rfl⟩ noFill_list_add seq_list_add PySem.F.slot_list_add PySem.F.entry_list_add (PySem.F.args_list_add_2 _ _) (list_addW l b its.toArray its2.toArray n n2 none none sl sl2 (by rw[List.size_toArray,List.size_toArray];omega)) ⟨e,e2,?_⟩;have ea:its.toArray++its2.toArray=(its++its2).toArray:=by simp
 rw[ea];exact⟨.ref _,_,I.lnew (t':=s.toks) (r.append r2) (by rw[List.length_append];omega),rfl,q _ I.fresh⟩
def ip:D->D->Option D
 | .lst xs,.lst ys=>if xs.length+ys.length<=sizeLine then some (.lst (xs++ys)) else none
 |_,_=>none
theorem Af {K:W.Frag}:mX K .n (AM K) ip:=by
 intro H hid v u x y d Q hf h r1 r2 q;unfold ip at h;split at h
 ·split at h
  ·rename_i hz
   cases h;obtain⟨a,xs,rfl,h1,h2⟩:=r1.lst;obtain⟨b,ys,rfl,h3,h4⟩:=r2.lst;exact⟨a,b,xs,ys,rfl,rfl,h1,h3,by rw[h2.length,h4.length];exact hz,λp hp=>q _ _ (bq hp _) (ka hp (Same.refl _) (h2.append h4))⟩
  ·cases h
 ·cases h
theorem jF {k1 k2:Kd}(ha:DP X c k1 a f)(hb:DP X c k2 b g):DP X c .n (.BinOp a .Add b pos) (ao ip f g):=jS yC Af ha hb
end
abbrev pN:List Value:=[.type "ValueError",.type "Exception",.type "BaseException",.type "object"]
structure ExcC(K:W.Frag)(C:Addr):Prop where
 ga:W.findIn K (.ref C) "__getattribute__"=some (some (.builtin "BaseException.__getattribute__"))
 gt:W.findIn K (.ref C) "__getattr__"=some none
 cl:W.findIn K (.ref C) "__class__"=some (some (.builtin "object.__class__"))
 sp:W.specialIn K (.builtin "object.__class__") "__get__"=some (some (.builtin "getset_descriptor.__get__"))
 tk:W.takesIn K (.builtin "object.__class__")=some true
 mo:W.mroIn K C (.type "object")=some true
 mb:W.mroIn K C (.type "BaseException")=some true
section
variable {K:W.Frag}{C:Addr}{prog:Program}{w:World}{A:Around}{E:Value->Shared->Prop}{s:Shared}{a:Addr}{o:Obj}
theorem ExcC.cls(X:ExcC K C): ∃cd,W.clsIn K C=some cd:=by
 obtain⟨cd,h,_⟩:=Option.bind_eq_some_iff.mp X.mo;exact⟨cd,h⟩
theorem wG(X:ExcC K C):W.findObj K C none "__class__"=some (.bind (.builtin "getset_descriptor.__get__") (.builtin "object.__class__")):=by
 obtain⟨cd,hc⟩:=X.cls;unfold W.findObj;rw[hc,Option.bind_some,X.cl,Option.bind_some];dsimp only;rw[X.sp,Option.bind_some];dsimp only;rw[X.tk,Option.bind_some]
theorem vG(X:ExcC K C)(KI:K.In s.heap)(I:W.InstAt s.heap a o C none){Q:Option Value->Shared->Prop}(h:Q (some (.ref C)) {s with toks:=s.toks+1}):
 wpAny (model prog w) A (getAttr? (.ref a) "__class__") Q E s:=by
 obtain⟨hh,g,d,t,os⟩:=s;have L0:=I.type (M:=model prog w);have L1:=W.looks_findIn (M:=model prog w) KI X.ga;have L2:=W.looks_findIn (M:=model prog w) KI X.gt;have L3:=W.looks_find (M:=model prog w) KI I (wG X);have L4:=W.looks_mroIn (M:=model prog w) KI X.mb;have f3:=F.attrBase_ValueError.ga.bind (.ref a);unfold getAttr? getAttrBy? getAttrBy;refine wpAny_bind (wpAny_mkText (wpAny_bind (wpAny_attempt (wpAny_holding (wpAny_bind (L0.at (wpAny_bind (L1.at ?_))))))));dsimp only;have hx2:(Value.builtin "BaseException.__getattribute__"==Value.builtin "object.__getattribute__")=false:=by decide+kernel
 rw[if_neg (by rw[hx2];simp)];unfold getAttrByItsOwn hookBefore callGetattribute boundAndCalled;refine wpAny_bind ?_
 show wpAny _ _ (typeLookup (.ref C) "__getattr__") _ _ _;refine L2.at ?_
 refine wpAny_bind (wpAny_attempt (wpAny_holding ?_));simp only[Bool.false_and,Bool.false_eq_true,if_false];rw[f3];refine wpAny_bind (wpAny_pure ?_);dsimp only;refine wpAny_call (codeAny_call_builtin F.attrBase_ValueError.ga.plain F.entry_bexc_ga ?_);have hk:builtinKind "BaseException.__getattribute__"=some .slot:=by decide+kernel
 have hsplit:splitId "BaseException.__getattribute__"=some ("BaseException","__getattribute__"):=by decide+kernel
 have ha:=F.args_bexc_ga (.ref a) (.str "__class__" t);show wpAny _ _ (checkBuiltinCall "BaseException.__getattribute__" ⟨[.ref a,.str "__class__" t],[]⟩) _ _ _;simp only[checkBuiltinCall,hk,hsplit];have LI:W.Looks (model prog w) hh (isInstance (.ref a) (.type "BaseException")) true:=L0.andThen L4;refine wpAny_bind (LI.at ?_);rw[if_neg (by simp)];refine wpAny_of_eq (a:=()) ha ?_
 unfold Builtin.«object.__getattribute__»;refine wpAny_bind (wpAny_pure (a:=(Value.ref a,[Value.str "__class__" t])) ?_);dsimp only;refine wpAny_bind (wpAny_pure (a:=("__class__":Str)) ?_);refine wpAny_bind (L0.at (wpAny_bind (L3.at ?_)));dsimp only;show wpAny _ _ (do let v <-holding [Value.builtin "object.__class__"] (call (.builtin "getset_descriptor.__get__") [.builtin "object.__class__",.ref a,.ref C]);ret v) _ _ _;refine wpAny_bind (wpAny_holding (wpAny_call (W.class_get (K:=K) (ox:=o) (od:=none) KI I X.mo ?_)));refine wpAny_pure ?_
 dsimp only;exact wpAny_of_eq (a:=Value.ref C) rfl (wpAny_pure h)
theorem oB(X:ExcC K C):W.KitX K (.ref a) (.ref C) (λh=> ∃o,W.InstAt h a o C none) where
 ty:=λ_ _ _ I=>let⟨_,I⟩:=I;I.type
 it:=λ_ _ KI _=>by
  obtain⟨cd,hc⟩:=X.cls;unfold W.clsIn at hc;split at hc
  ·rename_i c' d' cd' sl' ho
   intro A' Q' E' s' k q;unfold isType loadHead;exact wpAny_bind (wpAny_loadPart (k _ _ (KI _ _ ho)) (wpAny_pure q))
  ·cases hc
 ne:=λh tp dd its n sl KI htp=>by
  obtain⟨cd,hc⟩:=X.cls;refine Bool.eq_false_iff.mpr λq=>?_
  have e:C=tp:=Value.ref.inj (beq_iff_eq.mp q);subst e;unfold W.clsIn at hc;split at hc
  ·rename_i c' d' cd' sl' ho
   have z:=(KI _ _ ho).symm.trans htp;cases z
  ·cases hc
 ca:=λKI I k=>let⟨_,I⟩:=I;vG X KI I k
end
def Trc(h B:Heap)(e:Addr)(o0:Obj):Prop:=
 ∃vs T oT ts,h.get? e=some {o0 with data:=.fields vs}/\vs[1]? =some (.ref T)/\B.get? T=none/\T≠e/\h.get? T=some oT/\oT.data=.fields ts/\ts[3]? =some .none
def Fi(h:Heap)(e:Addr)(o0:Obj):Prop:= ∃vs,h.get? e=some {o0 with data:=.fields vs}/\vs[1]? =some .none
structure InFl(B:Heap)(l:List Env)(e:Addr)(o0:Obj)(h:Heap):Prop where
 st:B.StaysIn h
 ne:B.get? e=none
 ff:h.FunFrames B l
 tr:Trc h B e o0\/Fi h e o0
section
variable {M:Model}{A:Around}{E:Value->Shared->Prop}{s:Shared}{B:Heap}{env:Env}{outer:List Env}{L e:Addr}{o0:Obj}
theorem qf {vs:Array Value}{head:Value}{hn:Bool}{Q:Unit->Shared->Prop}(hfr:A.frames=some (env::outer))(hl:s.heap.FunFrames B (env::outer))(hf:env.frame=some L)
 (he:s.heap.get? e=some {o0 with data:=.fields vs}) (hsz:1<vs.size) (hB:B.StaysIn s.heap) (ne:B.get? e=none)
 (h: ∀h',InFl B (env::outer) e o0 h'->Trc h' B e o0->s.heap.UpToSlots h'->Q () {s with heap:=h'}):
 wpAny M A (do let a <-frameOf env;let pl <-entryPlaceOf L hn;let b <-EntryCells.newEntry head a .none (rawInt L) .none pl;setField (.ref e) 1 b) (λ_ s'=>wpAny M A (setFlight (.ref e) none) Q E s') E s:=by
 have hne:e∉frs (env::outer):=λhm=>by
  obtain⟨_,o,ho,nf⟩:=hl.mem hm;rw[he] at ho;cases ho;exact nf vs rfl
 refine wpAny_bind (wpAny_frameOf_fun hfr hl hf λh1 k1=>wpAny_bind (wpAny_entryPlaceOf λpl hp=>?_));unfold EntryCells.newEntry newFields;refine wpAny_bind (wpAny_newObj_type ?_ (hp.sizeOk5 _ _ _ _ _));have e1:h1.get? e=some {o0 with data:=.fields vs}:=(k1.2.1 e hne).trans he;generalize hten:([head,.ref L,.none,rawInt L,.none]++(if pl.isEmpty then List.replicate 6 Value.none else pl)).toArray=ten;have tsz:3<ten.size:=by rw[<-hten];simp only[List.size_toArray,List.length_append,List.length_cons,List.length_nil];omega
 generalize hT:h1.objs.size=T;have Tn:h1.get? T=none:=by rw[<-hT];exact Heap.get?_none_of_le (Nat.le_refl _)
 have Te:T≠e:=λq=>by rw[q,e1] at Tn;cases Tn
 have e2:(h1.push {cls:=.type "traceback",dict:=none,data:=.fields ten}).get? e=some {o0 with data:=.fields vs}:=Heap.get?_push_of_some _ e1;have t2:(h1.push {cls:=.type "traceback",dict:=none,data:=.fields ten}).get? T=some {cls:=.type "traceback",dict:=none,data:=.fields ten}:=by rw[<-hT];exact Heap.get?_push_size h1 rfl
 refine wpAny_setField e2 rfl hsz ?_
 have e3:=Heap.get?_update_self (Obj.mapFields (·.setIfInBounds 1 (Value.ref T))) e2 (Obj.isFreed_of_fields rfl);have t3:=(Heap.get?_update_other (h1.push {cls:=.type "traceback",dict:=none,data:=.fields ten}) (Obj.mapFields (·.setIfInBounds 1 (Value.ref T))) (Ne.symm Te)).trans t2;unfold setFlight;refine wpAny_bind (wpAny_field e3 rfl (x:=.ref T) (by simp[hsz]) ?_);rw[if_pos (by simp:(Value.ref T !=Value.none)=true)];refine wpAny_setField t3 rfl tsz ?_
 have kp: ∀b o,b≠e->h1.get? b=some o->(((h1.push {cls:=.type "traceback",dict:=none,data:=.fields ten}).update e (Obj.mapFields (·.setIfInBounds 1 (Value.ref T)))).update T
  (Obj.mapFields (·.setIfInBounds 3 ((none:Option Addr).elim Value.none λf=>rawInt f)))).get? b=some o:=λb o nb hb=>by
  rw[Heap.get?_update_other _ _ (λq=>by rw[<-q,Tn] at hb;cases hb),Heap.get?_update_other _ _ (Ne.symm nb)];exact Heap.get?_push_of_some _ hb
 have nr: ∀b o,s.heap.get? b=some o->(∀vs,o.data≠ .fields vs)->b≠e:=λb o hb nf q=>by
  rw[q,he] at hb;cases hb;exact nf vs rfl
 have B1:B.StaysIn h1:=λb o hb=>(k1.2.1 b λhm=>by rw[(hl.mem hm).1] at hb;cases hb).trans (hB b o hb)
 have TB:B.get? T=none:=by
  cases q:B.get? T with
  |none=>rfl
  |some o=>rw[B1 T o q] at Tn;cases Tn
 have tr:Trc (((h1.push {cls:=.type "traceback",dict:=none,data:=.fields ten}).update e (Obj.mapFields (·.setIfInBounds 1 (Value.ref T)))).update T
  (Obj.mapFields (·.setIfInBounds 3 ((none:Option Addr).elim Value.none λf=>rawInt f)))) B e o0:=
  ⟨_,T,_,_,(Heap.get?_update_other _ _ Te).trans e3,by simp[hsz],TB,Te,Heap.get?_update_self _ t3 (Obj.isFreed_of_fields rfl),rfl,by simp[tsz]⟩
 refine h _ ⟨λb o hb=>kp b o (λq=>by rw[q,ne] at hb;cases hb) (B1 b o hb),ne,hl.of_keeps λb o hb nf=>?_,.inl tr⟩ tr λb o hb nf=>?_
 ·obtain⟨sl,q⟩:=k1.2.2 b o hb;exact⟨_,kp b _ (nr b o hb nf) q,rfl⟩
 ·obtain⟨sl,q⟩:=k1.2.2 b o hb;exact⟨sl,kp b _ (nr b o hb nf) q⟩
theorem tU {Q:Unit->Shared->Prop}(hfr:A.frames=some (env::outer))(hf:env.frame=some L)(x:InFl B (env::outer) e o0 s.heap)
 (h: ∀h',InFl B (env::outer) e o0 h'->Trc h' B e o0->s.heap.UpToSlots h'->Q () {s with heap:=h'}):
 wpAny M A (noteFrame (.ref e) env) (λ_ s'=>wpAny M A (setFlight (.ref e) none) Q E s') E s:=by
 obtain⟨st,ne,ff,tr⟩:=x;unfold noteFrame;simp only[hf];rcases tr with⟨vs,T,oT,ts,he,h1,TB,Te,hT,hd,h3⟩|⟨vs,he,h1⟩
 ·refine wpAny_bind (wpAny_field he rfl h1 ?_);rw[if_pos (by simp:(Value.ref T !=Value.none)=true)];refine wpAny_bind (wpAny_field hT hd h3 ?_);rw[if_neg (by simp[rawInt]: ¬((Value.none==rawInt L)=true))];refine wpAny_bind (wpAny_setField hT hd (Array.getElem?_eq_some_iff.mp h3).1 ?_);have ot: ∀b,b≠T->(s.heap.update T (Obj.mapFields (·.setIfInBounds 3 Value.none))).get? b=s.heap.get? b:=λb nb=>Heap.get?_update_other _ _ (Ne.symm nb)
  have nr: ∀b o,s.heap.get? b=some o->(∀vs,o.data≠ .fields vs)->b≠T:=λb o hb nf q=>by
   rw[q,hT] at hb;cases hb;exact nf ts hd
  exact qf hfr (ff.of_keeps λb o hb nf=>⟨o,(ot b (nr b o hb nf)).trans hb,rfl⟩) hf ((ot e (Ne.symm Te)).trans he) (Array.getElem?_eq_some_iff.mp h1).1
   (λb o hb=>(ot b λq=>by rw[q,TB] at hb;cases hb).trans (st b o hb)) ne λh' x1 x2 x3=>h h' x1 x2 λb o hb nf=>x3 b o ((ot b (nr b o hb nf)).trans hb) nf
 ·refine wpAny_bind (wpAny_field he rfl h1 ?_);rw[if_neg (by decide)];exact qf hfr ff hf he (Array.getElem?_eq_some_iff.mp h1).1 st ne h
theorem xj {Q:Unit->Shared->Prop}(hfr:A.frames=some (env::outer))(hf:env.frame=some L)(x:InFl B (env::outer) e o0 s.heap)
 (h: ∀h',InFl B outer e o0 h'->s.heap.UpToSlots h'->Q () {s with heap:=h'}):wpAny M A (leaving env (.ref e)) Q E s:=by
 unfold leaving;exact wpAny_bind (tU hfr hf x λh' x1 _ x3=>h h' ⟨x1.st,x1.ne,x1.ff.2.2,x1.tr⟩ x3)
theorem z9 {Q:Unit->Shared->Prop}{l:List Env}(x:InFl B l e o0 s.heap)(t:Trc s.heap B e o0)
 (h: ∀h',InFl B l e o0 h'->Trc h' B e o0->s.heap.UpToSlots h'->Q () {s with heap:=h'}):wpAny M A (setFlight (.ref e) none) Q E s:=by
 obtain⟨vs,T,oT,ts,he,h1,TB,Te,hT,hd,h3⟩:=t;have sz:=(Array.getElem?_eq_some_iff.mp h3).1;unfold setFlight;refine wpAny_bind (wpAny_field he rfl h1 ?_);rw[if_pos (by simp:(Value.ref T !=Value.none)=true)];refine wpAny_setField hT hd sz ?_
 have ot: ∀b,b≠T->(s.heap.update T (Obj.mapFields (·.setIfInBounds 3 ((none:Option Addr).elim Value.none λf=>rawInt f)))).get? b=s.heap.get? b:=λb nb=>Heap.get?_update_other _ _ (Ne.symm nb)
 have nr: ∀b o,s.heap.get? b=some o->(∀vs,o.data≠ .fields vs)->b≠T:=λb o hb nf q=>by
  rw[q,hT] at hb;cases hb;exact nf ts hd
 have tr:Trc (s.heap.update T (Obj.mapFields (·.setIfInBounds 3 ((none:Option Addr).elim Value.none λf=>rawInt f)))) B e o0:=
  ⟨vs,T,_,_,(ot e (Ne.symm Te)).trans he,h1,TB,Te,Heap.get?_update_self _ hT (Obj.isFreed_of_fields (Obj.data_mapFields hd _)),Obj.data_mapFields hd _,by simp[sz]⟩
 exact h _ ⟨λb o hb=>(ot b λq=>by rw[q,TB] at hb;cases hb).trans (x.st b o hb),x.ne,x.ff.of_keeps λb o hb nf=>⟨o,(ot b (nr b o hb nf)).trans hb,rfl⟩,.inl tr⟩ tr λb o hb nf=>⟨o.slots,(ot b (nr b o hb nf)).trans hb⟩
end
theorem uK {h base g:Heap}{F:List Addr}: ∀ {l:List Env},h.FunFrames base l->(∀b∈frs l,b∈F)->h.FunFrames (W.hideAll g F) l
 | [],_,_=>trivial
 |env::r,⟨hk,⟨L,o,hf,hn,ho,hd⟩,hr⟩,hF=>by
  refine⟨hk,⟨L,o,hf,W.hideAll_none F (hF L ?_),ho,hd⟩,uK hr λb hb=>hF b ?_⟩
  ·unfold frs;rw[List.filterMap_cons,hf];exact List.mem_cons_self
  ·unfold frs;rw[List.filterMap_cons,hf];exact List.mem_cons_of_mem _ hb
def Away(X:Cx)(aa:List (Addr×Obj))(H:Hp)(F:List Addr):Prop:=(∀b∈frs X.stack,b∈F)/\
 ∀b∈F,b∉frs X.stack->X.s₀.heap.objs.size<=b/\H b=none/\b≠X.env.locals/\(∀x c,X.env.cells.lookup x=some c->c≠b)/\ ∀p∈X.pn++aa,p.1≠b
section
variable {X:Cx}{aa:List (Addr×Obj)}{σ:St}{H:Hp}{s:Shared}{F:List Addr}{h':Heap}
theorem Away.free(w:Away X aa H F)(I:Inv X aa σ H s){b:Addr}(hb:b∈F):H b=none:=by
 by_cases q:b∈frs X.stack
 ·exact I.stkFree b q
 ·exact(w.2 b hb q).2.1
theorem Inv.flown(I:Inv X aa σ H s)(w:Away X aa H F)(st:(W.hideAll s.heap F).StaysIn h')(up:s.heap.UpToSlots h'):Inv X aa σ H {s with heap:=h'}:=by
 have kp: ∀b o,s.heap.get? b=some o->b∉F->h'.get? b=some o:=λb o e n=>st b o (W.hideAll_get _ e n)
 have fr: ∀b∈frs X.stack,∃o,s.heap.get? b=some o/\ ∀vs,o.data≠ .fields vs:=λb hb=>(I.stack.mem hb).2
 refine I.call' (s':={s with heap:=h'}) (ch:=F.filter λb=>decide (b∉frs X.stack)) rfl ⟨?_,?_,λ_ _ _ n _=>n,?_,λ_ _ q=>q,λ_ _ _ q=>q,λ_ ps q=>⟨#[],by rw[q];simp⟩⟩ ?_ I.bare ?_
 ·intro b o e n hb hc;refine kp b o e λhF=>hc ?_
  rw[List.mem_filter,decide_eq_true_eq];exact⟨hF,hb⟩
 ·intro b o e n hb hc;obtain⟨o',e',nf⟩:=fr b hb;rw[e] at e';cases e';exact up b o e nf
 ·intro b o e hc
  by_cases hF:b∈F
  ·by_cases hs:b∈frs X.stack
   ·obtain⟨o',e',nf⟩:=fr b hs;obtain⟨sl,q⟩:=up b o' e' nf;exact⟨_,q⟩
   ·exact absurd (by rw[List.mem_filter,decide_eq_true_eq];exact⟨hF,hs⟩) hc
  ·exact⟨o,kp b o e hF⟩
 ·intro a o e;refine(I.hok a o e).stay (λb u hb q=>kp b u q λhF=>?_) (λ_ q=>q) λ_ _ q=>q
  have:=w.free I hF;rcases hb with rfl|hb
  ·rw[e] at this;cases this
  ·rw[hb] at this;cases this
 ·intro b hb;rw[List.mem_filter,decide_eq_true_eq] at hb;obtain⟨q1,q2,q3,q4,q5⟩:=w.2 b hb.1 hb.2;exact⟨.inr q1,q3,q4,q5⟩
end
def XS(X:Cx)(aa:List (Addr×Obj))(σ:St)(H:Hp)(o0:Obj)(ea:Addr)(s':Shared):Prop:=
 ∃(g:Heap) (F:List Addr),Inv X aa σ H {s' with heap:=g}/\Away X aa H F/\InFl (W.hideAll g F) X.stack ea o0 s'.heap/\g.UpToSlots s'.heap/\g.get? ea=none
theorem XS.inv {X:Cx}{aa:List (Addr×Obj)}{σ:St}{H:Hp}{o0:Obj}{ea:Addr}{s':Shared}(x:XS X aa σ H o0 ea s'):Inv X aa σ H s':=by
 obtain⟨g,F,I,w,fl,up,_⟩:=x;exact I.flown (s:={s' with heap:=g}) w fl.st up
def D6(P:Program)(w:World)(G:Addr->Obj->Prop):pH:=λouter H s E e s'=>
 ∃(ea:Addr) (o0:Obj) (C:Addr) (g:Heap) (F:List Addr) (H':Hp),e=.ref ea/\o0.cls=.ref C/\G C o0/\s'.os=s.os/\AllBare s'.gens/\Un (frs outer) [] H H' s.heap g/\HOk P w H' g/\
  InFl (W.hideAll g F) outer ea o0 s'.heap/\g.UpToSlots s'.heap/\(∀b∈frs outer,b∈F)/\(∀b∈F,H' b=none/\(b∉frs outer->s.heap.objs.size<=b))/\g.get? ea=none/\E (.ref C) none H'
theorem z7 {X:Cx}{aa:List (Addr×Obj)}{σ:St}{H:Hp}{s s':Shared}{G:Addr->Obj->Prop}{E:XK}{e:Value}(I:Inv X aa σ H s)(h:D6 X.prog X.w G X.stack H s E e s'):
 ∃ea o0 C H',e=.ref ea/\o0.cls=.ref C/\G C o0/\XS X aa σ H' o0 ea s'/\E (.ref C) none H':=by
 obtain⟨ea,o0,C,g,F,H',rfl,hc,hG,os,bare,un,hok,fl,up,hF,aw,gn,hE⟩:=h;have J:Inv X aa σ H' {s' with heap:=g}:=I.call' (s':={s' with heap:=g}) (ch:=[]) os un hok bare λb z=>absurd z (by simp)
 refine⟨ea,o0,C,H',rfl,hc,hG,⟨g,F,J,⟨hF,λb hb nb=>?_⟩,fl,up,gn⟩,hE⟩;have sz:=(aw b hb).2 nb;have lt: ∀ {c o},s.heap.get? c=some o->c≠b:=λ{c o} q z=>by subst z;exact absurd (Heap.lt_size q) (Nat.not_lt.mpr sz)
 refine⟨Nat.le_trans I.sz sz,(aw b hb).1,λz=>?_,λx c q=>?_,λp hp=>?_⟩
 ·have:=I.lt;rw[<-z] at this;exact absurd this (Nat.not_lt.mpr sz)
 ·obtain⟨v,o,ho,_⟩:=I.cell x c q;exact lt ho
 ·exact lt (I.pin p hp).1
theorem wK {CX:pH}{P:Program}{w:World}{K:W.Frag}{mg:Str->Option Value}{base:Heap}{N:List Str}{qual:Str}{scope:Scope}{f:Addr}{cd:Value}{A:Around}{outer:List Env}{s:Shared}{H:Hp}{E:XK}{G:Addr->Obj->Prop}
 {aa:List (Addr×Obj)} {σ:St} {H':Hp} {o0:Obj} {ea C:Addr} {s':Shared} (x:XS (kQ CX P w K mg base N qual scope f cd A outer s H E) aa σ H' o0 ea s') (hc:o0.cls=.ref C) (hG:G C o0) (hE:E (.ref C) none H') {Q:Unit->Shared->Prop} {E':Value->Shared->Prop}
 (q: ∀s'',D6 P w G outer H s E (.ref ea) s''->Q () s''):wpAny (model P w) (A.deeper (envOfC qual scope s.heap.objs.size f cd)) (leaving (envOfC qual scope s.heap.objs.size f cd) (.ref ea)) Q E' s':=by
 obtain⟨g,F,I,aw,fl,up,gn⟩:=x;refine xj (L:=s.heap.objs.size) I.ok.frames rfl fl λh' fl' up'=>q _ ?_
 have L:(kQ CX P w K mg base N qual scope f cd A outer s H E).stack=envOfC qual scope s.heap.objs.size f cd::outer:=rfl;have sub: ∀b∈frs outer,b∈frs (envOfC qual scope s.heap.objs.size f cd::outer):=λb hb=>by
  unfold frs;rw[List.filterMap_cons];exact List.mem_cons_of_mem _ hb
 refine⟨ea,o0,C,g,F,H',rfl,hc,hG,I.os,I.bare,I.base,I.hok,fl',up.trans up',λb hb=>aw.1 b (sub b hb),λb hb=>⟨aw.free I hb,λnb=>?_⟩,gn,hE⟩
 by_cases z:b∈frs (envOfC qual scope s.heap.objs.size f cd::outer)
 ·have:b=s.heap.objs.size\/b∈frs outer:=by
   unfold frs at z;rw[List.filterMap_cons] at z;exact List.mem_cons.mp z
  rcases this with rfl|q
  ·exact Nat.le_refl _
  ·exact absurd q nb
 ·exact(aw.2 b hb z).1
structure Ex where
 x:Str
 n:Int
abbrev uj(K:W.Frag)(z:Ex)(C:Addr):Prop:=W.nsIn K mainGlobals z.x=some (some (.ref C))
def G0:Addr->Obj->Prop:=λ_ o0=>o0.dict=none
abbrev DH(P:Program)(w:World):pH:=D6 P w G0
def EX(X:Cx)(σ:St):XK:=λv _ H'=> ∀aa ea o0 s',o0.cls=v->o0.dict=none->XS X aa σ H' o0 ea s'->X.xe (.ref ea) s'
abbrev RE:=aG->Option (Except Ex D)
abbrev RA:=aG->Option (Except Ex (List D))
def E8(X:Cx)(c:Ct)(hid:bw)(k:Kd)(f:RE)(ρ:aG):TE:=λσ H Q=>SR X.K c hid ρ σ H/\ ∃r,f ρ=some r/\match r with
 | .ok d=> ∀v H',Same H H'->RK X.K k H H' hid v d->Q v H'
 | .error z=> ∀C H',Same H H'->uj X.K z C->EX X σ (.ref C) none H'
def DR(X:Cx)(c:Ct)(k:Kd)(e:Expr)(f:RE):Prop:= ∀hid ρ,PE X e (E8 X c hid k f ρ)
def EB(X:Cx)(c:Ct)(hid:bw)(f:RA)(ρ:aG):TA:=λσ H Q=>SR X.K c hid ρ σ H/\ ∃r,f ρ=some r/\match r with
 | .ok ds=> ∀vs H',Same H H'->Reps X.K (vw H' hid) vs ds->Q vs H'
 | .error z=> ∀C H',Same H H'->uj X.K z C->EX X σ (.ref C) none H'
def E7(X:Cx)(c:Ct)(es:List Expr)(f:RA):Prop:= ∀hid ρ,PA X es (EB X c hid f ρ)
section
variable {X:Cx}{c:Ct}{e a b:Expr}{es rest:List Expr}{k:Kd}{pos p:Pos}{x:Str}{f:Addr}{fd:FuncData}{ps:List Str}{j n:Nat}
def qZ(f:FA):RA:=λρ=>(f ρ).map .ok
theorem DA.rr {f:FA}(h:DA X c es f):E7 X c es (qZ f):=λhid ρ=>PA.imp (h hid ρ) λσ H Q hq_=>by
 obtain⟨sr,r,hr,q⟩:=hq_;unfold qZ at hr;cases e1:f ρ with
 |none=>rw[e1] at hr;cases hr
 |some d=>rw[e1] at hr;cases hr;exact⟨sr,d,e1,q⟩
theorem DR.toS {f:RE}(h:DR X c .n e f):DR X c .s e f:=λhid ρ=>PE.imp (h hid ρ) λσ H Q hq_=>by
 obtain⟨sr,r,hr,q⟩:=hq_;refine⟨sr,r,hr,?_⟩;cases r with
 |ok d=>exact λv H' s r=>q v H' s (RN.rep r λa n=>sr.fresh n)
 |error z=>exact q
def CJ(K:W.Frag)(k:Kd)(n:Nat)(P:List D->Option (Except Ex D)):Sp:=λvs H Q E=> ∃hid ds,B9 hid H/\Reps K (vw H hid) vs ds/\ds.length=n/\ ∃r,P ds=some r/\match r with
 | .ok d=> ∀v H',Same H H'->RK K k H H' hid v d->Q v H'
 | .error z=> ∀C H',Same H H'->uj K z C->E (.ref C) none H'
structure ClX(P:Program)(w:World)(K:W.Frag)(mg:Str->Option Value)(base:Heap)(k:Nat)(x:Str)(ps:List Str)(sp:Sp):Prop where
 ex: ∃f fd,FnOk P w K mg base (DH P w) k f fd ps sp/\mg x=some (.ref f)/\W.keepIn K (.ref f)=true/\Binds K fd ps []
theorem Ah {sp:Sp}{aa:List (Addr×Obj)}{σ:St}{H:Hp}{s:Shared}{Q:VK}{us:List Value}{vs:List V}(F:FnOk X.prog X.w X.K X.mg X.base (DH X.prog X.w) j f fd ps sp)(hr:Room j X.A)(hb:Binds X.K fd ps [])
 (I:Inv X aa σ H s) (r:Vals vs us) (h:sp vs H Q (EX X σ)):wpAny (model X.prog X.w) X.A (call (.ref f) us) (EP X aa σ Q) X.xe s:=by
 have hl:(us++[]).length=ps.length:=by rw[List.append_nil,<-r.length];exact F.len _ _ _ _ h
 have hb':=hb s us I.kIn hl;rw[List.append_nil] at hb';refine wpAny_call (codeAny_mono (F.run X.A X.stack s H ⟨us,[]⟩ us vs Q (EX X σ) hr I.env0 hb' r h) λr s' hq=>?_);cases r with
 |error e=>
  obtain⟨ea,o0,C,H',rfl,hc,hG,xs,hE⟩:=z7 I hq;exact hE aa ea o0 s' hc hG xs
 |ok fl=>
  cases fl with
  |ret u=>exact I.after hq
  |next=>exact False.elim hq
  |brk=>exact False.elim hq
  |cont=>exact False.elim hq
theorem xF {sp:Sp}{t:TA}(F:FnOk X.prog X.w X.K X.mg X.base (DH X.prog X.w) j f fd ps sp)(hr:Room j X.A)(hg:Gl X x)(hm:X.mg x=some (.ref f))(hk:W.keepIn X.K (.ref f)=true)(hb:Binds X.K fd ps [])
 (ha:PA X (e::es) t) (hdb:(x==("__debug__":Str))=false:=by decide) (he:starEach (e::es) X.env=(false,eval e X.env)::starEach es X.env:=by rfl) (hpl:(backTo pos (starEach es X.env)).any (·.1)=false:=by rfl):
 PE X (.Call (.Name x p) (e::es) [] pos) (λσ H Q=>t σ H λvs H1=>sp vs H1 Q (EX X σ)):=by
 intro aa s σ H Q I h;refine wpAny_Call_Name_kw (jc I hg hm ?_ hdb);refine W.callWith_K (h₀:=X.base) I.ok.mod.kin hk (cq (ha pos aa s σ H _ I h) λus s1 ⟨vs,H1,I1,r,q⟩=>⟨I1.kIn,?_⟩) he hpl;exact Ah F hr hb I1 r q
def kZ(n:Nat)(P:List D->Option (Except Ex D))(fs:RA):RE:=λρ=>(fs ρ).bind λq=>match q with
 | .error z=>some (.error z)
 | .ok ds=>if ds.length=n then P ds else none
theorem AH {P:List D->Option (Except Ex D)}{fs:RA}(F:ClX X.prog X.w X.K X.mg X.base j x ps (CJ X.K k n P))(hr:Room j X.A)(ha:E7 X c (e::es) fs)
 (hg:Gl X x:=by rfl) (hdb:(x==("__debug__":Str))=false:=by decide) (he:starEach (e::es) X.env=(false,eval e X.env)::starEach es X.env:=by rfl) (hpl:(backTo pos (starEach es X.env)).any (·.1)=false:=by rfl):
 DR X c k (.Call (.Name x p) (e::es) [] pos) (kZ n P fs):=λhid ρ=>by
 obtain⟨f,fd,F,hm,hk,hb⟩:=F.ex;refine PE.imp (xF F hr hg hm hk hb (ha hid ρ) hdb he hpl) λσ H Q hq_=>?_
 obtain⟨sr,r,h,q⟩:=hq_;unfold kZ at h;cases e1:fs ρ with
 |none=>rw[e1] at h;cases h
 |some r1=>
  rw[e1] at h;refine⟨sr,r1,e1,?_⟩;cases r1 with
  |error z=>cases h;exact q
  |ok ds=>
   have h:(if ds.length=n then P ds else none)=some r:=h;split at h
   ·intro vs H1 s1 r1;refine⟨hid,ds,(sr.ext s1).trk,r1, ‹_›,r,h,?_⟩;cases r with
    |ok d=>exact λv H' s2 r2=>q v H' (s1.trans s2) (RK.left s1 r2)
    |error z=>exact λC H' s2=>q C H' (s1.trans s2)
   ·cases h
end
abbrev OX:=Except (Ex×aG) Out
abbrev FX:=aG->OX
def EndX(X:Cx)(c:Ct)(k:Kd)(D:Ends)(W:Hp):OX->Prop
 | .ok o=>EndOk X.K c k D W o
 | .error z=> ∀σ' H' hid' C,SR X.K c hid' z.2 σ' H'->Same W (vw H' hid')->uj X.K z.1 C->EX X σ' (.ref C) none H'
theorem EndX.mono {X:Cx}{c:Ct}{k:Kd}{D:Ends}{W W':Hp}{o:OX}(h:EndX X c k D W o)(s:Same W W'):EndX X c k D W' o:=by
 cases o with
 |ok o=>exact EndOk.mono h s
 |error z=>exact λσ' H' hid' C a b=>h σ' H' hid' C a (s.trans b)
def Cr(X:Cx)(c:Ct)(k:Kd)(t:FX)(ρ:aG):TS:=λD σ H=> ∃hid,SR X.K c hid ρ σ H/\EndX X c k D (vw H hid) (t ρ)
def AY(X:Cx)(c:Ct)(k:Kd)(st:Stmt)(t:FX):Prop:= ∀ρ,PS X st (Cr X c k t ρ)
def m5(X:Cx)(c:Ct)(k:Kd)(st:List Stmt)(t:FX):Prop:= ∀ρ,PSs X st (Cr X c k t ρ)
section
variable {X:Cx}{c:Ct}{k:Kd}{st:Stmt}{sts rest:List Stmt}{t u:FX}{e:Expr}{pos pos' p:Pos}{x:Str}{i:Nat}
theorem PS.nox {t:TS}(h:PS X.nox st t):PS X st t:=λaa s σ H D I hw=>
 wpAny_mono (h aa s σ H D (I.wish _) hw) (λ_ _ q=>q.unwish) λ_ _ z=>False.elim z
def qQ(t:FS):FX:=λρ=>.ok (t ρ)
theorem jV {t:FS}(h:DS X.nox c k st t):AY X c k st (qQ t):=λρ=>PS.nox (h ρ)
theorem nz {t:FS}(h:rN X.nox c k sts t):m5 X c k sts (qQ t):=λρ=>PSs.nox (h ρ)
def jE(t u:FX):FX:=λρ=>match t ρ with
 | .ok (.nx ρ')=>u ρ'
 | .ok o=>.ok o
 | .error z=>.error z
theorem mG(h:AY X c k st t):m5 X c k [st] t:=λρ=>ui (h ρ)
theorem fJ(h1:AY X c k st t)(h2:m5 X c k rest u):m5 X c k (st::rest) (jE t u):=λρ=>
 PSs.imp (pO (h1 ρ) (tZ λρ1=>h2 ρ1)) λD σ H hq_=>by
  obtain⟨hid,sr,q⟩:=hq_;refine⟨hid,sr,?_⟩;unfold jE at q;cases e:t ρ with
  |error z=>rw[e] at q;exact q
  |ok o=>
   rw[e] at q;cases o with
   |nx ρ1=>exact λσ1 H1 hid1 sr1 v1=>⟨ρ1,hid1,sr1,EndX.mono q v1⟩
   |rt d ρ1=>exact q
   |bk ρ1=>exact q
   |ct ρ1=>exact q
   |no=>exact q
def Ar(p:FT)(t u:FX):FX:=λρ=>match p ρ with
 |some true=>t ρ
 |some false=>u ρ
 |none=>.ok .no
theorem A4 {p:FT}{a b:List Stmt}(hp:DT X c e p)(ha:m5 X c k a t)(hb:m5 X c k b u):AY X c k (.If e a b pos) (Ar p t u):=λρ=>
 PS.imp (AE (Cg λhid=>hp hid ρ) (ha ρ) (hb ρ)) λD σ H hq_=>by
  obtain⟨hid,sr,q⟩:=hq_;cases e1:p ρ with
  |none=>unfold Ar at q;rw[e1] at q;exact q.elim
  |some x=>
   refine⟨hid,sr,x,e1,λH1 s1=>?_⟩;unfold Ar at q;rw[e1] at q;cases x with
   |true=>exact ss ⟨hid,sr.ext s1,EndX.mono q (aM s1)⟩
   |false=>exact sQ ⟨hid,sr.ext s1,EndX.mono q (aM s1)⟩
theorem wW:m5 X c k [] (qQ skip):=λρ=>PSs.imp uk λD σ H ⟨hid,sr,q⟩=>q σ H hid sr (Same.refl _)
theorem DT.nox {p:FT}(h:DT X.nox c e p):DT X c e p:=λhid ρ=>PT.nox (h hid ρ)
def qt(f:RE):FX:=λρ=>match f ρ with
 |some (.ok d)=>.ok (.rt d ρ)
 |some (.error z)=>.error (z,ρ)
 |none=>.ok .no
theorem uq {f:RE}(he:DR X c k e f)(hk:k≠ .b:=by decide):AY X c k (.Return (some e) pos) (qt f):=λρ=>PS.imp (sL (jW λhid=>he hid ρ)) λD σ H hq_=>by
 obtain⟨hid,sr,q⟩:=hq_;unfold qt at q;cases e1:f ρ with
 |none=>rw[e1] at q;exact q.elim
 |some r=>
  rw[e1] at q;refine⟨hid,sr,r,e1,?_⟩;cases r with
  |ok d=>exact λv H' s r=>q v H' (xx hk (sr.post s r hk) sr.h0)
  |error z=>exact λC H' s hn=>q σ H' hid C (sr.ext s) (aM s) hn
end
theorem zt {K:W.Frag}{h:Heap}{C:Addr}{bmB:List Value}{newId:String}(KI:K.In h)(q:W.excIn K C bmB newId=true): ∃bm N nm qn bs hdct sn sub ab col dd k0 k1 k2 k3 k5 mN,
 h.get? C=some (excClassObj nm qn C N bs bm hdct sn sub ab col dd k0 k1 k2 k3 k5 newId)/\h.Ns N mN/\mN "__init__"=none/\OwnTail h bmB bm:=by
 unfold W.excIn at q;split at q
 ·rename_i dd cd sl ho
  split at q
  ·rename_i C' bm k0 k1 k2 k3 n k5 hm hs
   simp only[Bool.and_eq_true,beq_iff_eq,Bool.not_eq_true'] at q;obtain⟨⟨⟨⟨⟨rfl,rfl⟩,gC⟩,ht⟩,hok⟩,hni⟩:=q;obtain⟨nm,bs,mro,ns,qn,hd,sn,sub,ab,col,del⟩:=cd;dsimp only at hm gC hok hni;subst hm gC;obtain⟨l⟩:=sl;simp only at hs;subst hs;exact⟨bm,ns,nm,qn,bs,hd,sn,sub,ab,col,dd,k0,k1,k2,k3,k5,_,KI _ _ ho,.of_isNs (W.isNs_of_in KI hok),W.nsMap_none_of_in KI hok hni,W.tail_of_in KI ht⟩
  ·cases q
 ·cases q
section
variable {X:Cx}{c:Ct}{k:Kd}{e:Expr}{es:List Expr}{pos np cpos:Pos}{x:Str}{C:Addr}
theorem y4 {aa:List (Addr×Obj)}{σ:St}{H:Hp}{s:Shared}{h':Heap}{ea:Addr}{vs:List Value}(I:Inv X aa σ H s)(m:Heap.MadeExcOf s.heap h' ea (.ref C) vs):
 XS X aa σ H {cls:=.ref C,data:=.plain} ea {s with heap:=h'}:=by
 obtain⟨t,he,htn,ht⟩:=m.there;refine⟨s.heap,frs X.stack,I,⟨λ_ q=>q,λb hb nb=>absurd hb nb⟩,⟨λb o q=>m.keeps b o (W.of_hideAll _ q),?_,uK (I.stack.of_keeps λb o q _=>⟨o,m.keeps b o q,rfl⟩) λ_ q=>q,.inr ⟨_,he,rfl⟩⟩,.of_keeps m.keeps,m.new⟩;cases q:(W.hideAll s.heap (frs X.stack)).get? ea with
 |none=>rfl
 |some o=>have:=W.of_hideAll _ q;rw[m.new] at this;cases this
def xb(z:Ex)(fs:FA):FX:=λρ=>match fs ρ with
 |some ds=>if ds.length<=20 then .error (z,ρ) else .ok .no
 |none=>.ok .no
theorem vq {n:Int}{fs:FA}(hm:X.mg x=some (.ref C))(hN:W.nsIn X.K mainGlobals x=some (some (.ref C)))(ho:W.excIn X.K C pN "ValueError.__new__"=true)(hd:X.A.handled=none)(ha:DA X c (e::es) fs)(hg:Gl X x:=by rfl)(hdb:(x==("__debug__":Str))=false:=by decide)
 (he:starEach (e::es) X.env=(false,eval e X.env)::starEach es X.env:=by rfl) (hpl:(backTo cpos (starEach es X.env)).any (·.1)=false:=by rfl):
 AY X c k (.Raise (some (.Call (.Name x np) (e::es) [] cpos)) none pos) (xb ⟨x,n⟩ fs):=λρ aa s σ H D I hq_=>by
 obtain⟨hid,sr,q⟩:=hq_;unfold xb at q;cases e1:fs ρ with
 |none=>rw[e1] at q;exact q.elim
 |some ds=>
  rw[e1] at q;dsimp only at q
  by_cases hl:ds.length<=20
  ·rw[if_pos hl] at q;obtain⟨bm,N,nm,qn,bs,hdct,sn,sub,ab,col,dd,k0,k1,k2,k3,k5,mN,hC,hNs,hni,T⟩:=zt I.mod.kin ho;refine wpAny_Raise_call_subT (C:=C) (nm:=nm) (q:=qn) (N:=N) (bs:=bs) (bm:=bm) (hdct:=hdct) (sn:=sn) (sub:=sub) (ab:=ab) (col:=col) (dd:=dd) (k0:=k0) (k1:=k1) (k2:=k2) (k3:=k3) (k5:=k5)
    F.excBase_ValueError (mN:=mN) (T.hasType F.excBase_ValueError.hasBase) hd (by rw[he];show(false||(backTo cpos (starEach es X.env)).any (·.1))=false;rw[hpl];rfl) hni (jc I hg hm ⟨rfl,?_⟩ hdb)
   have P:=ha hid ρ cpos aa s σ H (λvs H'=>Same H H'/\Reps X.K (vw H' hid) vs ds) I ⟨sr,ds,e1,λvs H' a b=>⟨a,b⟩⟩;rw[he] at P⊢;refine Calls.evalArgs_plain (wpAny_mono P (λus s1 ⟨vs,H1,I1,r,sm,rp⟩=>⟨rfl,?_,I1.bk _ _ hC,hNs.keeps I1.bk,T.keeps I1.bk,λh' ea m=>?_⟩) λ_ _ y=>y)
   ·show us.length<=sizeLine;rw[<-r.length,rp.length];exact Nat.le_trans hl (by decide)
   ·exact q σ H1 hid C (sr.ext sm) (aM sm) hN aa ea _ _ rfl rfl (y4 I1 m)
  ·rw[if_neg hl] at q;exact q.elim
end
structure RoomU(k:Nat)(A:Around):Prop where
 dp:A.depth+3*k+5<recursionLimit
 un:A.units+16*k+200<cLine
theorem Room.u {k:Nat}{A:Around}(r:Room k A):RoomU k A:=⟨r.dp,r.un⟩
theorem RoomU.mono {j k:Nat}{A:Around}(r:RoomU k A)(h:j<=k):RoomU j A:=⟨by have:=r.dp;omega,by have:=r.un;omega⟩
theorem RoomU.mark {k:Nat}{A:Around}(r:RoomU k A)(v:Option Value):RoomU k (A.mark v):=⟨r.dp,r.un⟩
theorem RoomU.deeper {k:Nat}{A:Around}(r:RoomU (k+1) A)(env:Env):RoomU k (A.deeper env):=
 ⟨by have:=r.dp;show A.depth+1+3*k+5<_;omega,by have:=r.un;show A.units+3+16*k+200<_;omega⟩
theorem RoomU.depth {k:Nat}{A:Around}(r:RoomU k A):A.depth<recursionLimit:=by have:=r.dp;omega
theorem RoomU.units {k:Nat}{A:Around}(r:RoomU k A):A.units+64<cLine:=by have:=r.un;omega
structure FnOkU(P:Program)(w:World)(K:W.Frag)(mg:Str->Option Value)(base:Heap)(CX:pH)(k:Nat)(f:Addr)(fd:FuncData)(ps:List Str)(sp:Sp):Prop where
 len: ∀vs H Q E,sp vs H Q E->vs.length=ps.length
 run: ∀(A:Around) (outer:List Env) (s:Shared) (H:Hp) (args:Args) (us:List Value) (vs:List V) (Q:VK) (E:XK),RoomU k A->Env0 P w K mg base A outer s H->BindsTo s fd args (ps.zip us)->Vals vs us->sp vs H Q E->
  codeAny (model P w) A (.call (.ref f) args) (CR CX outer P w H s Q E) s
def Co(CX:pH)(P:Program)(w:World)(K:W.Frag)(mg:Str->Option Value)(base:Heap)(N:List Str)(qual:Str)(scope:Scope)(f:Addr)(cd:Value)(A:Around)(outer:List Env)(s:Shared)(H:Hp)(E:XK):Cx where
 prog:=P
 w:=w
 K:=K
 mg:=mg
 base:=base
 A:=A.deeper (envOfC qual scope s.heap.objs.size f cd)
 N:=N
 s₀:=s
 H₀:=H
 env:=envOfC qual scope s.heap.objs.size f cd
 outer:=outer
 stack:=envOfC qual scope s.heap.objs.size f cd::outer
 ex:=[]
 calm:=false
 fn:=λ_=>true
 pn:=[]
 xe:=λe s'=>wpAny (model P w) (A.deeper (envOfC qual scope s.heap.objs.size f cd)) (leaving (envOfC qual scope s.heap.objs.size f cd) e) (λ_ s''=>CX outer H s E e s'') (λe' s''=>CX outer H s E e' s'') s'
theorem tI {CX:pH}{P:Program}{w:World}{K:W.Frag}{mg:Str->Option Value}{base:Heap}{N ps:List Str}{qual:Str}{scope:Scope}{f:Addr}{cd:Value}{A:Around}{outer:List Env}{s s1:Shared}{H:Hp}{E:XK}{us:List Value}{vs:List V}
 (S:FnScope N ps scope) (e0:Env0 P w K mg base A outer s H) (hl:vs.length=ps.length) (r:Vals vs us)
 (x:InCallC s s.heap.objs.size (bindL (envOfC qual scope s.heap.objs.size f cd).kindOf (ps.zip us) λ_=>none) (cellsFrom (s.heap.objs.size+1) scope.names []) (bindC (envOfC qual scope s.heap.objs.size f cd).kindOf (ps.zip us) λ_=>none) s1):
 Inv (Co CX P w K mg base N qual scope f cd A outer s H E) [] (dh N vs) H s1:=by
 have hpl:ps.length<=N.length:=by have:=congrArg List.length S.pre;rw[List.length_take] at this;omega
 obtain⟨h1,tk,rfl,hk⟩:=x.done;have noA: ∀b:Addr,b∉(Co CX P w K mg base N qual scope f cd A outer s H E).ex:=λb z=>absurd (show b∈([]:List Addr) from z) (by simp)
 refine⟨⟨e0.mod,S.kind,rfl,rfl,Nat.le_refl _,λy z c h1 h2=>?_,λy hy=>?_,λy c _ h=>?_,(λq=>nomatch q),Around.frames_deeper e0.frames,.inr ⟨rfl,rfl⟩,λb z=>absurd z (noA b),e0.bs,e0.bsz,λb _ _=>noA b,λb z=>absurd z (noA b),e0.funs,e0.frf⟩,
  rfl,e0.bare,Un.kept hk,⟨_,x.toInCall.ns,λi y v h1 h2 h3=>?_⟩,λy c h=>⟨_,x.cell y c h⟩,e0.hok.fresh (Nat.le_refl _),λy c h=>?_,λp hp=>absurd (show p∈([]:List (Addr×Obj)) from hp) (by simp),e0.hok.kept hk,?_⟩
 ·exact name_of_addr x.apart (PySem.mem_of_lookup h1) (PySem.mem_of_lookup h2)
 ·have hy:scope.names.lookup y=some .cell\/scope.names.lookup y=some .free:=hy;rcases hy with hy|hy
  ·exact jP hy
  ·exact absurd rfl (S.nofree _ (PySem.mem_of_lookup hy))
 ·exact Nat.le_of_lt (x.above y c (PySem.mem_of_lookup h))
 ·have hi:i<vs.length:=by
   unfold dh at h2
   by_cases hi:i<vs.length
   ·exact hi
   ·rw[List.getElem?_append_right (by simpa using hi)] at h2;rw[List.getElem?_replicate] at h2;split at h2<;>cases h2
  have ha:vs[i]? =some v:=by
   unfold dh at h2;rw[List.getElem?_append_left (by simpa using hi),List.getElem?_map] at h2;cases e:vs[i]? with
   |none=>rw[e] at h2;cases h2
   |some a=>rw[e] at h2;cases h2;rfl
  obtain⟨u,hu,rv⟩:=r.get ha;have hp:ps[i]? =some y:=by
   rw[<-S.pre,List.getElem?_take_of_lt (by omega)];exact h1
  have ndP:ps.Nodup:=by rw[<-S.pre];exact S.nd.sublist (List.take_sublist _ _)
  refine⟨u,rv,?_⟩;rcases S.par y (List.mem_of_getElem? hp) with k|k
  ·exact .inl ⟨k,ko ndP hp hu k⟩
  ·obtain⟨c,e⟩:=jP (n:=s.heap.objs.size+1) k;refine .inr ⟨.inl k,c,e,?_⟩;have q:=x.cell y c e;rw[kJ ndP hp hu (by show scope.names.lookup y≠_;rw[k];decide)] at q;exact q
 ·exact e0.hok.fresh (Nat.le_of_lt (x.above y c (PySem.mem_of_lookup h)))
 ·unfold dh;show _=N.length;rw[List.length_append,List.length_map,List.length_replicate];omega
theorem BM {CX:pH}{P:Program}{w:World}{K:W.Frag}{mg:Str->Option Value}{base:Heap}{k:Nat}{f:Addr}{name qual:Str}{params:Arguments}{body:List Stmt}{scope:Scope}{dV kV doc pm cdv ct oc:Value}{an od:Option Addr}
 {osl:Array (Option Value)} {N ps:List Str} {sp:Sp} (lk:K.lookup f=some ⟨oc,od,.func (W.fnOf name qual params body scope dV kV doc pm an cdv ct),osl⟩) (hcd:W.codeIn K cdv qual=true) (S:FnScope N ps scope)
 (len: ∀vs H Q E,sp vs H Q E->vs.length=ps.length)
 (hbody: ∀(A:Around) (outer:List Env) (s:Shared) (H:Hp) (vs:List V) (Q:VK) (E:XK),RoomU k (A.deeper (envOfC qual scope s.heap.objs.size f cdv))->sp vs H Q E->
   ∃t,PSs (Co CX P w K mg base N qual scope f cdv A outer s H E) body t/\t {nx:=λ_ H'=>Q .non H',rt:=Q} (dh N vs) H):
 FnOkU P w K mg base CX (k+1) f (W.fnOf name qual params body scope dV kV doc pm an cdv ct) ps sp:=by
 refine⟨len,λA outer s H args us vs Q E hr e0 hb r hsp=>?_⟩;have hl:=len _ _ _ _ hsp;have KX:K.In s.heap:=e0.mod.kin.keeps λb o e=>(e0.bs b o e).1
 have lim:s.heap.NoLimit:=e0.mod.nolimit.keeps λb o e=>(e0.bs b o e).1
 have hkind: ∀y∈ps.zip us,scope.names.lookup y.1=some .local\/(scope.names.lookup y.1=some .cell/\((cellsFrom (s.heap.objs.size+1) scope.names []).lookup y.1).isSome=true):=λ⟨n,v⟩ hy=>by
  rcases S.par n (List.of_mem_zip hy).1 with q|q
  ·exact .inl q
  ·exact .inr ⟨q,W.cellsFrom_some _ _ _ (.inl q)⟩
 refine codeAny_call_function hr.depth (KX _ _ lk) rfl S.co S.gen rfl (W.codeRec_of KX hcd) (hb _ _ _ _ ?_);refine wpAny_newFunctionEnv_cells S.kind hkind λenv he s1 x=>?_
 subst he;refine⟨lim.keeps x.toInCall.keep,codeAny_func ?_⟩;obtain⟨t,ht,hq⟩:=hbody A outer s H vs Q E (hr.deeper _) hsp;have I:Inv (Co CX P w K mg base N qual scope f cdv A outer s H E) [] (dh N vs) H s1:=tI S e0 hl r x;refine wpAny_mono (ht [] s1 (dh N vs) H _ I hq) (λfl s' hs=>?_) λe s' hs=>hs
 have fin: ∀ {σ':St} {H':Hp} {v:V} {u:Value},Inv (Co CX P w K mg base N qual scope f cdv A outer s H E) [] σ' H' s'->RelV v u->Q v H'->CE outer P w H s Q u s':=
  λ{σ' H' v u} J rv q=>⟨v,H',J.os,J.bare,J.base,J.hok,rv,q⟩
 cases fl with
 |ret u=>
  obtain⟨v,σ',H',J,rv,q⟩:=hs;exact fin J rv q
 |next=>
  obtain⟨σ',H',J,q⟩:=hs;exact fin (v:=V.non) (u:=Value.none) J rfl q
 |brk=>
  obtain⟨_,_,_,q⟩:=hs;exact False.elim q
 |cont=>
  obtain⟨_,_,_,q⟩:=hs;exact False.elim q
section
variable {X:Cx}
def E6(neg:Bool):R2:=λx y H Q=>(y=.non\/ ∃b,y=.bl b)/\Q (.bl (if neg then !decide (x=y) else decide (x=y))) H
theorem Ds:lh X (compareOp .Is) (E6 false):=by
 intro aa s σ H x y v u Q I rx ry h;obtain⟨hy,q⟩:=h;have key: ∀b:Bool,b=decide (x=y)->EP X aa σ Q (.bool b) s:=λb e=>⟨.bl b,H,I,rfl,by rw[e];exact q⟩
 rcases hy with rfl|⟨b,rfl⟩
 ·cases ry;exact is_none_gen (key _ rx.none_iff)
 ·cases ry;cases x with
  |non=>cases rx;exact wpAny_pure (key _ (by simp))
  |bl c=>cases rx;exact wpAny_pure (key _ (by rw[Bool.eq_iff_iff];simp))
  |int _=>obtain⟨t,rfl⟩:=rx;exact wpAny_pure (key _ (by simp))
  |str _=>obtain⟨t,rfl⟩:=rx;exact wpAny_pure (key _ (by simp))
  |byt _=>obtain⟨t,rfl⟩:=rx;exact wpAny_pure (key _ (by simp))
  |flt _=>obtain⟨t,rfl⟩:=rx;exact wpAny_pure (key _ (by simp))
  |ref _=>cases rx;exact wpAny_pure (key _ (by simp))
  |ty _=>cases rx;exact wpAny_pure (key _ (by simp))
end
def qJ:D->D->Bool
 | .non,.non=>true
 | .bl a,.bl b=>a==b
 |_,_=>false
def Dg(neg:Bool):D->D->Option D:=λx y=>match y with
 | .non=>some (.bl (if neg then !qJ x y else qJ x y))
 | .bl _=>some (.bl (if neg then !qJ x y else qJ x y))
 |_=>none
theorem Du {K:W.Frag}(neg:Bool):mX K .s (E6 neg) (Dg neg):=by
 intro H hid v u x y d Q hf h r1 r2 q;have key: ∀ {w:V},Rep1 K H (vw H hid) u y->(u=.non\/ ∃b,u=.bl b)->decide (v=u)=qJ x y:=λ{w} _ hu=>by
  cases x with
  |non=>cases r1.non;rcases hu with rfl|⟨b,rfl⟩<;>cases y<;>first|rfl|(cases r2.non;done)|(cases r2.bl;done)|(cases r2.bl;rfl)|(cases r2.int;done)|(cases r2.str;done)|(obtain⟨a,xs,e,_⟩:=r2.tup;cases e;done)|(obtain⟨a,xs,e,_⟩:=r2.lst;cases e;done)|(obtain⟨a,xs,e,_⟩:=r2.scr;cases e;done)
  |bl c=>cases r1.bl;rcases hu with rfl|⟨b,rfl⟩<;>cases y<;>first|rfl|(cases r2.non;done)|(cases r2.bl;show decide (V.bl c=V.bl _)=(c==_);rw[Bool.eq_iff_iff];simp;done)|(cases r2.bl;done)|(cases r2.int;done)|(cases r2.str;done)|(obtain⟨a,xs,e,_⟩:=r2.tup;cases e;done)|(obtain⟨a,xs,e,_⟩:=r2.lst;cases e;done)|(obtain⟨a,xs,e,_⟩:=r2.scr;cases e;done)
  |int i=>cases r1.int;rcases hu with rfl|⟨b,rfl⟩<;>cases y<;>rfl
  |str z=>cases r1.str;rcases hu with rfl|⟨b,rfl⟩<;>cases y<;>rfl
  |tup ds=>obtain⟨a,xs,rfl,_⟩:=r1.tup;rcases hu with rfl|⟨b,rfl⟩<;>cases y<;>rfl
  |lst ds=>obtain⟨a,xs,rfl,_⟩:=r1.lst;rcases hu with rfl|⟨b,rfl⟩<;>cases y<;>rfl
  |scr ds=>obtain⟨a,xs,rfl,_⟩:=r1.scr;rcases hu with rfl|⟨b,rfl⟩<;>cases y<;>rfl
 unfold Dg at h;split at h
 ·have hu:u=.non:=r2.non;cases h;refine⟨.inl hu,?_⟩;rw[key (w:=v) r2 (.inl hu)];exact q _ H (Same.refl _) .bl
 ·have hu:=r2.bl;cases h;refine⟨.inr ⟨_,hu⟩,?_⟩;rw[key (w:=v) r2 (.inr ⟨_,hu⟩)];exact q _ H (Same.refl _) .bl
 ·cases h
def Cb(kd:Kd)(n:Nat)(t:FX)(ds:List D):Option (Except Ex D):=match t (cS n ds) with
 | .ok (.rt d _)=>some (.ok d)
 | .ok (.nx _)=>(match kd with
   | .n=>none
   |_=>some (.ok .non))
 | .ok _=>none
 | .error z=>some (.error z.1)
section
variable {P:Program}{w:World}{K:W.Frag}{mg:Str->Option Value}{base:Heap}{x:Str}{st:Stmt}{N ps:List Str}{k n:Nat}{kd:Kd}
theorem yo {t:FX}(F:Df K mg x st ps)(S:FnScope N ps (au st))(hkd:kd≠ .b)(hn:ps.length=n)
 (body: ∀(f:Addr) (cdv:Value) (A:Around) (outer:List Env) (s:Shared) (H:Hp) (hid:bw) (E:XK),Room k (A.deeper (envOfC x (au st) s.heap.objs.size f cdv))->
   m5 (kQ (DH P w) P w K mg base N x (au st) f cdv A outer s H E) ⟨H,hid,λ_=>false⟩ kd (aR st) t):
 ClX P w K mg base (k+1) x ps (CJ K kd n (Cb kd N.length t)):=by
 obtain⟨f,fd,F,hm,hb⟩:=F.ex;subst hn;refine⟨f,fd,?_,hm,F.kp,hb⟩;obtain⟨oc,od,kV,doc,pm,an,cdv,ct,osl,rfl,lk,hcd⟩:=F.ex;refine As lk hcd S (λvs H Q E h=>?_) λA outer s H vs Q E hr h=>?_
 ·obtain⟨hid,ds,_,r,hl,_⟩:=h;rw[r.length,hl]
 ·obtain⟨hid,ds,tr,r,hl,r0,hP,q⟩:=h;refine⟨_,body f cdv A outer s H hid E hr (cS N.length ds),hid,SR.begins tr r,?_⟩;unfold Cb at hP;cases e:t (cS N.length ds) with
  |error z=>
   rw[e] at hP;cases hP;intro σ' H' hid' C sr _ hn aa ea o0 s' hc hd xs;have sm:Same H H':=λb o z=>sr.kp b o z rfl
   exact wK xs hc hd (q C H' sm hn) λs'' h=>h
  |ok o=>
   rw[e] at hP;cases o with
   |nx ρ=>
    intro σ' H' hid' sr _;have sm:Same H H':=λb o z=>sr.kp b o z rfl
    cases kd with
    |b=>exact absurd rfl hkd
    |s=>cases hP;exact q _ H' sm .non
    |n=>cases hP
   |rt d' ρ=>
    cases hP;intro v H' R;have sm:Same H H':=λb o z=>R.kp b o z rfl
    cases kd with
    |b=>exact absurd rfl hkd
    |s=>exact q v H' sm R.val
    |n=>exact q v H' sm R.val
   |bk ρ=>cases hP
   |ct ρ=>cases hP
   |no=>cases hP
def Cp(K:W.Frag)(k:Kd)(M:Ex->Option D):Sp:=λvs H Q _=> ∃hid a z,vs=[.ref a]/\B9 hid H/\(∃φ,vw H hid a=some (.ext φ)/\ ∀h,φ h->ExcAt K z.x z.n a h)/\ ∃d,M z=some d/\ ∀v H',Same H H'->RK K k H H' hid v d->Q v H'
structure ClU(P:Program)(w:World)(K:W.Frag)(mg:Str->Option Value)(base:Heap)(k:Nat)(x:Str)(ps:List Str)(sp:Sp):Prop where
 ex: ∃f fd,FnOkU P w K mg base nU k f fd ps sp/\mg x=some (.ref f)/\W.keepIn K (.ref f)=true/\Binds K fd ps []
def rW(n:Nat)(z:Ex):aG:=.ob (.exc z.x z.n)::List.replicate (n-1) .no
def Ez(n:Nat)(t:FS)(z:Ex):Option D:=match t (rW n z) with
 | .rt d _=>some d
 |_=>none
theorem Aa {t:FS}{y:Str}(F:Df K mg x st [y])(S:FnScope N [y] (au st))
 (body: ∀(f:Addr) (cdv:Value) (A:Around) (outer:List Env) (s:Shared) (H:Hp) (hid:bw) (E:XK),RoomU k (A.deeper (envOfC x (au st) s.heap.objs.size f cdv))->
   rN (Co nU P w K mg base N x (au st) f cdv A outer s H E).nox ⟨H,hid,λ_=>false⟩ .s (aR st) t):
 ClU P w K mg base (k+1) x [y] (Cp K .s (Ez N.length t)):=by
 obtain⟨f,fd,F,hm,hb⟩:=F.ex;refine⟨f,fd,?_,hm,F.kp,hb⟩;obtain⟨oc,od,kV,doc,pm,an,cdv,ct,osl,rfl,lk,hcd⟩:=F.ex;refine BM lk hcd S (λvs H Q E h=>?_) λA outer s H vs Q E hr h=>?_
 ·obtain⟨hid,a,z,rfl,_⟩:=h;rfl
 ·obtain⟨hid,a,z,rfl,tr,hx,d,hM,q⟩:=h;have hN:0<N.length:=by have:=congrArg List.length S.pre;rw[List.length_take] at this;simp at this;omega
  refine⟨_,PSs.nox (body f cdv A outer s H hid E hr (rW N.length z)),hid,⟨tr.1,tr.2,λ_ h=>h,λ_ _ h _=>h,λb o h=>⟨o,h⟩,tr.1,(λ_ h=>nomatch h),?_,λi s e=>?_,λi j b ne o1 o2 _ _=>?_⟩,?_⟩
  ·unfold dh rW;simp
  ·cases i with
   |zero=>
    unfold rW at e;simp at e;subst e;exact⟨a,rfl,hx⟩
   |succ i=>
    unfold rW at e;rw[List.getElem?_cons_succ,List.getElem?_replicate] at e;split at e
    ·cases e;trivial
    ·cases e
  ·cases i with
   |zero=>exact o1.elim
   |succ i=>
    unfold rW at o1;rw[List.getElem?_cons_succ,List.getElem?_replicate] at o1;split at o1<;>exact o1.elim
  ·unfold Ez at hM;cases e:t (rW N.length z) with
   |rt d' ρ=>
    rw[e] at hM;cases hM;exact λv H' R=>q v H' (λb o z=>R.kp b o z rfl) R.val
   |nx ρ=>rw[e] at hM;cases hM
   |bk ρ=>rw[e] at hM;cases hM
   |ct ρ=>rw[e] at hM;cases hM
   |no=>rw[e] at hM;cases hM
end
section
variable {X:Cx}{c:Ct}{k:Kd}{e:Expr}{pos p py:Pos}{x y:Str}{ps:List Str}{j i:Nat}
def AB(i:Nat)(M:Ex->Option D):FE:=λρ=>match ρ[i]? with
 |some (.ob (.exc x n))=>M ⟨x,n⟩
 |_=>none
theorem AV(i:Nat){M:Ex->Option D}(C:ClU X.prog X.w X.K X.mg X.base j x ps (Cp X.K k M))(hr:RoomU j X.A)(hN:X.N[i]? =some y:=by rfl)(hv:nB X.env.scope y:=by first|exact Or.inl rfl|exact Or.inr (Or.inl rfl)|exact Or.inr (Or.inr rfl))(hd:(y==("__debug__":Str))=false:=by decide)
 (hcd:(y==("__classdict__":Str))=false:=by decide) (hs:starEach [.Name y py] X.env=(false,eval (.Name y py) X.env)::starEach [] X.env:=by rfl) (hg:Gl X x:=by rfl) (hdb:(x==("__debug__":Str))=false:=by decide) (hpl:(backTo pos (starEach [] X.env)).any (·.1)=false:=by rfl):
 DP X c k (.Call (.Name x p) [.Name y py] [] pos) (AB i M):=λhid ρ aa s σ H Q I hq_=>by
 obtain⟨sr,d,hd',q⟩:=hq_;obtain⟨f,fd,F,hm,hk,hb⟩:=C.ex;unfold AB at hd';split at hd'
 ·rename_i x' n' e'
  obtain⟨a,z1,z2⟩:=sr.sl i _ e';refine wpAny_Call_Name_kw (jc I hg hm ?_ hdb);refine W.callWith_K (h₀:=X.base) I.ok.mod.kin hk (cq (bV (pv i hN hv hd hcd) fu hs pos aa s σ H (λvs H'=>vs=[.ref a]/\H'=H) I ⟨.ref a,z1,rfl,rfl⟩) λus s1 ⟨vs,H1,I1,r,ev,eH⟩=>⟨I1.kIn,?_⟩) hs hpl;subst ev eH;have hsp:Cp X.K k M [.ref a] H1 Q E0:=⟨hid,a,⟨x',n'⟩,rfl,sr.trk,z2,d,hd',q⟩
  have hl:(us++[]).length=ps.length:=by rw[List.append_nil,<-r.length];exact F.len _ _ _ _ hsp
  have hb':=hb s1 us I1.kIn hl;rw[List.append_nil] at hb';refine wpAny_call (codeAny_mono (F.run X.A X.stack s1 H1 ⟨us,[]⟩ us [.ref a] Q E0 hr I1.env0 hb' r hsp) λr s' hq=>?_);cases r with
  |error e=>exact hq.elim
  |ok fl=>
   cases fl with
   |ret u=>exact I1.after hq
   |next=>exact False.elim hq
   |brk=>exact False.elim hq
   |cont=>exact False.elim hq
 ·cases hd'
end
def mC(x y:Str):Bool:=x==y||y==("RookError":Str)
structure ExRow(K:W.Frag)(mg:Str->Option Value)(CR:Addr)(x:Str)(C:Addr):Prop where
 mg:mg x=some (.ref C)
 ns:W.nsIn K mainGlobals x=some (some (.ref C))
 cc:ExcC K C
 ty:W.typeIn K (.ref C)=some (.type "type")
 mr: ∃cd,W.clsIn K C=some cd/\cd.mro=(if C=CR then .ref CR::pN else .ref C:: .ref CR::pN)
structure ExTab(K:W.Frag)(mg:Str->Option Value)(CR:Addr)(tbl:List (Str×Addr)):Prop where
 row: ∀p∈tbl,ExRow K mg CR p.1 p.2
 root:(("RookError":Str),CR)∈tbl
 nd:(tbl.map (·.2)).Nodup
section
variable {K:W.Frag}{mg:Str->Option Value}{CR:Addr}{tbl:List (Str×Addr)}
theorem jd: ∀ {l:List (Str×Addr)},(l.map (·.2)).Nodup-> ∀ {p q:Str×Addr},p∈l->q∈l->p.2=q.2->p=q
 | [],_,_,_,h,_,_=>nomatch h
 |a::l,nd,p,q,hp,hq,e=>by
  rw[List.map_cons,List.nodup_cons] at nd;rcases List.mem_cons.mp hp with ep|ep
  ·rcases List.mem_cons.mp hq with eq|eq
   ·rw[ep,eq]
   ·exact absurd (List.mem_map.mpr ⟨q,eq,by rw[<-e,ep]⟩) nd.1
  ·rcases List.mem_cons.mp hq with eq|eq
   ·exact absurd (List.mem_map.mpr ⟨p,ep,by rw[e,eq]⟩) nd.1
   ·exact jd nd.2 ep eq e
theorem ExTab.addr(T:ExTab K mg CR tbl){p q:Str×Addr}(hp:p∈tbl)(hq:q∈tbl)(e:p.1=q.1):p.2=q.2:=by
 have h1:=(T.row p hp).ns;have h2:=(T.row q hq).ns;rw[e,h2] at h1;injection h1 with h1
 injection h1 with h1
 exact(Value.ref.inj h1).symm
theorem ExTab.mro(T:ExTab K mg CR tbl){p q:Str×Addr}(hp:p∈tbl)(hq:q∈tbl):W.mroIn K p.2 (.ref q.2)=some (mC p.1 q.1):=by
 obtain⟨cd,h1,h2⟩:=(T.row p hp).mr;unfold W.mroIn;rw[h1,Option.bind_some,h2];have hr:q.2=CR↔q.1=("RookError":Str):=⟨λe=>by rw[jd T.nd hq T.root e],λe=>T.addr hq T.root e⟩
 have hs:p.2=q.2↔p.1=q.1:=⟨λe=>by rw[jd T.nd hp hq e],T.addr hp hq⟩
 have ev:mC p.1 q.1=(decide (p.2=q.2)||decide (q.2=CR)):=by
  unfold mC;congr 1
  ·rw[Bool.eq_iff_iff,beq_iff_eq,decide_eq_true_eq];exact hs.symm
  ·rw[Bool.eq_iff_iff,beq_iff_eq,decide_eq_true_eq];exact hr.symm
 rw[ev]
 by_cases e:p.2=CR
 ·rw[if_pos e,if_neg (by simp)];congr 1;rw[e,Bool.eq_iff_iff,List.contains_iff_mem,Bool.or_eq_true,decide_eq_true_eq,decide_eq_true_eq,List.mem_cons];exact⟨λh=>h.elim (λh=>.inl (Value.ref.inj h).symm) λh=>by simp[pN] at h,λh=>.inl (h.elim (λh=>by rw[h]) λh=>by rw[h])⟩
 ·rw[if_neg e,if_neg (by simp)];congr 1;rw[Bool.eq_iff_iff,List.contains_iff_mem,Bool.or_eq_true,decide_eq_true_eq,decide_eq_true_eq,List.mem_cons,List.mem_cons];exact⟨λh=>h.elim (λh=>.inl (Value.ref.inj h).symm) λh=>h.elim (λh=>.inr (Value.ref.inj h)) λh=>by simp[pN] at h,λh=>h.elim (λh=>.inl (by rw[h])) λh=>.inr (.inl (by rw[h]))⟩
theorem ExTab.one(T:ExTab K mg CR tbl){p q:Str×Addr}(hp:p∈tbl)(hq:q∈tbl):W.kitOne K (.ref p.2) (.ref q.2)=some (mC p.1 q.1):=by
 unfold W.kitOne
 by_cases e:(Value.ref p.2==Value.ref q.2)=true
 ·rw[if_pos e];have e':p.2=q.2:=Value.ref.inj (beq_iff_eq.mp e);rw[jd T.nd hp hq e'];unfold mC;simp
 ·rw[if_neg e];unfold W.kitCls;obtain⟨cd,h1,_⟩:=(T.row q hq).mr;dsimp only;rw[h1,(T.row q hq).ty,if_pos (by simp)];exact T.mro hp hq
theorem mR:W.kitMeta "ValueError"=true:=by kernel_rfl
theorem ExTab.val(T:ExTab K mg CR tbl){p:Str×Addr}(hp:p∈tbl):W.kitOne K (.ref p.2) (.type "ValueError")=some true:=by
 obtain⟨cd,h1,h2⟩:=(T.row p hp).mr;unfold W.kitOne;rw[if_neg (by simp)];unfold W.kitCls;dsimp only;rw[if_pos mR];show W.mroIn K p.2 (.type "ValueError")=_;unfold W.mroIn;rw[h1,Option.bind_some,h2]
 by_cases e:p.2=CR
 ·rw[if_pos e,if_neg (by simp)];rfl
 ·rw[if_neg e,if_neg (by simp)];rfl
end
theorem ExcAt.inst {K:W.Frag}{x:Str}{n:Int}{a C:Addr}{h:Heap}(e:ExcAt K x n a h)(ns:W.nsIn K mainGlobals x=some (some (.ref C))): ∃o,W.InstAt h a o C none:=by
 obtain⟨C',o,h1,h2,h3,h4,h5⟩:=e;rw[ns] at h1;cases h1;exact⟨o,h2,h3,h5,by rw[h4];trivial⟩
section
variable {X:Cx}{c:Ct}{k:Kd}{e:Expr}{pos p p1 p2 p3 py:Pos}{x y z:Str}{i:Nat}{CR C:Addr}{tbl:List (Str×Addr)}
def El(K:W.Frag):List V->Hp->VK->Prop:=λxs H Q=> ∃a v C b,xs=[.ref a,v]/\(∃φ,H a=some (.ext φ)/\ ∀h,φ h-> ∃o,W.InstAt h a o C none)/\ExcC K C/\
 ((∃D,v=.ref D/\W.kitOne K (.ref C) (.ref D)=some b)\/(∃T,v=.ty T/\W.kitOne K (.ref C) (.type T)=some b)\/ ∃(t:Addr) (ds:List Addr),v=.ref t/\H t=some (.tup (ds.map V.ref))/\W.kitAny K (.ref C) (ds.map Value.ref)=some b)/\Q (.bl b) H
theorem j4: ∀ {ds:List Addr} {us:List Value},Vals (ds.map V.ref) us->us=ds.map Value.ref
 | [],_,.nil=>rfl
 |_::_,_,.cons r t=>by cases r;rw[j4 t];rfl
theorem qR:fO X (.builtin "isinstance") (El X.K):=by
 intro aa s σ H xs us Q I r h;obtain⟨a,v,C,b,rfl,⟨φ,h1,h2⟩,ec,hv,q⟩:=h;obtain⟨p1,_,_⟩:=I.hok a _ h1;have inst:=h2 _ p1;cases r with
 |cons r0 r1=>
  cases r1 with
  |cons r1 r2=>
   cases r2;cases r0;have fin: ∀tk,EP X aa σ Q (.bool b) {s with toks:=tk}:=λtk=>⟨.bl b,H,I.tok tk,rfl,q⟩
   have nb:(Value.ref a)≠ .builtin "__main__.__loader__#opaque":=λz=>by cases z
   rcases hv with⟨D,rfl,e⟩|⟨T,rfl,e⟩|⟨t,ds,rfl,ht,e⟩
   ·cases r1;exact W.kia_one (oB ec) I.kIn inst e nb fin
   ·cases r1;exact W.kia_one (oB ec) I.kIn inst e nb fin
   ·cases r1;obtain⟨_,its,rv,⟨o,g1,g2,n,g3⟩,_⟩:=I.hok t _ ht;have ei:=j4 rv;subst ei;obtain⟨oc,od,dt,sl⟩:=o;dsimp only at g2 g3;subst g2 g3;exact W.kia_tup (oB ec) I.kIn inst g1 e nb fin
def lQ(i:Nat)(ns ys:List Str):FE:=AB i λz=>if ns.contains z.x=true/\ys.all (λy=>ns.contains y)=true then some (.bl (ys.any λy=>mC z.x y)) else none
def BH(i:Nat)(ns:List Str):FE:=AB i λz=>if ns.contains z.x=true then some (.bl true) else none
theorem pd {ns:List Str}{tbl:List (Str×Addr)}(e:tbl.map (·.1)=ns){x:Str}(h:ns.contains x=true): ∃C,(x,C)∈tbl:=by
 rw[<-e,List.contains_iff_mem] at h;obtain⟨q,h1,h2⟩:=List.mem_map.mp h;exact⟨q.2,by rw[<-h2];exact h1⟩
theorem wf {K:W.Frag}{hid:bw}{H:Hp}{a:Addr}{x:Str}{n:Int}(h:ObOk K c hid H a (.exc x n))(ns:W.nsIn K mainGlobals x=some (some (.ref C))): ∃φ,H a=some (.ext φ)/\ ∀h,φ h-> ∃o,W.InstAt h a o C none:=by
 obtain⟨φ,h1,h2⟩:=h;exact⟨φ,di _ _ _ _ h1,λh q=>(h2 h q).inst ns⟩
variable(T:ExTab X.K X.mg CR tbl)
include T
theorem fF(i:Nat){ns:List Str}{D:Addr}(hT:tbl.map (·.1)=ns)(hD:(y,D)∈tbl)(hm:X.mg "isinstance"=none)(hN:X.N[i]? =some z:=by rfl)(hv:nB X.env.scope z:=by first|exact Or.inl rfl|exact Or.inr (Or.inl rfl)|exact Or.inr (Or.inr rfl))(hd:(z==("__debug__":Str))=false:=by decide)(hcd:(z==("__classdict__":Str))=false:=by decide)
 (hg:Gl X "isinstance":=by rfl) (hgy:Gl X y:=by rfl) (hbv:bootBuiltins "isinstance"=some (.builtin "isinstance"):=by kernel_rfl) (hdy:(y==("__debug__":Str))=false:=by decide)
 (hs1:starEach [.Name z p1,.Name y p2] X.env=(false,eval (.Name z p1) X.env)::starEach [.Name y p2] X.env:=by rfl) (hs2:starEach [.Name y p2] X.env=(false,eval (.Name y p2) X.env)::starEach [] X.env:=by rfl) (hpl:(backTo pos (starEach [.Name y p2] X.env)).any (·.1)=false:=by rfl):
 DP X c .s (.Call (.Name "isinstance" p) [.Name z p1,.Name y p2] [] pos) (lQ i ns [y]):=λhid ρ=>
 PE.imp (iQ qR hg hm hbv (bV (pv i hN hv hd hcd) (bV (yV (v:=.ref D) hgy (T.row _ hD).mg rfl hdy) fu hs2) hs1) (by decide) (by decide) hs1 hpl) λσ H Q hq_=>by
  obtain⟨sr,d,hd,q⟩:=hq_;unfold lQ AB at hd;split at hd
  ·rename_i x' n' e'
   dsimp only at hd;split at hd
   ·rename_i hc
    cases hd;obtain⟨a,z1,z2⟩:=sr.sl i _ e';obtain⟨C,hC⟩:=pd hT hc.1;refine⟨.ref a,z1,a,.ref D,C,mC x' y,rfl,wf z2 (T.row _ hC).ns,(T.row _ hC).cc,.inl ⟨D,rfl,T.one hC hD⟩,?_⟩;have:=q (.bl (mC x' y)) H (Same.refl _);simp only[List.any_cons,List.any_nil,Bool.or_false] at this;exact this .bl
   ·cases hd
  ·cases hd
theorem zv(i:Nat){ns:List Str}(hT:tbl.map (·.1)=ns)(hm:X.mg "isinstance"=none)(hmv:X.mg "ValueError"=none)(hN:X.N[i]? =some z:=by rfl)(hv:nB X.env.scope z:=by first|exact Or.inl rfl|exact Or.inr (Or.inl rfl)|exact Or.inr (Or.inr rfl))(hd:(z==("__debug__":Str))=false:=by decide)(hcd:(z==("__classdict__":Str))=false:=by decide)
 (hg:Gl X "isinstance":=by rfl) (hgy:Gl X "ValueError":=by rfl) (hbv:bootBuiltins "isinstance"=some (.builtin "isinstance"):=by kernel_rfl) (hbw:bootBuiltins "ValueError"=some (.type "ValueError"):=by kernel_rfl)
 (hs1:starEach [.Name z p1,.Name "ValueError" p2] X.env=(false,eval (.Name z p1) X.env)::starEach [.Name "ValueError" p2] X.env:=by rfl) (hs2:starEach [.Name "ValueError" p2] X.env=(false,eval (.Name "ValueError" p2) X.env)::starEach [] X.env:=by rfl) (hpl:(backTo pos (starEach [.Name "ValueError" p2] X.env)).any (·.1)=false:=by rfl):
 DP X c .s (.Call (.Name "isinstance" p) [.Name z p1,.Name "ValueError" p2] [] pos) (BH i ns):=λhid ρ=>
 PE.imp (iQ qR hg hm hbv (bV (pv i hN hv hd hcd) (bV (uO (v:=.ty "ValueError") hgy hmv hbw rfl) fu hs2) hs1) (by decide) (by decide) hs1 hpl) λσ H Q hq_=>by
  obtain⟨sr,d,hd,q⟩:=hq_;unfold BH AB at hd;split at hd
  ·rename_i x' n' e'
   dsimp only at hd;split at hd
   ·rename_i hc
    cases hd;obtain⟨a,z1,z2⟩:=sr.sl i _ e';obtain⟨C,hC⟩:=pd hT hc;exact⟨.ref a,z1,a,.ty "ValueError",C,true,rfl,wf z2 (T.row _ hC).ns,(T.row _ hC).cc,.inr (.inl ⟨_,rfl,T.val hC⟩),q (.bl true) H (Same.refl _) .bl⟩
   ·cases hd
  ·cases hd
end
abbrev Cx.inTry(X:Cx)(pn:List (Addr×Obj))(E:Value->Shared->Prop):Cx:={X with pn:=pn,xe:=E}
abbrev Cx.caught(X:Cx)(v:Option Value):Cx:={X with A:=X.A.mark v,calm:=false,xe:=λ_ _=>False}
section
variable {X:Cx}{aa pins':List (Addr×Obj)}{σ:St}{H:Hp}{s:Shared}{E:Value->Shared->Prop}{v:Option Value}{a:Addr}
theorem Cx.Ok.inTry {pn:List (Addr×Obj)}(ok:X.Ok):(X.inTry pn E).Ok:=⟨ok.mod,ok.kind,ok.glob,ok.blt,ok.above,ok.inj,ok.has,ok.cab,ok.hd,ok.frames,ok.stk,ok.exf,ok.bs,ok.bsz,ok.noex,ok.exfs,ok.funs,ok.frf⟩
theorem Cx.Ok.outTry {pn:List (Addr×Obj)}(ok:(X.inTry pn E).Ok):X.Ok:=⟨ok.mod,ok.kind,ok.glob,ok.blt,ok.above,ok.inj,ok.has,ok.cab,ok.hd,ok.frames,ok.stk,ok.exf,ok.bs,ok.bsz,ok.noex,ok.exfs,ok.funs,ok.frf⟩
theorem Inv.inTry(I:Inv X aa σ H s):Inv (X.inTry (X.pn++aa) E) [] σ H s:=
 ⟨I.ok.inTry,I.os,I.bare,I.base,I.loc,I.cell,I.free,I.freeC,λp hp=>I.pin p (by rw[List.append_nil] at hp;exact hp),I.hok,I.len⟩
theorem Inv.outTry(I:Inv (X.inTry (X.pn++aa) E) pins' σ H s):Inv X aa σ H s:=
 ⟨I.ok.outTry,I.os,I.bare,I.base,I.loc,I.cell,I.free,I.freeC,λp hp=>I.pin p (List.mem_append_left _ hp),I.hok,I.len⟩
theorem Inv.caught(I:Inv X aa σ H s):Inv (X.caught v) aa σ H s:=
 ⟨⟨I.ok.mod,I.ok.kind,I.ok.glob,I.ok.blt,I.ok.above,I.ok.inj,I.ok.has,I.ok.cab,(λq=>nomatch q),I.ok.frames,I.ok.stk,I.ok.exf,I.ok.bs,I.ok.bsz,I.ok.noex,I.ok.exfs,I.ok.funs,I.ok.frf⟩,I.os,I.bare,I.base,I.loc,I.cell,I.free,I.freeC,I.pin,I.hok,I.len⟩
theorem Inv.uncaught(ok:X.Ok)(I:Inv (X.caught v) aa σ H s):Inv X aa σ H s:=⟨ok,I.os,I.bare,I.base,I.loc,I.cell,I.free,I.freeC,I.pin,I.hok,I.len⟩
theorem SP.outTry {D:Ends}{f:Flow}(h:SP (X.inTry (X.pn++aa) E) pins' D f s):SP X aa D f s:=by
 cases f with
 |next=>obtain⟨σ',H',I,q⟩:=h;exact⟨σ',H',I.outTry,q⟩
 |brk=>obtain⟨σ',H',I,q⟩:=h;exact⟨σ',H',I.outTry,q⟩
 |cont=>obtain⟨σ',H',I,q⟩:=h;exact⟨σ',H',I.outTry,q⟩
 |ret u=>obtain⟨v,σ',H',I,r,q⟩:=h;exact⟨v,σ',H',I.outTry,r,q⟩
theorem XS.outTry {o0:Obj}{ea:Addr}(x:XS (X.inTry (X.pn++aa) E) pins' σ H o0 ea s):XS X aa σ H o0 ea s:=by
 obtain⟨g,F,I,aw,fl,up,gn⟩:=x;exact⟨g,F,I.outTry,⟨aw.1,λb hb nb=>⟨(aw.2 b hb nb).1,(aw.2 b hb nb).2.1,(aw.2 b hb nb).2.2.1,(aw.2 b hb nb).2.2.2.1,λp hp=>(aw.2 b hb nb).2.2.2.2 p (List.mem_append_left _ hp)⟩⟩,fl,up,gn⟩
theorem ObjOk.there {P:Program}{w:World}{h:Heap}{o:HO}(x:ObjOk P w H h a o): ∃u,h.get? a=some u:=by
 induction o with
 |lst xs=>obtain⟨_,_,_,_,e⟩:=x;exact⟨_,e⟩
 |tup xs=>obtain⟨_,_,_,⟨_,e,_⟩,_⟩:=x;exact⟨_,e⟩
 |dK kvs=>obtain⟨_,_,_,_,o,_,_,e,_⟩:=x;exact⟨_,e⟩
 |dT kvs=>obtain⟨_,_,_,_,o,_,_,e,_⟩:=x;exact⟨_,e⟩
 |set S n=>obtain⟨o,_,_,_,e,_⟩:=x;exact⟨_,e⟩
 |tst xs=>obtain⟨o,_,_,_,e,_⟩:=x;exact⟨_,e⟩
 |ins C dx fs=>obtain⟨_,_,_,e,_⟩:=x;exact⟨_,e⟩
 |own y=>obtain⟨_,e⟩:=x;exact⟨_,e⟩
 |xd fs=>obtain⟨_,⟨_,_,_,e,_⟩,_⟩:=x;exact⟨_,e⟩
 |rng lo hi=>obtain⟨_,_,_,e⟩:=x;exact⟨_,e⟩
 |frz ob u ih=>obtain⟨e,_⟩:=x;exact⟨_,e⟩
 |nst p u ih=>exact ih x
 |tbl ps=>exact⟨_,show h.get? a=some _ from x⟩
 |met f y=>exact⟨_,show h.get? a=some _ from x⟩
 |ext φ=>obtain⟨_,⟨_,e⟩,_⟩:=x;exact⟨_,e⟩
theorem Inv.newer {g:Heap}(Ig:Inv X aa σ H {s with heap:=g})(gn:g.get? a=none):H a=none:=by
 cases q:H a with
 |none=>rfl
 |some u=>
  obtain⟨o,e⟩:=(Ig.hok a u q).there;rw[show g.get? a=some o from e] at gn;cases gn
theorem Inv.track {g:Heap}{o:Obj}{φ:Heap->Prop}(I:Inv X aa σ H s)(Ig:Inv X aa σ H {s with heap:=g})(gn:g.get? a=none)(ho:s.heap.get? a=some o)(hφ:φ s.heap)
 (hst: ∀h1 h2:Heap,φ h1->(∀o,h1.get? a=some o->h2.get? a=some o)->φ h2):Inv X aa σ (cb H a (.ext φ)) s:=by
 have Ha:=Ig.newer gn;have ne: ∀ {b o},g.get? b=some o->b≠a:=λ{b o} e z=>by rw[z,gn] at e;cases e
 have nt: ∀ {b u},H b=some u->b≠a:=λ{b u} e z=>by rw[z,Ha] at e;cases e
 have hL:X.env.locals≠a:=by
  obtain⟨m,⟨o',es,ep,e,_⟩,_⟩:=Ig.loc;exact ne e
 refine⟨I.ok,I.os,I.bare,⟨I.base.keep,I.base.slot,λb ob e n hx=>?_,I.base.there,λb xs e=>?_,λb ob u e=>?_,λb ps e=>?_⟩,I.loc,I.cell,?_,λx c e=>?_,λp hp=>?_,λb u e=>?_,I.len⟩
 ·obtain⟨o',e'⟩:=Ig.base.there b ob e hx;rw[aH (ne e')];exact I.base.free b ob e n hx
 ·have:=I.base.tups b xs e;rw[aH (nt this)];exact this
 ·have:=I.base.frzs b ob u e;rw[aH (nt this)];exact this
 ·obtain⟨m,e'⟩:=I.base.tbls b ps e;exact⟨m,by rw[aH (nt e')];exact e'⟩
 ·rw[aH hL];exact I.free
 ·obtain⟨w,o',e',_⟩:=Ig.cell x c e;rw[aH (ne e')];exact I.freeC x c e
 ·obtain⟨h1,h2,h3⟩:=I.pin p hp;exact⟨h1,by rw[aH (ne (Ig.pin p hp).1)];exact h2,h3⟩
 ·by_cases z:b=a
  ·subst z;rw[aN] at e;cases e;exact⟨hφ,⟨o,ho⟩,hst⟩
  ·rw[aH z] at e;exact(I.hok b u e).stay (λ_ _ _ q=>q) (λc q=>by rw[aH (nt q)];exact q) λc xs q=>by rw[aH (nt q)];exact q
theorem Inv.blind {h':Heap}{t':Nat}{m':Str->Option Value}(I:Inv X aa σ H s)(hn:h'.Ns X.env.locals m')(sb:Heap.SameBut X.env.locals s.heap h'):Inv X aa (List.replicate X.N.length none) H {s with heap:=h',toks:=t'}:=by
 have kp: ∀b o,b≠X.env.locals->s.heap.get? b=some o->h'.get? b=some o:=λb o n e=>(sb.2 b n).trans e
 have n0: ∀ {b o},X.s₀.heap.get? b=some o->b≠X.env.locals:=λ{b o} e z=>by
  have:=Heap.lt_size e;rw[z] at this;exact absurd this (Nat.not_lt.mpr I.ok.above)
 refine⟨I.ok,I.os,I.bare,⟨λb o e n hf hx=>kp b o (n0 e) (I.base.keep b o e n hf hx),λb o e n hf hx=>?_,I.base.free,λb o e hx=>?_,I.base.tups,I.base.frzs,I.base.tbls⟩,⟨m',hn,λi x v _ e=>?_⟩,λx c e=>?_,I.free,I.freeC,λp hp=>?_,λb u e=>?_,by simp⟩
 ·obtain⟨sl,q⟩:=I.base.slot b o e n hf hx;exact⟨sl,kp b _ (n0 e) q⟩
 ·obtain⟨o',q⟩:=I.base.there b o e hx;exact⟨o',kp b _ (n0 e) q⟩
 ·rw[List.getElem?_replicate] at e;split at e<;>cases e
 ·obtain⟨v,o,q,r⟩:=I.cell x c e;exact⟨v,o,kp c o (I.cne x c e) q,r⟩
 ·obtain⟨h1,h2,h3,h4⟩:=I.pin p hp;exact⟨kp _ _ h3 h1,h2,h3,h4⟩
 ·refine(I.hok b u e).stay (λc o hc q=>kp c o (λz=>?_) q) (λ_ q=>q) λ_ _ q=>q
  have:=I.free;rw[<-z] at this;rcases hc with rfl|hc
  ·rw[e] at this;cases this
  ·rw[hc] at this;cases this
end
section
variable {K:W.Frag}{c:Ct}{hid:bw}{ρ:aG}{σ:St}{H:Hp}{a:Addr}{x:Str}{n:Int}
theorem SR.setEx(h:SR K c hid ρ σ H)(ho:ObOk K c hid H a (.exc x n))(i:Nat):SR K c hid (ρ.set i (.ob (.exc x n))) (σ.set i (some (.ref a))) H:=by
 have nj: ∀m,Ow (ρ.set i (.ob (.exc x n)))[m]? ->m≠i:=λm o e=>by
  subst e
  by_cases lt:m<ρ.length
  ·rw[List.getElem?_set_self lt] at o;exact o
  ·rw[List.getElem?_eq_none (by simpa using lt)] at o;exact o
 refine⟨h.tr,h.ht,h.h0,h.kp,h.t0,h.c0,h.m0,by simp[h.len],λj s q=>?_,λj l z ne o1 o2 q1 q2=>?_⟩
 ·by_cases e:j=i
  ·subst e;have lt:j<ρ.length:=by
    have:=(List.getElem?_eq_some_iff.mp q).1;simpa using this
   rw[List.getElem?_set_self lt] at q;cases q;exact⟨a,List.getElem?_set_self (by rw[h.len];exact lt),ho⟩
  ·rw[List.getElem?_set_ne (Ne.symm e)] at q;have w:=h.sl j s q;have es:(σ.set i (some (V.ref a)))[j]? =σ[j]? :=List.getElem?_set_ne (Ne.symm e);cases s with
   |no=>trivial
   |v d=>obtain⟨x,h1,h2⟩:=w;exact⟨x,es.trans h1,h2⟩
   |own ds=>obtain⟨a,xs,h1,h2⟩:=w;exact⟨a,xs,es.trans h1,h2⟩
   |arg ds=>obtain⟨a,xs,h1,h2⟩:=w;exact⟨a,xs,es.trans h1,h2⟩
   |ob b=>obtain⟨a,h1,h2⟩:=w;exact⟨a,es.trans h1,h2⟩
 ·have e1:=nj j o1;have e2:=nj l o2;rw[List.getElem?_set_ne (Ne.symm e1)] at o1 q1;rw[List.getElem?_set_ne (Ne.symm e2)] at o2 q2;exact h.ap j l z ne o1 o2 q1 q2
end
theorem InFl.keeps {B:Heap}{l:List Env}{e:Addr}{o0:Obj}{h h':Heap}(x:InFl B l e o0 h)(k: ∀b o,h.get? b=some o->h'.get? b=some o):InFl B l e o0 h':=by
 refine⟨λb o q=>k b o (x.st b o q),x.ne,x.ff.of_keeps λb o q _=>⟨o,k b o q,rfl⟩,?_⟩;rcases x.tr with⟨vs,T,oT,ts,h1,h2,h3,h4,h5,h6⟩|⟨vs,h1,h2⟩
 ·exact .inl ⟨vs,T,oT,ts,k _ _ h1,h2,h3,h4,k _ _ h5,h6⟩
 ·exact .inr ⟨vs,k _ _ h1,h2⟩
theorem Trc.keeps {B:Heap}{e:Addr}{o0:Obj}{h h':Heap}(x:Trc h B e o0)(k: ∀b o,h.get? b=some o->h'.get? b=some o):Trc h' B e o0:=by
 obtain⟨vs,T,oT,ts,h1,h2,h3,h4,h5,h6⟩:=x;exact⟨vs,T,oT,ts,k _ _ h1,h2,h3,h4,k _ _ h5,h6⟩
section
variable {K:W.Frag}{M:Model}{A:Around}{E:Value->Shared->Prop}{s:Shared}{ea C D:Addr}{o:Obj}{b:Bool}
theorem ExcC.isExc(X:ExcC K D){h:Heap}(KI:K.In h):W.Looks M h (isExcClass (.ref D)) true:=by
 have L:W.Looks M h (isType (.ref D)) true:=by
  obtain⟨cd,hc⟩:=X.cls;unfold W.clsIn at hc;split at hc
  ·rename_i c' d' cd' sl' ho
   intro A' Q' E' s' k q;unfold isType loadHead;exact wpAny_bind (wpAny_loadPart (k _ _ (KI _ _ ho)) (wpAny_pure q))
  ·cases hc
 unfold isExcClass;refine L.andThen ?_
 exact W.looks_mroIn KI X.mb
theorem Ad {Q:Bool->Shared->Prop}(KI:K.In s.heap)(I:W.InstAt s.heap ea o C none)(X:ExcC K D)(ty:W.typeIn K (.ref D)=some (.type "type"))(hCD:W.mroIn K C (.ref D)=some b)(q:Q b s):wpAny M A (excMatches (.ref ea) (.ref D)) Q E s:=by
 obtain⟨hh,g,d,t,os⟩:=s;have L0:W.Looks M hh (isInstance (.ref D) (.type "tuple")) false:=(W.looks_typeIn (M:=M) KI ty).andThen (W.Looks.of_pure tc_notTuple);have L1:=X.isExc (M:=M) KI;have L2:=I.type (M:=M);have L3:=W.looks_mroIn (M:=M) KI hCD;unfold excMatches;refine wpAny_bind (L0.at ?_);simp only[Bool.false_eq_true,if_false];refine wpAny_bind (wpAny_pure ?_);simp only[List.forIn_cons,List.forIn_nil];refine wpAny_bind (wpAny_bind (wpAny_bind (L1.at ?_)));simp only[Bool.not_true,Bool.false_eq_true,if_false];refine wpAny_pure (wpAny_pure (wpAny_bind (L2.at ?_)));refine wpAny_bind (wpAny_bind (wpAny_bind (L3.at ?_)));cases b with
 |true=>simp only[if_true];exact wpAny_pure (wpAny_pure (wpAny_pure q))
 |false=>simp only[Bool.false_eq_true,if_false];exact wpAny_pure (wpAny_pure (wpAny_pure q))
end
def E2(X:Cx)(te:Expr)(ns ys:List Str):Prop:= ∀(v:Option Value) (aa:List (Addr×Obj)) (s:Shared) (σ:St) (H:Hp) (ea:Addr) (x:Str) (C:Addr) (o:Obj) (Q:Bool->Shared->Prop),Inv (X.caught v) aa σ H s->ns.contains x=true->
 W.nsIn X.K mainGlobals x=some (some (.ref C))->W.InstAt s.heap ea o C none->(∀s1 H1,Inv (X.caught v) aa σ H1 s1->Same H H1->(∀b o,s.heap.get? b=some o->s1.heap.get? b=some o)->s1.os=s.os->s1.gens=s.gens->Q (ys.any λy=>mC x y) s1)->
 wpAny (model X.prog X.w) (X.A.mark v) (eval te X.env) (λc s₁=>wpAny (model X.prog X.w) (X.A.mark v) (excMatches (.ref ea) c) Q (λ_ _=>False) s₁) (λ_ _=>False) s
section
variable {X:Cx}{y:Str}{p2:Pos}{CR D:Addr}{tbl:List (Str×Addr)}{ns:List Str}(T:ExTab X.K X.mg CR tbl)
include T
theorem tV(hT:tbl.map (·.1)=ns)(hD:(y,D)∈tbl)(hg:Gl X y:=by rfl)(hd:(y==("__debug__":Str))=false:=by decide):E2 X (.Name y p2) ns [y]:=by
 intro v aa s σ H ea x C o Q I hx hC io q;obtain⟨C',hC'⟩:=pd hT hx;have:C'=C:=by
  have:=(T.row _ hC').ns;rw[hC] at this;injection this with this;injection this with this
  exact(Value.ref.inj this).symm
 subst this;refine jc (X:=X.caught v) I hg (T.row _ hD).mg ?_ hd;refine Ad I.kIn io (T.row _ hD).cc (T.row _ hD).ty (T.mro hC' hD) ?_
 have:=q s H I (Same.refl _) (λ_ _ e=>e) rfl rfl;simpa using this
end
theorem DA.nox {X:Cx}{c:Ct}{es:List Expr}{f:FA}(h:DA X.nox c es f):DA X c es f:=λhid ρ p aa s σ H Q I hw=>
 wpAny_mono (h hid ρ p aa s σ H Q (I.wish _) hw) (λ_ _ ⟨v,H',I',r,q⟩=>⟨v,H',I'.unwish,r,q⟩) λ_ _ z=>False.elim z
theorem wM {α:Type}{P:α->Prop}: ∀q∈([]:List α),P q:=λ_ h=>nomatch h
theorem cN {α:Type}{P:α->Prop}{r:List α}{a:α}(h:P a)(hr: ∀q∈r,P q): ∀q∈a::r,P q:=λq hq=>(List.mem_cons.mp hq).elim (λe=>by rw[e];exact h) (hr q)
abbrev Fn(X:Cx):Prop:=X.stack=X.env::X.outer/\X.env.frame=some X.env.locals
def sW(i:Nat)(ns ys:List Str)(t:FX)(u:FS):FS:=λρ=>match t ρ with
 | .ok o=>o
 | .error z=>if ns.contains z.1.x=true/\(ys.any λy=>mC z.1.x y)=true then(match u (z.2.set i (.ob (.exc z.1.x z.1.n))) with
    | .rt d ρ2=>.rt d ρ2
    |_=>.no) else .no
section
variable {X:Cx}{c:Ct}{k:Kd}{body suite:List Stmt}{b0:Stmt}{te:Expr}{n:Str}{hpos pos:Pos}{t:FX}{u:FS}{ns ys:List Str}{i:Nat}
theorem pV(i:Nat)(hN:X.N.Nodup)(hf:Fn X)(hb: ∀pn E,m5 (X.inTry pn E) c k body t)(hc:E2 X te ns ys)(hs: ∀v,rN (X.caught v) c k (b0::suite) u)(hi:X.N[i]? =some n:=by rfl)(hl:X.env.scope.names.lookup n=some .local:=by rfl):
 DS X c k (.Try body [.ExceptHandler (some te) (some n) (b0::suite) hpos] [] [] pos) (sW i ns ys t u):=λρ aa s σ H D I hq_=>by
 obtain⟨hid,sr,q⟩:=hq_
 unfold sW at q;refine wpAny_Try_except (wpAny_mono (hb (X.pn++aa) (λe s₁=>wpAny (model X.prog X.w) X.A (noteFrame e X.env) (λ_ s₂=>wpAny (model X.prog X.w) X.A (setFlight e none) (λ_ s₃=>
  wpAny (model X.prog X.w) X.A (handleBy e X.env [.ExceptHandler (some te) (some n) (b0::suite) hpos]) (SP X aa D) X.xe s₃) X.xe s₂) X.xe s₁) ρ [] s σ H D I.inTry ⟨hid,sr,?_⟩) (λf s₁ h₁=>?_) λe s₁ h=>h)
 ·cases e:t ρ with
  |ok o=>rw[e] at q;exact q
  |error zz=>
   obtain⟨z,ρ'⟩:=zz;rw[e] at q;dsimp only at q;intro σ' H' hid' C sr' sm hn pins' ea o0 s' hcls hdict xs;obtain⟨g,F,Ig,aw,fl,up,gn⟩:=xs.outTry;split at q
   ·rename_i hz
    obtain⟨stk,frm⟩:=hf;have hfr:X.A.frames=some (X.env::X.outer):=by rw[<-stk];exact I.ok.frames
    have fl0:InFl (W.hideAll g F) (X.env::X.outer) ea o0 s'.heap:=by rw[<-stk];exact fl
    refine tU hfr frm fl0 λh1 fl1 tr1 up1=>?_
    have I1:Inv X aa σ' H' {s' with heap:=h1}:=XS.inv (s':={s' with heap:=h1}) ⟨g,F,Ig,aw,by rw[stk];exact fl1,up.trans up1,gn⟩;have inst: ∀ {h:Heap},Trc h (W.hideAll g F) ea o0-> ∃o,W.InstAt h ea o C none:=λ{h} tr=>by
     obtain⟨vs,_,_,_,he,_⟩:=tr;exact⟨_,he,hcls,rfl,by show(match o0.dict,none with|some dx,some o=>h.get? dx=some o|none,none=>True|_,_=>False);rw[hdict];trivial⟩
    obtain⟨o1,io⟩:=inst tr1;refine wpAny_handleBy_cons (codeAny_handlers_test ?_) (by intro q;cases q);refine wpAny_mono (hc (some (.ref ea)) aa _ σ' H' ea z.x C o1 _ I1.caught hz.1 hn io λs2 H2 I2 sm2 kp2 os2 gs2=>?_) (λcl s₂ h₂=>wpAny_mono h₂ (λ_ _ z=>z) λ_ _ z=>z.elim) λ_ _ z=>z.elim
    rw[hz.2];simp only[if_true];refine codeAny_handlers_suite_as ?_
    have I2':Inv X aa σ' H2 s2:=I2.uncaught I.ok;have fl2:=fl1.keeps kp2;have tr2:=tr1.keeps kp2;refine z9 fl2 tr2 λh3 fl3 tr3 up3=>?_
    have gk: ∀b o,g.get? b=some o->b∉F->s2.heap.get? b=some o:=λb o e nF=>fl2.st b o (W.hideAll_get _ e nF)
    have I3:Inv X aa σ' H' {s2 with heap:=h3}:=XS.inv (s':={s2 with heap:=h3}) ⟨g,F,by
     have:=Ig
     exact⟨this.ok,by show s2.os=_;rw[os2];exact this.os,by show AllBare s2.gens;rw[gs2];exact this.bare,this.base,this.loc,this.cell,this.free,this.freeC,this.pin,this.hok,this.len⟩,aw,by rw[stk];exact fl3,(up.trans up1).trans ((Heap.UpToSlots.of_keeps kp2).trans up3),gn⟩
    obtain⟨o3,io3⟩:=inst tr3;have Ig':Inv X aa σ' H' {s2 with heap:=g}:=⟨Ig.ok,by show s2.os=_;rw[os2];exact Ig.os,by show AllBare s2.gens;rw[gs2];exact Ig.bare,Ig.base,Ig.loc,Ig.cell,Ig.free,Ig.freeC,Ig.pin,Ig.hok,Ig.len⟩
    have exat: ∀ {h:Heap},(∃o,W.InstAt h ea o C none)->ExcAt X.K z.x z.n ea h:=λ{h} ⟨o,io⟩=>⟨C,o,hn,io.at_,io.cls,by have:=io.dict;cases hd:o.dict with|none=>rfl|some dx=>rw[hd] at this;exact this.elim,io.no⟩
    have I4:Inv X aa σ' (cb H' ea (.ext (ExcAt X.K z.x z.n ea))) {s2 with heap:=h3}:=I3.track (g:=g) Ig' gn io3.at_ (exat ⟨o3,io3⟩) λk1 k2 ⟨C',o',w1,w2,w3⟩ kk=>⟨C',o',w1,kk _ w2,w3⟩
    have Hn:H' ea=none:=Ig.newer gn;have sr4:SR X.K c hid' ρ' σ' (cb H' ea (.ext (ExcAt X.K z.x z.n ea))):=sr'.ext (bq Hn _);have ob4:ObOk X.K c hid' (cb H' ea (.ext (ExcAt X.K z.x z.n ea))) ea (.exc z.x z.n):=⟨_,vw_some.mpr ⟨sr'.fresh Hn,aN⟩,λh q=>q⟩
    refine mf (v:=.ref ea) I4 hN hi (.inl hl) rfl (λs5 I5=>?_) (.inr hl);have sr5:=sr4.setEx ob4 i;cases eu:u (ρ'.set i (.ob (.exc z.x z.n))) with
    |rt d ρ2=>
     rw[eu] at q;refine wpAny_mono (hs (some (.ref ea)) (ρ'.set i (.ob (.exc z.x z.n))) aa s5 _ _ {nx:=λ_ _=>False,rt:=D.rt} I5.caught ⟨hid',sr5,by rw[eu];exact q⟩) (λf s6 h6=>?_) λ_ _ z=>z.elim
     cases f with
     |next=>obtain⟨_,_,_,z⟩:=h6;exact z.elim
     |brk=>obtain⟨_,_,_,z⟩:=h6;exact z.elim
     |cont=>obtain⟨_,_,_,z⟩:=h6;exact z.elim
     |ret u6=>
      obtain⟨v6,σ6,H6,I6,r6,q6⟩:=h6;have J6:=I6.uncaught I.ok;obtain⟨m6,n6,_⟩:=J6.loc;exact wpAny_nameGoes hl n6 (by rw[J6.ok.kind];rfl) λh7 m7 n7 sb7=>⟨v6,_,H6,J6.blind n7 sb7,r6,q6⟩
    |nx ρ2=>rw[eu] at q;exact q.elim
    |bk ρ2=>rw[eu] at q;exact q.elim
    |ct ρ2=>rw[eu] at q;exact q.elim
    |no=>rw[eu] at q;exact q.elim
   ·exact q.elim
 ·cases f with
  |next=>exact wpAny_execs_nil (SP.outTry h₁)
  |brk=>exact SP.outTry h₁
  |cont=>exact SP.outTry h₁
  |ret u=>exact SP.outTry h₁
end
section
variable {X:Cx}{c:Ct}{e:Expr}{es:List Expr}{k:Kd}{pos p:Pos}{x:Str}{ps:List Str}{j n:Nat}
def df(f:FE):FA:=λρ=>(f ρ).bind λd=>match d with
 | .lst ds=>some ds
 | .tup ds=>some ds
 |_=>none
theorem dA {tg iter:Expr}{f:FE}(h:DP X c .s iter f):DIp X c tg iter (df f):=λhid ρ aa s σ H R I hq_=>by
 obtain⟨sr,ds,e1,q⟩:=hq_;unfold df at e1;cases e2:f ρ with
 |none=>rw[e2] at e1;cases e1
 |some d=>
  rw[e2,Option.bind_some] at e1;cases d with
  |lst xs=>cases e1;exact xk h hid ρ aa s σ H R I ⟨sr,ds,by unfold pg;rw[e2];rfl,q⟩
  |tup xs=>cases e1;exact Ag h hid ρ aa s σ H R I ⟨sr,ds,by unfold zo;rw[e2];rfl,q⟩
  |_=>cases e1
end
theorem hJ {a b:Addr}{l:List Addr}(h:(a::l).Nodup)(hb:b∈l): ¬b=a:=λe=>(List.nodup_cons.mp h).1 (e▸hb)
theorem iT {es rest:List Expr}{x1}{pos:Pos}{env:Env}:starEach (.Tuple es x1 pos::rest) env=(false,eval (.Tuple es x1 pos) env)::starEach rest env:=by rfl
@[elab_as_elim] theorem ar0 {motive:List Value->Prop} (us:List Value) (hl:us.length=0) (h:motive []):motive us:=by
 cases us with
 |nil=>exact h
 |cons a r=>exact absurd hl (Nat.succ_ne_zero _)
@[elab_as_elim] theorem ar1 {motive:List Value->Prop} (us:List Value) (hl:us.length=1) (h: ∀a0,motive [a0]):motive us:=by
 cases us with
 |nil=>exact absurd hl (by decide)
 |cons a0 r=>exact ar0 (motive:=λr=>motive (a0::r)) r (Nat.succ.inj hl) (h a0)
@[elab_as_elim] theorem ar2 {motive:List Value->Prop} (us:List Value) (hl:us.length=2) (h: ∀a0 a1,motive [a0,a1]):motive us:=by
 cases us with
 |nil=>exact absurd hl (by decide)
 |cons a0 r=>exact ar1 (motive:=λr=>motive (a0::r)) r (Nat.succ.inj hl) (h a0)
@[elab_as_elim] theorem ar3 {motive:List Value->Prop} (us:List Value) (hl:us.length=3) (h: ∀a0 a1 a2,motive [a0,a1,a2]):motive us:=by
 cases us with
 |nil=>exact absurd hl (by decide)
 |cons a0 r=>exact ar2 (motive:=λr=>motive (a0::r)) r (Nat.succ.inj hl) (h a0)
@[elab_as_elim] theorem ar4 {motive:List Value->Prop} (us:List Value) (hl:us.length=4) (h: ∀a0 a1 a2 a3,motive [a0,a1,a2,a3]):motive us:=by
 cases us with
 |nil=>exact absurd hl (by decide)
 |cons a0 r=>exact ar3 (motive:=λr=>motive (a0::r)) r (Nat.succ.inj hl) (h a0)
@[elab_as_elim] theorem ar5 {motive:List Value->Prop} (us:List Value) (hl:us.length=5) (h: ∀a0 a1 a2 a3 a4,motive [a0,a1,a2,a3,a4]):motive us:=by
 cases us with
 |nil=>exact absurd hl (by decide)
 |cons a0 r=>exact ar4 (motive:=λr=>motive (a0::r)) r (Nat.succ.inj hl) (h a0)
@[elab_as_elim] theorem ar6 {motive:List Value->Prop} (us:List Value) (hl:us.length=6) (h: ∀a0 a1 a2 a3 a4 a5,motive [a0,a1,a2,a3,a4,a5]):motive us:=by
 cases us with
 |nil=>exact absurd hl (by decide)
 |cons a0 r=>exact ar5 (motive:=λr=>motive (a0::r)) r (Nat.succ.inj hl) (h a0)
section
variable {X:Cx}{c:Ct}{e o:Expr}{k k2:Kd}{f g:FE}{pos p p2 apos:Pos}
theorem rE(hu:X.A.units+64<cLine):EJ X "list.index" (λv vs H Q=> ∃a xs ds x y j,v=.ref a/\vs=[x]/\SqL X.K H a xs/\Reps X.K H xs ds/\Rep X.K H x y/\ft ds<=32/\zj ds y=some j/\Q (.int j) H):=by
 intro aa s σ H v vs u us Q I rv rs h;obtain⟨a,xs,ds,x,y,j,rfl,rfl,h1,h2,h3,h4,h5,q⟩:=h;cases rv;obtain⟨w,rfl,rw'⟩:=iS rs;obtain⟨its,r,pl,hz⟩:=I.list h1;have l1:=r.length;have l2:=h2.length;obtain⟨e,g1,g2⟩:=ub (A:=X.A.in1.in1) I h3 rw' h2 r (by rw[fN,fN];omega);unfold zj at h5;rw[List.findIdx?_eq_some_iff_getElem] at h5;obtain⟨hj,hp,hno⟩:=h5;obtain⟨⟨cls,dd,data,sl⟩,n,ho,hc,hd0,hd⟩:=id pl;simp only at hc hd;subst hc hd;have hj':j<its.length:=by omega
 have hz':(j:Int)<2^63-1:=by
  have:its.length<=2^62:=by rw[<-l1];exact Nat.le_trans hz (by decide)
  omega
 have gt: ∀m (hm:m<its.length) (hm2:m<ds.length),e its[m]=dN ds[m] y:=λm hm hm2=>g2 m hm _ (List.getElem?_eq_getElem hm2)
 refine call_meets PySem.F.slot_list_index ⟨_,ho,rfl⟩ PySem.F.entry_list_index (PySem.F.args_list_index_2 _ _) (SeqAt.list_indexAt a its.toArray n dd sl w e j (by simpa using hj') hz' ?_ ?_) ⟨ho,?_,?_⟩
 ·simp only[List.getElem_toArray];rw[gt j hj' hj];exact hp
 ·intro m hm hmj;simp only[List.getElem_toArray];rw[gt m (by simpa using hm) (by omega)];have:=hno m hmj;simpa using this
 ·intro z hz';exact SeqAt.EqAt.of_in1 (g1 z (by simpa using hz'))
 ·exact⟨.int j,H,I.tok _,⟨_,rfl⟩,q⟩
def xS:D->D->Option D:=λt x=>match t with
 | .lst ds=>if ft ds<=32 then(zj ds x).map λj=>.int j else none
 |_=>none
theorem qp(hu:X.A.units+64<cLine)(ho:DP X c k o f)(he:DP X c k2 e g)
 (hbase:attributeBase o "index" X.env (eval o X.env)=eval o X.env:=by rfl)
 (hfew:((backTo pos (starEach [e] X.env)).all (λx=> !x.1)&&(backToKw pos (keywordEach [] X.env)).all (λx=>x.1.isSome)
   &&decide (([e]:List Expr).length+([]:List Keyword).length+(if([]:List Keyword).isEmpty then 0 else 1)<30))=true:=by rfl)
 (hline:(apos.endLine==pos.line)=true:=by rfl) (hs:starEach [e] X.env=(false,eval e X.env)::starEach [] X.env:=by rfl) (hplain:(backTo pos (starEach [] X.env)).any (·.1)=false:=by rfl):
 DP X c .s (.Call (.Attribute o "index" apos) [e] [] pos) (ao xS f g):=λhid ρ=>
 PE.imp (uw PySem.F.plainAttrs_list PySem.F.slot_list_index PySem.F.type_list_index (rE hu) (ho hid ρ) (bV (he hid ρ) fu hs) hbase hfew hline hs hplain) λσ H Q hq_=>by
  obtain⟨sr,d,hd,q⟩:=hq_;obtain⟨x,y,e1,e2,e3⟩:=mx hd;unfold xS at e3;split at e3
  ·split at e3
   ·rename_i ds _
    cases e4:zj ds y with
    |none=>rw[e4] at e3;cases e3
    |some j=>
     rw[e4] at e3;cases e3;refine⟨sr,_,e1,λv H1 s1 r1=>?_⟩;have b1:=RK.b k r1 λa n=>sr.fresh n
     obtain⟨a,xs,rfl,t2,t3⟩:=b1.lst;refine⟨.inl ⟨rfl,xs,t2⟩,sr.ext s1,y,e2,λu H2 s2 r2=>?_⟩;have b2:=RK.b k2 r2 λa n=>(sr.ext s1).fresh n
     exact⟨a,xs,ds,u,y,j,rfl,rfl,s2.seq t2,(t3.mono (aM s2)).mono (di _ _),b2.full, ‹_›,e4,q _ H2 (s1.trans s2) .int⟩
   ·cases e3
  ·cases e3
end
@[irreducible] def QS (X:Cx) (c:Ct) (k:Kd) (st:Stmt) (t:FS):Prop:=DS X c k st t
@[irreducible] def QSs (X:Cx) (c:Ct) (k:Kd) (st:List Stmt) (t:FS):Prop:=rN X c k st t
section
variable {X:Cx}{c:Ct}{k:Kd}{e a b:Expr}{es:List Expr}{f g:FE}{fs:FA}{pos pos':Pos}{st:Stmt}{rest:List Stmt}{t u:FS}{x:Str}
theorem QS.of(h:DS X c k st t):QS X c k st t:=by unfold QS;exact h
theorem QS.ds(h:QS X c k st t):DS X c k st t:=by unfold QS at h;exact h
theorem QSs.to(h:QSs X c k rest t):rN X c k rest t:=by unfold QSs at h;exact h
theorem gJ(h1:QS X c k st t)(h2:QSs X c k rest u):QSs X c k (st::rest) (aJ t u):=by unfold QSs;exact av h1.ds h2.to
theorem zT(h:QS X c k st t):QSs X c k [st] t:=by unfold QSs;exact aB h.ds
end
section
variable {κ:Type} [DecidableEq κ]
def jo(kvs:List (κ×V))(k:κ):Option V:=(kvs.find? λkv=>decide (kv.1=k)).map (·.2)
def kB(kvs:List (κ×V))(k:κ)(v:V):List (κ×V):=
 if(kvs.any λkv=>decide (kv.1=k))=true then kvs.map (λkv=>if kv.1=k then(kv.1,v) else kv) else kvs++[(k,v)]
theorem jN {p:κ×V}{r:List (κ×V)}{k:κ}(e:p.1=k):jo (p::r) k=some p.2:=by simp[jo,List.find?_cons,e]
theorem j1 {p:κ×V}{r:List (κ×V)}{k:κ}(e: ¬p.1=k):jo (p::r) k=jo r k:=by simp[jo,List.find?_cons,e]
theorem qG(k:κ): ∀kvs:List (κ×V),(kvs.any λkv=>decide (kv.1=k))=(jo kvs k).isSome
 | []=>rfl
 |p::r=>by
  rw[List.any_cons]
  by_cases e:p.1=k
  ·simp only[jN e,decide_eq_true e,Bool.true_or,Option.isSome_some]
  ·rw[j1 e,decide_eq_false e,Bool.false_or];exact qG k r
theorem kY(kvs:List (κ×V))(k:κ)(v:V):(kB kvs k v).length<=kvs.length+1:=by
 unfold kB;split
 ·rw[List.length_map];omega
 ·rw[List.length_append,List.length_cons,List.length_nil];omega
theorem RelO.isSome_eq {o:Option V}{u:Option Value}(r:RelO o u):o.isSome=u.isSome:=by
 cases o with
 |none=>cases u with
  |none=>rfl
  |some _=>exact(show False from r).elim
 |some _=>cases u with
  |none=>exact(show False from r).elim
  |some _=>rfl
theorem RelO.getD {o:Option V}{u:Option Value}{d:V}{d':Value}(r:RelO o u)(rd:RelV d d'):RelV (o.getD d) (u.getD d'):=by
 cases o with
 |none=>cases u with
  |none=>exact rd
  |some _=>exact(show False from r).elim
 |some _=>cases u with
  |none=>exact(show False from r).elim
  |some _=>exact r
theorem KV.val {kvs:List (κ×V)}{vs:List (κ×Value)}(r:KV kvs vs)(k:κ):RelO (jo kvs k) (valueAt vs k):=by
 unfold KV at r
 induction r with
 |nil=>exact True.intro
 | @cons p q ps qs h t ih=>
   obtain⟨h1,h2⟩:=h
   by_cases e:p.1=k
   ·have e':q.1=k:=h1.symm.trans e;have b:valueAt (q::qs) k=some q.2:=by simp[valueAt,List.find?_cons,e']
    rw[jN e,b];exact h2
   ·have e': ¬q.1=k:=λz=>e (h1.trans z)
    have b:valueAt (q::qs) k=valueAt qs k:=by simp[valueAt,List.find?_cons,e']
    rw[j1 e,b];exact ih
theorem KV.any {kvs:List (κ×V)}{vs:List (κ×Value)}(r:KV kvs vs)(k:κ):(kvs.any λkv=>decide (kv.1=k))=vs.any λkv=>decide (kv.1=k):=by
 unfold KV at r
 induction r with
 |nil=>rfl
 |cons h t ih=>rw[List.any_cons,List.any_cons,ih,h.1]
theorem KV.repl {kvs:List (κ×V)}{vs:List (κ×Value)}(r:KV kvs vs)(k:κ){y:V}{u:Value}(ry:RelV y u):
 KV (kvs.map λkv=>if kv.1=k then(kv.1,y) else kv) (vs.map λkv=>if kv.1=k then(kv.1,u) else kv):=by
 unfold KV at r⊢
 induction r with
 |nil=>exact .nil
 | @cons p q ps qs h t ih=>
   rw[List.map_cons,List.map_cons];refine .cons ?_ ih;obtain⟨h1,h2⟩:=h
   by_cases e:p.1=k
   ·rw[if_pos e,if_pos (h1.symm.trans e)];exact⟨h1,ry⟩
   ·rw[if_neg e,if_neg (λz=>e (h1.trans z))];exact⟨h1,h2⟩
theorem KV.put {kvs:List (κ×V)}{vs:List (κ×Value)}(r:KV kvs vs)(k:κ){y:V}{u:Value}(ry:RelV y u):KV (kB kvs k y) (stored vs k u):=by
 unfold kB stored;rw[r.any k]
 by_cases e:(vs.any λkv=>decide (kv.1=k))=true
 ·rw[if_pos e,if_pos e];exact r.repl k ry
 ·rw[if_neg e,if_neg e];exact Paired.snoc r ⟨rfl,ry⟩
theorem KV.keys {kvs:List (κ×V)}{vs:List (κ×Value)}(r:KV kvs vs):kvs.map (·.1)=vs.map (·.1):=by
 unfold KV at r
 induction r with
 |nil=>rfl
 |cons h t ih=>rw[List.map_cons,List.map_cons,ih,h.1]
theorem KV.length {kvs:List (κ×V)}{vs:List (κ×Value)}(r:KV kvs vs):kvs.length=vs.length:=Paired.length r
end
theorem rA {P:Program}{w:World}{k:ba}{u:Value}(r:RelV (kV k) u):(aY P w).is k u=true:=by
 cases k with
 |inl i=>obtain⟨t,e⟩:=(show∃t,u=Value.int i t from r);subst e;exact pM P w i t
 |inr x=>obtain⟨t,e⟩:=(show∃t,u=Value.str x t from r);subst e;exact qM P w x t
theorem nJ {P:Program}{w:World}: ∀ {ks:List ba} {us:List Value},Vals (ks.map kV) us->ItemsAre (aY P w) ks us
 | [],_,r=>by rw[List.map_nil] at r;cases r;exact .nil
 |k::ks,_,r=>by
  rw[List.map_cons] at r;cases r with
  |cons h t=>exact .cons (rA h) (nJ t)
abbrev KTd(H:Hp):List (List ba×V)->List (List ba×Addr×Value)->Prop:=Paired λp q=>p.1=q.1/\H q.2.1=some (.tup (p.1.map kV))/\RelV p.2 q.2.2
theorem KTd.val {H:Hp}{kvs:List (List ba×V)}{xs:List (List ba×Addr×Value)}(r:KTd H kvs xs)(k:List ba):RelO (jo kvs k) ((atKey xs k).map (·.2)):=by
 induction r with
 |nil=>exact True.intro
 | @cons p q ps qs h t ih=>
   obtain⟨h1,_,h2⟩:=h
   by_cases e:p.1=k
   ·have e':q.1=k:=h1.symm.trans e;have b:atKey (q::qs) k=some q.2:=by simp[atKey,List.find?_cons,e']
    rw[jN e,b];exact h2
   ·have e': ¬q.1=k:=λz=>e (h1.trans z)
    have b:atKey (q::qs) k=atKey qs k:=by simp[atKey,List.find?_cons,e']
    rw[j1 e,b];exact ih
theorem KTd.repl {H:Hp}{kvs:List (List ba×V)}{xs:List (List ba×Addr×Value)}(r:KTd H kvs xs)(k:List ba){y:V}{u:Value}(ry:RelV y u):
 KTd H (kvs.map λkv=>if kv.1=k then(kv.1,y) else kv) (xs.map (putAt k u)):=by
 induction r with
 |nil=>exact .nil
 | @cons p q ps qs h t ih=>
   rw[List.map_cons,List.map_cons];refine .cons ?_ ih;obtain⟨h1,h2,h3⟩:=h;unfold putAt
   by_cases e:p.1=k
   ·rw[if_pos e,if_pos (h1.symm.trans e)];exact⟨h1,h2,ry⟩
   ·rw[if_neg e,if_neg (λz=>e (h1.trans z))];exact⟨h1,h2,h3⟩
theorem KTd.put {H:Hp}{kvs:List (List ba×V)}{xs:List (List ba×Addr×Value)}(r:KTd H kvs xs)(k:List ba){b:Addr}{y:V}{u:Value}(hb:H b=some (.tup (k.map kV)))(ry:RelV y u):
 KTd H (kB kvs k y) (storedH xs k b u):=by
 have e:(kvs.any λkv=>decide (kv.1=k))=(atKey xs k).isSome:=by
  rw[qG,(r.val k).isSome_eq,Option.isSome_map]
 unfold kB storedH;rw[e]
 by_cases q:(atKey xs k).isSome=true
 ·rw[if_pos q,if_pos q];exact r.repl k ry
 ·rw[if_neg q,if_neg q];exact Paired.snoc r ⟨rfl,hb,ry⟩
theorem KTd.keeps {H H':Hp}{kvs:List (List ba×V)}{xs:List (List ba×Addr×Value)}(r:KTd H kvs xs)(ht: ∀b ys,H b=some (.tup ys)->H' b=some (.tup ys)):KTd H' kvs xs:=
 Paired.mapP r λ_ _ z=>⟨z.1,ht _ _ z.2.1,z.2.2⟩
section
variable {P:Program}{w:World}{H:Hp}{h:Heap}{a:Addr}
theorem AA {u:HO}(ok:HOk P w H h)(e:Rd H a u):ObjOk P w H h a u:=e.ok ok
theorem rD {kvs:List (ba×V)}(ok:HOk P w H h)(e:Rd H a (.dK kvs)):kvs.length<=sizeLine/\(a==sysModules)=false/\ ∃vs,KV kvs vs/\h.DictOf (aY P w) a vs:=
 show ObjOk P w H h a (.dK kvs) from AA ok e
theorem Ax {kvs:List (ba×V)}(ok:HOk P w H h)(e:H a=some (.dK kvs)):kvs.length<=sizeLine/\(a==sysModules)=false/\ ∃vs,KV kvs vs/\h.DictOf (aY P w) a vs:=rD ok (.inl e)
theorem oE {ks:List ba}(ok:HOk P w H h)(e:H a=some (.tup (ks.map kV))):(tupleKind (aY P w)).is h ks a:=by
 obtain⟨_,its,r,⟨o,h1,h2,n,h3⟩,_⟩:=(show ObjOk P w H h a (.tup (ks.map kV)) from ok a _ e)
 exact⟨o,its.toArray,n,h1,h2,h3,by simpa using nJ r⟩
theorem qN {kvs:List (List ba×V)}(ok:HOk P w H h)(e:Rd H a (.dT kvs)):kvs.length<=sizeLine/\(a==sysModules)=false/\
 ∃xs,KTd H kvs xs/\h.DictOfH (tupleKind (aY P w)) a xs:=by
 obtain⟨z,y,xs,r,o,es,ep,h1,h2,h3,h4,h5⟩:=(show ObjOk P w H h a (.dT kvs) from AA ok e)
 refine⟨z,y,xs,r,o,es,ep,h1,h2,h3,h4,λx hx=>?_,h5⟩;have all: ∀ {l:List (List ba×V)} {m:List (List ba×Addr×Value)},KTd H l m-> ∀x∈m,(tupleKind (aY P w)).is h x.1 x.2.1:=by
  intro l m q
  induction q with
  |nil=>intro x hx;exact nomatch hx
  | @cons p q ps qs hq t ih=>
    intro x hx;rcases List.mem_cons.mp hx with e|hx
    ·subst e;exact oE ok (by rw[<-hq.1];exact hq.2.1)
    ·exact ih x hx
 exact all r x hx
theorem CO {kvs:List (List ba×V)}(ok:HOk P w H h)(e:H a=some (.dT kvs)):kvs.length<=sizeLine/\(a==sysModules)=false/\
 ∃xs,KTd H kvs xs/\h.DictOfH (tupleKind (aY P w)) a xs:=qN ok (.inl e)
end
def DGet(H:Hp)(a:Addr)(y:V)(r:Option V):Prop:=
 (∃kvs k,Rd H a (.dK kvs)/\y=kV k/\r=jo kvs k)\/ ∃kvs k b,Rd H a (.dT kvs)/\y=.ref b/\H b=some (.tup (k.map kV))/\r=jo kvs k
def DPut(H:Hp)(a:Addr)(y v:V)(H':Hp):Prop:=
 (∃kvs k,H a=some (.dK kvs)/\y=kV k/\kvs.length<sizeLine/\H'=cb H a (.dK (kB kvs k v)))\/
 ∃kvs k b,H a=some (.dT kvs)/\y=.ref b/\H b=some (.tup (k.map kV))/\kvs.length<sizeLine/\H'=cb H a (.dT (kB kvs k v))
theorem DGet.k {H:Hp}{a:Addr}{kvs:List (ba×V)}{k:ba}(e:H a=some (.dK kvs)):DGet H a (kV k) (jo kvs k):=.inl ⟨kvs,k,.inl e,rfl,rfl⟩
theorem DPut.k {H:Hp}{a:Addr}{kvs:List (ba×V)}{k:ba}{v:V}(e:H a=some (.dK kvs))(hl:kvs.length<sizeLine):DPut H a (kV k) v (cb H a (.dK (kB kvs k v))):=.inl ⟨kvs,k,e,rfl,hl,rfl⟩
section
variable {X:Cx}{aa:List (Addr×Obj)}{σ:St}{H:Hp}{s:Shared}{a:Addr}{y v:V}{u r:Value}{o:Option V}{A:Around}{E:Value->Shared->Prop}
theorem Inv.big(I:Inv X aa σ H s):sysModules<s.heap.objs.size:=by
 have h:mainGlobals<s.heap.objs.size:=(I.mod.glob.keeps I.bk).lt;exact Nat.lt_trans (by decide) h
theorem v4 {Q:Value->Shared->Prop}(hu:A.units+1<cLine)(I:Inv X aa σ H s)(g:DGet H a y (some v))(ry:RelV y u)(h: ∀w' s',Inv X aa σ H s'->RelV v w'->Q w' s'):
 wpAny (model X.prog X.w) A (getItem (.ref a) u) Q E s:=by
 rcases g with⟨kvs,k,e,ey,l⟩|⟨kvs,k,b,e,ey,eb,l⟩
 ·subst ey;obtain⟨z,hd,vs,rel,dd⟩:=rD I.hok e;obtain⟨w',hw,rw'⟩:=RelO.some_of (v:=v) (o:=valueAt vs k) (by rw[l];exact rel.val k);exact wpAny_getItem_of (rA ry) dd.mapOf hw (h w' _ (I.tok _) rw')
 ·subst ey;cases (show u=Value.ref b from ry);obtain⟨z,hd,xs,rel,dd⟩:=qN I.hok e;obtain⟨w',hw,rw'⟩:=RelO.some_of (v:=v) (o:=(atKey xs k).map (·.2)) (by rw[l];exact rel.val k);obtain⟨p,hp,hp2⟩:=Option.map_eq_some_iff.mp hw;refine wpAny_getItem_heap (tupleKind_room_in1 hu) (oE I.hok eb) dd hp ?_
  rw[hp2];exact h w' _ (I.tok _) rw'
theorem t8 {h':Heap}{t':Nat}{ob:HO}(I:Inv X aa σ H s)(mu:Dq (H a))(hs:Heap.SameBut a s.heap h')(he: ∃q,h'.get? a=some q)(new:ObjOk X.prog X.w (cb H a ob) h' a ob):
 Inv X aa σ (cb H a ob) {s with heap:=h',toks:=t'}:=
 I.write (x:=a) (e:=a) mu (.inl rfl) (λb q hb z=>(hs.2 b hb).trans z) he new
theorem A5 {P:Program}{w:World}{H':Hp}{h':Heap}{kvs:List (ba×V)}{vs:List (ba×Value)}(z:kvs.length<=sizeLine)(hd:(a==sysModules)=false)(rel:KV kvs vs)(dd:h'.DictOf (aY P w) a vs):
 ObjOk P w H' h' a (.dK kvs):=⟨z,hd,vs,rel,dd⟩
theorem vH {H':Hp}{Q:Unit->Shared->Prop}(hu:A.units+1<cLine)(I:Inv X aa σ H s)(g:DPut H a y v H')(ry:RelV y u)(rv:RelV v r)(h: ∀s',Inv X aa σ H' s'->Q () s'):
 wpAny (model X.prog X.w) A (setItem (.ref a) u r) Q E s:=by
 rcases g with⟨kvs,k,e,ey,l,eH⟩|⟨kvs,k,b,e,ey,eb,l,eH⟩
 ·subst ey eH;obtain⟨z,hd,vs,rel,dd⟩:=Ax I.hok e;have hz:vs.length<=sizeLine:=by rw[<-rel.length];exact z
  have hl:(kB kvs k v).length<=sizeLine:=by have:=kY kvs k v;omega
  refine wpAny_setItem_pairs (hsz:=hz) (rA ry) dd λh' dd' hs=>h _ ?_
  have he: ∃q,h'.get? a=some q:=let⟨q,_,_,hq,_⟩:=dd';⟨q,hq⟩
  exact t8 I (by rw[e];exact True.intro) hs he (A5 hl hd (rel.put k rv) dd')
 ·subst ey eH;cases (show u=Value.ref b from ry);obtain⟨z,hd,xs,rel,dd⟩:=CO I.hok e;have hz:xs.length<=sizeLine:=by rw[<-Paired.length rel];exact z
  have hl:(kB kvs k v).length<=sizeLine:=by have:=kY kvs k v;omega
  refine wpAny_setItem_heap (hsz:=hz) (tupleKind_room_in1 hu) (oE I.hok eb) dd λh' dd' hs=>h _ ?_
  obtain⟨q,es,ep,hq,h2,h3,h4,_,h5⟩:=dd';refine t8 I (by rw[e];exact True.intro) hs ⟨q,hq⟩ ⟨hl,hd,_,(rel.put k eb rv).keeps λc ys ec=>?_,q,es,ep,hq,h2,h3,h4,h5⟩;rw[aH (CG ec e (λz=>nomatch z))];exact ec
end
def yE(i:Expr):Prop:= ∀ov iv,subscripted i false ov iv=operate [ov,iv] (getItem ov iv)
theorem zN {prog:Program}{w:World}{A:Around}{E:Value->Shared->Prop}{s:Shared}{env:Env}{value slice:Expr}{pos:Pos}{T id:String}{Q:Value->Shared->Prop}
 (hl:typeLookup (.type T) "__getitem__"=pure (some (.builtin id))) (hs:yE slice)
 (h:wpAny (model prog w) A (eval value env) (λo s₁=>wpAny (model prog w) A (eval slice env) (λi s₂=>s₂.TypeIs o T/\wpAny (model prog w) A (getItem o i) Q E s₂) E s₁) E s):
 wpAny (model prog w) A (eval (.Subscript value slice pos) env) Q E s:=by
 refine Subscript_ (wpAny_mono h (λo s₁ h₁=>wpAny_mono h₁ (λi s₂ h₂=>?_) λ_ _ x=>x) λ_ _ x=>x);obtain⟨hT,h₂⟩:=h₂;unfold subscriptTail;refine wpAny_bind ?_
 rw[getitemInPython_of_ne hT.not_modules];refine wpAny_bind (wpAny_specialOf hT hl ?_);have fin:wpAny (model prog w) A (subscripted slice false o i) (λr s₃=>wpAny (model prog w) A (letTemporaryGo value o r>>=λ_=>pure r) Q E s₃) E s₂:=by
  rw[hs o i];exact wpAny_operating (wpAny_mono h₂ (λr s₃ h₃=>wpAny_bind (wpAny_letTemporaryGo (wpAny_pure h₃))) λ_ _ x=>x)
 first
  |exact wpAny_pure (wpAny_bind fin)
  |exact wpAny_bind (wpAny_pure (wpAny_bind fin))
  |exact wpAny_bind fin
theorem rF {X:Cx}{aa:List (Addr×Obj)}{σ:St}{H:Hp}{s:Shared}{a:Addr}{y:V}{o:Option V}(I:Inv X aa σ H s)(g:DGet H a y o):s.TypeIs (.ref a) "dict":=by
 rcases g with⟨kvs,k,e,_,_⟩|⟨kvs,k,b,e,_,_,_⟩
 ·obtain⟨_,_,vs,_,dd⟩:=rD I.hok e;exact dd.typeIs
 ·obtain⟨_,_,xs,_,dd⟩:=qN I.hok e;exact dd.typeIs
def Da(td ty:TE):TE:=λσ H Q=>td σ H λx H1=>ty σ H1 λy H2=> ∃a v,x=.ref a/\DGet H2 a y (some v)/\Q v H2
def C6(td ty tv:TE):TS:=λD σ H=>tv σ H λv H1=>td σ H1 λx H2=>ty σ H2 λy H3=> ∃a H4,x=.ref a/\DPut H3 a y v H4/\D.nx σ H4
section
variable {X:Cx}{o i e value:Expr}{pos pos' tpos:Pos}{td ty tv:TE}
theorem tM(hu:X.A.units+1<cLine)(ho:PE X o td)(hi:PE X i ty)(hs:yE i):PE X (.Subscript o i pos) (Da td ty):=by
 intro aa s σ H Q I h;refine zN PySem.F.slot_dict_getitem.lookup hs (cq (ho aa s σ H _ I h) λu s1 ⟨x,H1,I1,rx,q1⟩=>cq (hi aa s1 σ H1 _ I1 q1) λiv s2 hq_=>?_);obtain⟨y,H2,I2,ry,a,v,ex,g,q2⟩:=hq_;subst ex;obtain rfl:u=Value.ref a:=rx;exact⟨rF I2 g,v4 hu I2 g ry λw' s3 I3 rw'=>⟨v,H2,I3,rw',q2⟩⟩
theorem ze(hu:X.A.units+1<cLine)(ho:PE X o td)(hi:PE X i ty)(hv:PE X value tv)(hs:swapsWith value (some (.Subscript o i pos')) pos.line X.env=pure false):
 PS X (.Assign [.Subscript o i pos'] value pos) (C6 td ty tv):=by
 intro aa s σ H D I h;refine wpAny_Assign_Subscript (cq (hv aa s σ H _ I h) λr s1 ⟨v,H1,I1,rv,q1⟩=>cq (ho aa s1 σ H1 _ I1 q1) λu s2 ⟨x,H2,I2,rx,q2⟩=>cq (hi aa s2 σ H2 _ I2 q2) λiv s3 ⟨y,H3,I3,ry,a,H4,ex,g,q3⟩=>?_) hs;subst ex;obtain rfl:u=Value.ref a:=rx;exact vH hu I3 g ry rv λs4 I4=>⟨σ,H4,I4,q3⟩
end
theorem xU {P:Program}{w:World}{H:Hp}(h:Heap)(hb:sysModules<h.objs.size):ObjOk P w H (h.push {cls:=.type "dict",data:=.dict #[]}) h.objs.size (.dK []):=
 ⟨Nat.zero_le _,beq_eq_false_iff_ne.mpr (Ne.symm (Nat.ne_of_lt hb)),[],.nil,Heap.DictOf.new h⟩
def Ba:TE:=λ_ H Q=> ∀p,H p=none->Q (.ref p) (cb H p (.dK []))
section
variable {X:Cx}{pos:Pos}
theorem xN:PE X (.Dict [] [] pos) Ba:=λaa s σ H Q I h=>
 wpAny_Dict_empty ⟨.ref s.heap.objs.size,_,I.laid (a:=s.heap.objs.size) (o:=.dK []) (t':=s.toks) (λ_ _ q=>Heap.get?_push_of_some _ q) (Nat.le_refl _) (xU s.heap I.big),rfl,h _ (I.hok.fresh (Nat.le_refl _))⟩
end
structure M2(X:Cx)(o:Expr)(m:Str)(apos:Pos)(e f:Expr)(cpos:Pos):Prop where
 base:attributeBase o m X.env (eval o X.env)=eval o X.env
 few:((backTo cpos (starEach [e,f] X.env)).all (λx=> !x.1)&&(backToKw cpos (keywordEach [] X.env)).all (λx=>x.1.isSome)
  &&decide (([e,f]:List Expr).length+([]:List Keyword).length+(if([]:List Keyword).isEmpty then 0 else 1)<30))=true
 line:(apos.endLine==cpos.line)=true
 trees:backTo cpos (starEach [e,f] X.env)=[(false,eval e X.env),(false,eval f X.env)]
def EW(H:Hp)(a:Addr):Prop:=(∃kvs,Rd H a (.dK kvs))\/ ∃kvs,Rd H a (.dT kvs)
theorem A3 {X:Cx}{aa:List (Addr×Obj)}{σ:St}{H:Hp}{s:Shared}{a:Addr}(I:Inv X aa σ H s)(d:EW H a):
 s.TypeIs (.ref a) "dict"/\(∀b,Value.ref a=.ref b-> ∃ob,s.heap.get? b=some ob/\ob.dict=none)/\(a==sysModules)=false:=by
 rcases d with⟨kvs,e⟩|⟨kvs,e⟩
 ·obtain⟨_,hd,vs,_,dd⟩:=rD I.hok e;refine⟨dd.typeIs,λb q=>?_,hd⟩;cases q;obtain⟨ob,_,_,h1,h2,_⟩:=dd;exact⟨ob,h1,h2.2.1⟩
 ·obtain⟨_,hd,xs,_,dd⟩:=qN I.hok e;refine⟨dd.typeIs,λb q=>?_,hd⟩;cases q;obtain⟨ob,_,_,h1,h2,_⟩:=dd;exact⟨ob,h1,h2.2.1⟩
section
variable {X:Cx}{aa:List (Addr×Obj)}{σ:St}{H:Hp}{s:Shared}{a:Addr}{y d:V}{u r:Value}{o:Option V}{A:Around}{E:Value->Shared->Prop}
theorem Bs {Q:Value->Shared->Prop}(hu:A.units+1<cLine)(I:Inv X aa σ H s)(g:DGet H a y o)(ry:RelV y u)(rd:RelV d r)(h: ∀w' s',Inv X aa σ H s'->RelV (o.getD d) w'->Q w' s'):
 wpAny (model X.prog X.w) A (call (.builtin "dict.get") [.ref a,u,r]) Q E s:=by
 rcases g with⟨kvs,k,e,ey,l⟩|⟨kvs,k,b,e,ey,eb,l⟩
 ·subst ey;obtain⟨z,hd,vs,rel,dd⟩:=rD I.hok e;refine call_meetsIn PySem.F.slot_dict_get dd.typeIs PySem.F.entry_dict_get (PySem.F.args_dict_get_3 _ _ _) (meets_dict_get_default (aY X.prog X.w) a (rA ry) hd r) ⟨_,dd.mapOf,h _ _ (I.tok _) ?_⟩;rw[l];exact(rel.val k).getD rd
 ·subst ey;cases (show u=Value.ref b from ry);obtain⟨z,hd,xs,rel,dd⟩:=qN I.hok e;refine call_meetsIn PySem.F.slot_dict_get dd.typeIs PySem.F.entry_dict_get (PySem.F.args_dict_get_3 _ _ _) (meetsH_dict_get_default (tupleKind (aY X.prog X.w)) a b hd r) ⟨tupleKind_room_in1 hu,k,xs,oE I.hok eb,dd,h _ _ (I.tok _) ?_⟩;rw[l];exact(rel.val k).getD rd
end
def Br(td ty tx:TE):TE:=λσ H Q=>td σ H λx H1=> ∃a,x=.ref a/\EW H1 a/\ty σ H1 λy H2=>tx σ H2 λz H3=> ∃o,DGet H3 a y o/\Q (o.getD z) H3
section
variable {X:Cx}{o e f:Expr}{apos cpos:Pos}{td ty tx:TE}
theorem xP(hu:X.A.units+1<cLine)(ho:PE X o td)(he:PE X e ty)(hf:PE X f tx)(m:M2 X o "get" apos e f cpos):PE X (.Call (.Attribute o "get" apos) [e,f] [] cpos) (Br td ty tx):=by
 intro aa s σ H Q I h;refine wpAny_Call_method m.base m.few m.line PySem.F.plainAttrs_dict PySem.F.slot_dict_get PySem.F.type_dict_get (cq (ho aa s σ H _ I h) λu s1 hq_=>?_);obtain⟨x,H1,I1,rx,a,ex,d,q1⟩:=hq_;subst ex;obtain rfl:u=Value.ref a:=rx;obtain⟨t1,t2,_⟩:=A3 I1 d;refine⟨t1,t2,?_⟩
 rw[m.trees];refine Calls.callWith_builtin rfl (Calls.evalArgs_plain (Calls.spliced_cons (cq (he aa s1 σ H1 _ I1 q1) λiv s2 ⟨y,H2,I2,ry,q2⟩=>
  Calls.spliced_cons (cq (hf aa s2 σ H2 _ I2 q2) λfv s3 ⟨z,H3,I3,rz,ov,g,q3⟩=>Calls.spliced_nil ?_))))
 exact Bs hu I3 g ry rz λw' s4 I4 rw'=>⟨_,H3,I4,rw',q3⟩
end
end L2
namespace PySem
open Sem (wp)
end PySem
namespace L2
open PySem PySem.Spec PyProof.Rows
end L2
namespace PySem
end PySem
namespace L2
open PySem PySem.Spec PyProof.Rows
def oY(i:Nat)(ρ:aG):Option (List (ba×D)):=match ρ[i]? with
 |some (.ob (.dK kvs))=>some kvs
 |_=>none
theorem gR {i:Nat}{ρ:aG}{kvs:List (ba×D)}(h:oY i ρ=some kvs):ρ[i]? =some (.ob (.dK kvs)):=by
 unfold oY at h;split at h
 ·cases h;assumption
 ·cases h
def nX:D->Option ba
 | .int i=>some (.inl i)
 |_=>none
theorem ij {d:D}{k:ba}(h:nX d=some k): ∃i,d=.int i/\k=.inl i:=by
 unfold nX at h;split at h
 ·cases h;exact⟨_,rfl,rfl⟩
 ·cases h
def jg(kvs:List (ba×D))(k:ba):Option D:=(kvs.find? λkv=>decide (kv.1=k)).map (·.2)
def putD(kvs:List (ba×D))(k:ba)(d:D):List (ba×D):=
 if(kvs.any λkv=>decide (kv.1=k))=true then kvs.map (λkv=>if kv.1=k then(kv.1,d) else kv) else kvs++[(k,d)]
def KRl(K:W.Frag)(F:Hp)(us:List (ba×V))(kvs:List (ba×D)):Prop:=us.map (·.1)=kvs.map (·.1)/\Reps K F (us.map (·.2)) (kvs.map (·.2))
theorem KRl.inv {K:W.Frag}{F:Hp}: ∀ {us:List (ba×V)} {kvs:List (ba×D)},KRl K F us kvs->(us=[]/\kvs=[])\/ ∃k v us' d kvs',us=(k,v)::us'/\kvs=(k,d)::kvs'/\Rep K F v d/\KRl K F us' kvs'
 | [],[],_=>.inl ⟨rfl,rfl⟩
 | [],_::_,h=>by cases h.1
 |_::_,[],h=>by cases h.1
 |(k,v)::us,(k',d)::kvs,h=>by
  obtain⟨h1,h2⟩:=h;rw[List.map_cons,List.map_cons] at h1 h2;injection h1 with e1 e2
  cases h2 with
  |cons r rs=>
   have e1:k=k':=e1;subst e1;exact .inr ⟨k,v,us,d,kvs,rfl,rfl,r,e2,rs⟩
theorem KRl.val {K:W.Frag}{F:Hp}(k:ba): ∀ {us:List (ba×V)} {kvs:List (ba×D)},KRl K F us kvs->(jo us k=none/\jg kvs k=none)\/ ∃v d,jo us k=some v/\jg kvs k=some d/\Rep K F v d:=by
 intro us
 induction us with
 |nil=>
  intro kvs h;rcases h.inv with⟨_,rfl⟩|⟨_,_,_,_,_,e,_⟩
  ·exact .inl ⟨rfl,rfl⟩
  ·cases e
 |cons p us ih=>
  intro kvs h;rcases h.inv with⟨e,_⟩|⟨k',v,us',d,kvs',e,rfl,r,rs⟩
  ·cases e
  ·cases e
   by_cases ek:k'=k
   ·exact .inr ⟨v,d,jN ek,by simp[jg,List.find?_cons,ek],r⟩
   ·have e1:jo ((k',v)::us) k=jo us k:=j1 ek;have e2:jg ((k',d)::kvs') k=jg kvs' k:=by simp[jg,List.find?_cons,ek]
    rw[e1,e2];exact ih rs
theorem KRl.any {K:W.Frag}{F:Hp}(k:ba){us:List (ba×V)}{kvs:List (ba×D)}(h:KRl K F us kvs):(us.any λkv=>decide (kv.1=k))=kvs.any λkv=>decide (kv.1=k):=by
 have e1:(us.any λkv=>decide (kv.1=k))=(us.map (·.1)).any λx=>decide (x=k):=by rw[List.any_map];rfl
 have e2:(kvs.any λkv=>decide (kv.1=k))=(kvs.map (·.1)).any λx=>decide (x=k):=by rw[List.any_map];rfl
 rw[e1,e2,h.1]
theorem KRl.cons {K:W.Frag}{F:Hp}{k:ba}{v:V}{d:D}{us:List (ba×V)}{kvs:List (ba×D)}(r:Rep K F v d)(h:KRl K F us kvs):KRl K F ((k,v)::us) ((k,d)::kvs):=⟨by rw[List.map_cons,List.map_cons,h.1],.cons r h.2⟩
theorem KRl.repl {K:W.Frag}{F:Hp}(k:ba){v:V}{d:D}(r:Rep K F v d): ∀ {us:List (ba×V)} {kvs:List (ba×D)},KRl K F us kvs->KRl K F (us.map (λkv=>if kv.1=k then(kv.1,v) else kv)) (kvs.map (λkv=>if kv.1=k then(kv.1,d) else kv)):=by
 intro us
 induction us with
 |nil=>
  intro kvs h;rcases h.inv with⟨_,rfl⟩|⟨_,_,_,_,_,e,_⟩
  ·exact h
  ·cases e
 |cons p us ih=>
  intro kvs h;rcases h.inv with⟨e,_⟩|⟨k',v',us',d',kvs',e,rfl,r',rs⟩
  ·cases e
  ·cases e;rw[List.map_cons,List.map_cons]
   by_cases ek:k'=k
   ·rw[if_pos ek,if_pos ek];exact KRl.cons r (ih rs)
   ·rw[if_neg ek,if_neg ek];exact KRl.cons r' (ih rs)
theorem KRl.put {K:W.Frag}{F:Hp}(k:ba){v:V}{d:D}(r:Rep K F v d){us:List (ba×V)}{kvs:List (ba×D)}(h:KRl K F us kvs):KRl K F (kB us k v) (putD kvs k d):=by
 unfold kB putD;rw[h.any k];split
 ·exact h.repl k r
 ·refine⟨by rw[List.map_append,List.map_append,h.1];rfl,?_⟩;rw[List.map_append,List.map_append];exact h.2.append (.cons r .nil)
theorem KRl.len {K:W.Frag}{F:Hp}{us:List (ba×V)}{kvs:List (ba×D)}(h:KRl K F us kvs):us.length=kvs.length:=by
 have:=congrArg List.length h.1;simpa using this
section
variable {K:W.Frag}{c:Ct}{hid:bw}{ρ:aG}{σ:St}{H:Hp}{a:Addr}
theorem SR.dict(h:SR K c hid ρ σ H){i:Nat}{kvs:List (ba×D)}(e:oY i ρ=some kvs): ∃a us,σ[i]? =some (some (.ref a))/\hid a=true/\c.H₀ a=none/\H a=some (.dK us)/\KRl K (vw H hid) us kvs:=by
 obtain⟨a,h1,⟨h2,h3⟩,us,h4,h5,h6⟩:=h.sl i _ (gR e);exact⟨a,us,h1,h2,h3,h4,h5,h6⟩
theorem SR.setD {b:Ob}(h:SR K c hid ρ σ H)(ho:ObOk K c hid H a b)(no: ∀i:Nat,Ow ρ[i]? ->σ[i]? ≠some (some (.ref a)))(i:Nat):
 SR K c hid (ρ.set i (.ob b)) (σ.set i (some (.ref a))) H:=by
 refine⟨h.tr,h.ht,h.h0,h.kp,h.t0,h.c0,h.m0,by simp[h.len],λj s q=>?_,λj l z n o1 o2 q1 q2=>?_⟩
 ·by_cases e:j=i
  ·subst e;have lt:j<ρ.length:=by
    have:=(List.getElem?_eq_some_iff.mp q).1;simpa using this
   rw[List.getElem?_set_self lt] at q;cases q;exact⟨a,List.getElem?_set_self (by rw[h.len];exact lt),ho⟩
  ·rw[List.getElem?_set_ne (Ne.symm e)] at q;have w:=h.sl j s q;have es:(σ.set i (some (V.ref a)))[j]? =σ[j]? :=List.getElem?_set_ne (Ne.symm e);cases s with
   |no=>trivial
   |v d=>obtain⟨x,h1,h2⟩:=w;exact⟨x,es.trans h1,h2⟩
   |own ds=>obtain⟨a,xs,h1,h2⟩:=w;exact⟨a,xs,es.trans h1,h2⟩
   |arg ds=>obtain⟨a,xs,h1,h2⟩:=w;exact⟨a,xs,es.trans h1,h2⟩
   |ob b=>obtain⟨a,h1,h2⟩:=w;exact⟨a,es.trans h1,h2⟩
 ·by_cases e1:j=i
  ·subst e1;have e2:l≠j:=λe=>n e.symm
   rw[List.getElem?_set_ne (Ne.symm e2)] at o2 q2
   by_cases lt:j<σ.length
   ·rw[List.getElem?_set_self lt] at q1;cases q1;exact no l o2 q2
   ·rw[List.getElem?_eq_none (by simpa using lt)] at q1;cases q1
  ·rw[List.getElem?_set_ne (Ne.symm e1)] at o1 q1
   by_cases e2:l=i
   ·subst e2
    by_cases lt:l<σ.length
    ·rw[List.getElem?_set_self lt] at q2;cases q2;exact no j o1 q1
    ·rw[List.getElem?_eq_none (by simpa using lt)] at q2;cases q2
   ·rw[List.getElem?_set_ne (Ne.symm e2)] at o2 q2;exact h.ap j l z n o1 o2 q1 q2
theorem ObOk.kind {b:Ob}(h:ObOk K c hid H a b)(o:n8 b): ∃u,H a=some u/\ ∀p v,u≠ .nst p v:=by
 cases b with
 |nst us=>obtain⟨_,_,e,_⟩:=h;exact⟨_,e,nofun⟩
 |dQ kvs=>exact o.elim
 |frs d=>exact o.elim
 |dR kvs=>exact o.elim
 |dRs l=>exact o.elim
 |exc x n=>exact o.elim
 |dK kvs=>obtain⟨_,_,e,_⟩:=h;exact⟨_,e,nofun⟩
 |dT kvs=>obtain⟨_,_,e,_⟩:=h;exact⟨_,e,nofun⟩
 |set ds=>obtain⟨_,_,e,_⟩:=h;exact⟨_,e,nofun⟩
 |old d=>exact o.elim
 |jnk=>obtain⟨_,_,e⟩:=h;exact⟨_,e,nofun⟩
 |tset ks=>obtain⟨_,_,e,_⟩:=h;exact⟨_,e,nofun⟩
 |dF kvs=>obtain⟨_,_,_,e,_⟩:=h;exact⟨_,e,nofun⟩
theorem SR.putO {x:Addr}{i:Nat}{b b':Ob}{o':HO}(h:SR K c hid ρ σ H)(hg:ρ[i]? =some (.ob b))(ow:n8 b)(ow':n8 b')(ha:σ[i]? =some (some (.ref a)))(hx:At H a x)(h2:hid x=true)(h3:c.H₀ x=none)
 (nt: ∀xs,o'≠ .tup xs) (new:ObOk K c hid (cb H x o') a b'):SR K c hid (ρ.set i (.ob b')) σ (cb H x o'):=by
 have lt:i<ρ.length:=(List.getElem?_eq_some_iff.mp hg).1;have vv:vw (cb H x o') hid=vw H hid:=eL h2;have tr': ∀b o,H b=some o-> ∃o2,(cb H x o') b=some o2:=λb o q=>by
  by_cases e:b=x
  ·subst e;exact⟨_,aN⟩
  ·exact⟨o,by rw[aH e];exact q⟩
 have owi:Ow ρ[i]? :=by rw[hg];exact ow
 obtain⟨a2,ha2,kb⟩:=h.sl i _ hg;rw[ha] at ha2;cases ha2;obtain⟨w,kw,kn⟩:=kb.kind ow;have ne: ∀(j:Nat) (s:Sl) (a' y:Addr) (w':HO),j≠i->ρ[j]? =some s->Ow (some s)->σ[j]? =some (some (.ref a'))->H a'=some w'->(∀p v,w'≠ .nst p v)->At H a' y->y≠x:=λj s a' y w' n e o q hw wn hy=>by
  have na:a'≠a:=λz=>by subst z;exact h.ap j i a' n (by rw[e];exact o) owi q ha
  rcases hx with rfl|⟨u,hu⟩
  ·exact hy.ne na kw kn
  ·intro z;subst z;rcases hy with rfl|⟨u',hu'⟩
   ·rw[hw] at hu;exact wn _ _ (Option.some.inj hu)
   ·rw[hu] at hu';cases hu';exact na rfl
 have ows: ∀j:Nat,Ow (ρ.set i (.ob b'))[j]? ->Ow ρ[j]? :=λj o=>by
  by_cases e:j=i
  ·subst e;exact owi
  ·rw[List.getElem?_set_ne (Ne.symm e)] at o;exact o
 refine⟨λb hb=>let⟨o,q⟩:=h.tr b hb;tr' b o q,λb xs hb q=>by
  by_cases e:b=x
  ·subst e;rw[aN] at q;exact nt xs (Option.some.inj q)
  ·rw[aH e] at q;exact h.ht b xs hb q,h.h0,λb o q m=>?_,λb o q=>let⟨o2,q2⟩:=h.t0 b o q;tr' b o2 q2,h.c0,h.m0,by simp[h.len],λj s e=>?_,λj l z n o1 o2=>h.ap j l z n (ows j o1) (ows l o2)⟩
 ·rw[aH (bo q h3)];exact h.kp b o q m
 ·by_cases ej:j=i
  ·subst ej;rw[List.getElem?_set_self lt] at e;cases e;exact⟨a,ha,new⟩
  ·rw[List.getElem?_set_ne (Ne.symm ej)] at e;have z:=h.sl j s e;cases s with
   |no=>trivial
   |v d=>obtain⟨x,h1,h2⟩:=z;exact⟨x,h1,by rw[vv];exact h2⟩
   |own ds=>obtain⟨a',xs,h1,h2,h3,h4,h5⟩:=z;exact⟨a',xs,h1,by rw[aH (ne j _ a' a' _ ej e trivial h1 h2 nofun (.inl rfl))];exact h2,h3,h4,by rw[vv];exact h5⟩
   |arg ds=>obtain⟨a',xs,h1,h2,h3,h4,h5⟩:=z;exact⟨a',xs,h1,by rw[aH (ne j _ a' a' _ ej e trivial h1 h2 nofun (.inl rfl))];exact h2,h3,h4,by rw[vv];exact h5⟩
   |ob b=>
    obtain⟨a',h1,h2⟩:=z
    exact⟨a',h1,h2.mono (λow y hy o q=>by
     obtain⟨w',hw,wn⟩:=h2.kind ow
     rw[aH (ne j _ a' y w' ej e ow h1 hw wn hy)];exact q) (by rw[vv];exact Same.refl _) λ_ _ _ q=>q⟩
theorem SR.putD {i:Nat}{kvs kvs':List (ba×D)}{us':List (ba×V)}(h:SR K c hid ρ σ H)(hg:oY i ρ=some kvs)(ha:σ[i]? =some (some (.ref a)))(r:KRl K (vw H hid) us' kvs'):SR K c hid (ρ.set i (.ob (.dK kvs'))) σ (cb H a (.dK us')):=by
 obtain⟨a1,us,h1,h2,h3,h4,h5⟩:=h.dict hg;rw[ha] at h1;cases h1;exact h.putO (gR hg) trivial trivial ha (.inl rfl) h2 h3 nofun ⟨⟨h2,h3⟩,us',aN,r.1,by rw[eL h2];exact r.2⟩
end
section
variable {X:Cx}{c:Ct}{k k1 k2:Kd}{e f ek ev:Expr}{fe ff fk fv:FE}{pos pos' py apos cpos p:Pos}{x y:Str}
def uv(i:Nat):FS:=λρ=>.nx (ρ.set i (.ob (.dK [])))
theorem tQ(i:Nat)(hn:X.N.Nodup)(hi:X.N[i]? =some x:=by rfl)(hx:xI X.env.scope x:=by first|exact Or.inl rfl|exact Or.inr rfl)(hs:swapsWith (.Dict [] [] p) (some (.Name x pos')) pos.line X.env=pure false:=by rfl)
 (hf:X.fn x=true\/X.env.scope.names.lookup x=some .local:=by first|exact .inl rfl|exact .inr rfl|assumption):DS X c k (.Assign [.Name x pos'] (.Dict [] [] p) pos) (uv i):=λρ=>PS.imp (kD hn hi hx xN hs hf) λD σ H hq_=>by
 obtain⟨hid,sr,q⟩:=hq_;intro a ha;have sm:=bq ha (.dK []);have nf:=sr.fresh ha;refine q _ _ (bY hid a) (SR.setD (a:=a) (b:=.dK []) (sr.hide sm ha aN) ⟨⟨fM,sr.fresh0 ha⟩,[],aN,rfl,.nil⟩ (sr.notOw nf) i) λb o w=>?_
 obtain⟨w1,w2⟩:=vw_some.mp w;refine vw_some.mpr ⟨?_,sm b o w2⟩;unfold bY;rw[w1];have:b≠a:=bo w2 ha;simp[this]
def iE(i:Nat)(fk fv:FE):FS:=λρ=>match oY i ρ with
 |some kvs=>(match fv ρ with
  |some d=>(match (fk ρ).bind nX with
   |some k=>if kvs.length<=1000 then .nx (ρ.set i (.ob (.dK (putD kvs k d)))) else .no
   |none=>.no)
  |none=>.no)
 |none=>.no
theorem o7(i:Nat)(hu:X.A.units+1<cLine)(hk:DP X c k1 ek fk)(hv:DP X c .s ev fv)(hN:X.N[i]? =some y:=by rfl)(hv':nB X.env.scope y:=by first|exact Or.inl rfl|exact Or.inr (Or.inl rfl)|exact Or.inr (Or.inr rfl))(hd:(y==("__debug__":Str))=false:=by decide)
 (hcd:(y==("__classdict__":Str))=false:=by decide) (hs:swapsWith ev (some (.Subscript (.Name y py) ek pos')) pos.line X.env=pure false:=by rfl):
 DS X c k (.Assign [.Subscript (.Name y py) ek pos'] ev pos) (iE i fk fv):=λρ=>PS.imp (ze hu (pv i hN hv' hd hcd) (jW λhid=>hk hid ρ) (jW λhid=>hv hid ρ) hs) λD σ H hq_=>by
 obtain⟨hid,sr,q⟩:=hq_;unfold iE at q;split at q
 ·rename_i kvs e0
  split at q
  ·rename_i d e1
   split at q
   ·rename_i kk e2
    split at q
    ·rename_i hz
     obtain⟨dk,e3,e4⟩:=Option.bind_eq_some_iff.mp e2;obtain⟨j,rfl,rfl⟩:=ij e4;obtain⟨a,us,a1,a2,a3,a4,a5⟩:=sr.dict e0;refine⟨hid,sr,d,e1,λv H1 s1 r1=>⟨.ref a,a1,hid,sr.ext s1,_,e3,λz H2 s2 r2=>?_⟩⟩;have i1:=(RK.b k1 r2 λa n=>(sr.ext s1).fresh n).int;cases i1;have s12:=s1.trans s2;have hh:H2 a=some (.dK us):=s12 _ _ a4;refine⟨a,_,rfl,DPut.k (k:=Sum.inl j) hh (by rw[a5.len];exact Nat.lt_of_le_of_lt hz (by decide)),?_⟩;have r1':Rep X.K (vw H1 hid) v d:=r1;refine q _ _ hid ((sr.ext s12).putD e0 a1 (KRl.put (Sum.inl j) (r1'.mono (aM s2)) ⟨a5.1,a5.2.mono (aM s12)⟩)) ?_
     rw[eL a2];exact aM s12
    ·exact q.elim
   ·exact q.elim
  ·exact q.elim
 ·exact q.elim
def fy(i:Nat)(fk fd:FE):FE:=λρ=>(oY i ρ).bind λkvs=>((fk ρ).bind nX).bind λk=>(fd ρ).map λd=>(jg kvs k).getD d
theorem lw(i:Nat)(hu:X.A.units+1<cLine)(he:DP X c k1 e fe)(hf:DP X c .s f ff)(m:M2 X (.Name y py) "get" apos e f cpos)(hN:X.N[i]? =some y:=by rfl)(hv':nB X.env.scope y:=by first|exact Or.inl rfl|exact Or.inr (Or.inl rfl)|exact Or.inr (Or.inr rfl))(hd:(y==("__debug__":Str))=false:=by decide)
 (hcd:(y==("__classdict__":Str))=false:=by decide):DP X c .s (.Call (.Attribute (.Name y py) "get" apos) [e,f] [] cpos) (fy i fe ff):=λhid ρ=>
 PE.imp (xP hu (pv i hN hv' hd hcd) (he hid ρ) (hf hid ρ) m) λσ H Q hq_=>by
  obtain⟨sr,d,hd,q⟩:=hq_;obtain⟨kvs,e0,hd⟩:=Option.bind_eq_some_iff.mp hd;obtain⟨kk,e1,hd⟩:=Option.bind_eq_some_iff.mp hd;obtain⟨dd,e2,rfl⟩:=Option.map_eq_some_iff.mp hd;obtain⟨dk,e3,e4⟩:=Option.bind_eq_some_iff.mp e1;obtain⟨j,rfl,rfl⟩:=ij e4;obtain⟨a,us,a1,a2,a3,a4,a5⟩:=sr.dict e0;refine⟨.ref a,a1,a,rfl,.inl ⟨us,.inl a4⟩,sr,_,e3,λz H2 s2 r2=>⟨sr.ext s2,_,e2,λw H3 s3 r3=>?_⟩⟩;have i1:=(RK.b k1 r2 λa n=>sr.fresh n).int;cases i1;have s23:=s2.trans s3;have hh:H3 a=some (.dK us):=s23 _ _ a4;have rr:KRl X.K (vw H3 hid) us kvs:=⟨a5.1,a5.2.mono (aM s23)⟩
  refine⟨_,DGet.k (k:=Sum.inl j) hh,q _ H3 s23 ?_⟩;rcases rr.val (Sum.inl j) with⟨v1,v2⟩|⟨v,d,v1,v2,v3⟩
  ·rw[v1,v2];exact r3
  ·rw[v1,v2];exact v3
def rn(i:Nat)(fk:FE):FE:=λρ=>(oY i ρ).bind λkvs=>((fk ρ).bind nX).bind λk=>jg kvs k
theorem pz(i:Nat)(hu:X.A.units+1<cLine)(he:DP X c k1 e fe)(hs:yE e)(hN:X.N[i]? =some y:=by rfl)(hv':nB X.env.scope y:=by first|exact Or.inl rfl|exact Or.inr (Or.inl rfl)|exact Or.inr (Or.inr rfl))(hd:(y==("__debug__":Str))=false:=by decide)
 (hcd:(y==("__classdict__":Str))=false:=by decide):DP X c .s (.Subscript (.Name y py) e pos) (rn i fe):=λhid ρ=>
 PE.imp (tM hu (pv i hN hv' hd hcd) (he hid ρ) hs) λσ H Q hq_=>by
  obtain⟨sr,d,hd,q⟩:=hq_;obtain⟨kvs,e0,hd⟩:=Option.bind_eq_some_iff.mp hd;obtain⟨kk,e1,hd⟩:=Option.bind_eq_some_iff.mp hd;obtain⟨dk,e3,e4⟩:=Option.bind_eq_some_iff.mp e1;obtain⟨j,rfl,rfl⟩:=ij e4;obtain⟨a,us,a1,a2,a3,a4,a5⟩:=sr.dict e0;refine⟨.ref a,a1,sr,_,e3,λz H2 s2 r2=>?_⟩;have i1:=(RK.b k1 r2 λa n=>sr.fresh n).int;cases i1;have hh:H2 a=some (.dK us):=s2 _ _ a4;have rr:KRl X.K (vw H2 hid) us kvs:=⟨a5.1,a5.2.mono (aM s2)⟩
  rcases rr.val (Sum.inl j) with⟨v1,v2⟩|⟨v,d',v1,v2,v3⟩
  ·rw[v2] at hd;cases hd
  ·rw[v2] at hd;cases hd;exact⟨a,v,rfl,v1▸DGet.k (k:=Sum.inl j) hh,q _ H2 s2 v3⟩
end
open PySem PySem.W PySem.Spec PyProof.Rows
section
variable {prog:Program}{w:World}{A:Around}{E:Value->Shared->Prop}{s:Shared}
theorem tG {T:String}{r d:Addr}{n:Nat}{P:Nat->Value->Prop}{OK:Heap->Prop}{R:List Value->Shared->Prop}(src:KdlSrc prog w T r d n P OK)(calm:A.handled=none)(good:OK s.heap)(few:n<=sizeLine)
 (q: ∀(g:Heap) (tk:Nat) (us:Array Value),(∀b o,s.heap.get? b=some o->g.get? b=some o)->s.heap.objs.size<g.objs.size->ItemsOf P us n->R us.toList {s with heap:=g,toks:=tk}):wpAny (model prog w) A (collect (.ref r)) R E s:=by
 obtain⟨rl,dl⟩:=src.there _ good;unfold collect;refine wpAny_bind (wpAny_runValue (codeAny_builtin F.entry_proto_collect ?_));rw[Around.under_plainId F.plain_proto_collect _];show wpAny _ A.in1 (newList []>>=λz=>again (.builtin "list.__iadd__" ⟨[z,.ref r],[]⟩)) _ _ s;refine wpAny_bind (wpAny_newObj_type (wpAny_pure ⟨plainId_quiet F.plain_list_iadd _,codeAny_builtin F.entry_list_iadd ?_⟩));rw[Around.under_plainId F.plain_list_iadd _];show wpAny _ A.in1 (Builtin.List.listExtendWith (.ref s.heap.objs.size) (.ref r) (.ref s.heap.objs.size)) _ _ _;have last: ∀(g:Heap) (tk:Nat) (us:Array Value) (m:Nat),(∀b o,s.heap.get? b=some o->g.get? b=some o)->g.get? s.heap.objs.size=some {cls:=.type "list",dict:=none,data:=.seq us m,slots:= #[]}->ItemsOf P us n->
  wpAny (model prog w) A (do
   match (<-load s.heap.objs.size).data with
    |Data.seq xs _=>pure xs.toList
    |_=>unsupported "internal:collect") R E {s with heap:=g,toks:=tk}:=λg tk us m kg hg hi=>wpAny_bind (wpAny_load hg (wpAny_pure (q g tk us kg (Heap.lt_size hg) hi)))
 have ext:=kdl_extend (A:=A) (s:={s with heap:=s.heap.push {cls:=.type "list",data:=.seq ([]:List Value).toArray}})
  (R:=λz t=> ∃(g:Heap) (tk:Nat) (us:Array Value) (m:Nat),z=.ok (.ret (.ref s.heap.objs.size))/\t={s with heap:=g,toks:=tk}/\(∀b o,s.heap.get? b=some o->g.get? b=some o)/\g.get? s.heap.objs.size=some {cls:=.type "list",dict:=none,data:=.seq us m,slots:= #[]}/\ItemsOf P us n)
  src calm (src.keep _ _ good λb _ o e=>Heap.get?_push_of_some _ e) s.heap.objs.size (Nat.ne_of_gt rl) (Nat.ne_of_gt dl) (.ref s.heap.objs.size) 0 (Heap.get?_push_size _ rfl)
  (λg tk us m kg hg hi=>⟨g,tk,us,m,rfl,rfl,λb o e=>kg b o (Nat.ne_of_lt (Heap.lt_size e)) (Heap.get?_push_of_some _ e),hg,hi⟩) few
 refine wpAny_mono ext (λz t h=>?_) λz t h=>by obtain⟨_,_,_,_,e,_⟩:=h;cases e
 cases z with
 |done f=>obtain⟨g,tk,us,m,e,rfl,kg,hg,hi⟩:=h;cases e;exact last g tk us m kg hg hi
 |again c=>exact⟨h.1,codeAny_mono h.2 λz t' hr=>by obtain⟨g,tk,us,m,rfl,rfl,kg,hg,hi⟩:=hr;exact last g tk us m kg hg hi⟩
end
section
variable {X:Cx}{c:Ct}{pos p py:Pos}{x y:Str}
theorem xX {us:List Value}{ns:List Int}(h:xg us ns):Vals (ns.map V.int) us:=by
 induction h with
 |nil=>exact .nil
 |cons h _ ih=>exact .cons h ih
theorem nv {K:W.Frag}{F:Hp}: ∀ms:List Int,Reps K F (ms.map V.int) (ms.map D.int)
 | []=>.nil
 |m::ms=>.cons .int (nv ms)
def hU:List (ba×D)->Option (List Int)
 | []=>some []
 |(.inl i,_)::r=>(hU r).map (i:: ·)
 |_=>none
theorem mQ: ∀ {kvs:List (ba×D)} {ns:List Int},hU kvs=some ns->kvs.map (·.1)=ns.map Sum.inl
 | [],ns,h=>by cases h;rfl
 |(.inl i,d)::r,ns,h=>by
  have h:(hU r).map (i:: ·)=some ns:=h;obtain⟨t,e,rfl⟩:=Option.map_eq_some_iff.mp h;rw[List.map_cons,mQ e];rfl
 |(.inr _,_)::_,_,h=>by cases h
end
mutual
def LF:D->Bool
 | .lst _=>false
 | .tup ds=>u8 ds
 | .scr ds=>u8 ds
 |_=>true
def u8:List D->Bool
 | []=>true
 |d::ds=>LF d&&u8 ds
end
def v8(hid:bw)(H:Hp):bw:=λb=>hid b&& !pC (H b)
theorem w8 {K:W.Frag}{H:Hp}{g g':bw}(h: ∀t,g' t=false->g t=true->pC (H t)=true){a:Addr}{xs:List V}(s:SqT K (vw H g') a xs):SqT K (vw H g) a xs:=by
 rcases s with(s|⟨o,s⟩)|s
 ·obtain⟨h1,h2⟩:=vw_some.mp s;refine .inl (.inl (vw_some.mpr ⟨?_,h2⟩));cases e:g a with
  |false=>rfl
  |true=>have:=h a h1 e;rw[h2] at this;cases this
 ·obtain⟨h1,h2⟩:=vw_some.mp s;refine .inl (.inr ⟨o,vw_some.mpr ⟨?_,h2⟩⟩);cases e:g a with
  |false=>rfl
  |true=>have:=h a h1 e;rw[h2] at this;cases this
 ·exact .inr s
theorem xL {K:W.Frag}{H:Hp}{g g':bw}(h: ∀t,g' t=false->g t=true->pC (H t)=true){a:Addr}{xs:List V}(s:SqR K (vw H g') a xs):SqR K (vw H g) a xs:=by
 rcases s with⟨o,s⟩|s
 ·obtain⟨h1,h2⟩:=vw_some.mp s;refine .inl ⟨o,vw_some.mpr ⟨?_,h2⟩⟩;cases e:g a with
  |false=>rfl
  |true=>have:=h a h1 e;rw[h2] at this;cases this
 ·exact .inr s
mutual
theorem pR {K:W.Frag}{H:Hp}{g g':bw}(h: ∀t,g' t=false->g t=true->pC (H t)=true): ∀ {v:V} {d:D},Rep K (vw H g') v d->LF d=true->Rep K (vw H g) v d
 |_,_,.non,_=>.non
 |_,_,.bl,_=>.bl
 |_,_,.int,_=>.int
 |_,_,.str,_=>.str
 |_,_,.tup s r,l=>.tup (w8 h s) (i5 h r (by unfold LF at l;exact l))
 |_,_,.scr s r,l=>.scr (xL h s) (i5 h r (by unfold LF at l;exact l))
 |_,_,.lst s r,l=>by unfold LF at l;cases l
theorem i5 {K:W.Frag}{H:Hp}{g g':bw}(h: ∀t,g' t=false->g t=true->pC (H t)=true): ∀ {v:List V} {d:List D},Reps K (vw H g') v d->u8 d=true->Reps K (vw H g) v d
 |_,_,.nil,_=>.nil
 |_,_,.cons r rs,l=>by
  unfold u8 at l;rw[Bool.and_eq_true] at l;exact .cons (pR h r l.1) (i5 h rs l.2)
end
theorem wx(hid:bw)(H:Hp):Same (vw H hid) (vw H (v8 hid H)):=eZ λb w=>by unfold v8 at w;rw[Bool.and_eq_true] at w;exact w.1
theorem nO {K:W.Frag}{H:Hp}{hid:bw}{vs:List V}{ds:List D}(r:Reps1 K H (vw H hid) vs ds):Reps K (vw H (v8 hid H)) vs ds:=by
 induction r with
 |nil=>exact .nil
 |cons r _ ih=>
  refine .cons ?_ ih;rcases r with r|⟨a,xs,es,rfl,rfl,h1,h2⟩
  ·exact r.mono (wx hid H)
  ·exact .lst (vw_some.mpr ⟨by unfold v8;rw[h1];simp[pC],h1⟩) (h2.mono (wx hid H))
theorem pQ {hid:bw}{H H':Hp}(tr: ∀b,hid b=true-> ∃o,H b=some o)(s:Same H H'): ∀t,v8 hid H t=false->hid t=true->pC (H' t)=true:=λt h1 h2=>by
 unfold v8 at h1;rw[h2,Bool.true_and] at h1;obtain⟨o,ho⟩:=tr t h2;rw[ho] at h1;rw[s _ _ ho];simpa using h1
section
variable {X:Cx}{c:Ct}{e:Expr}{es:List Expr}{pos p:Pos}{x:Str}{ps:List Str}{j n:Nat}
theorem uE {P:List D->Option D}{ds:List D}{d:D}(h:nF n P ds=some d):ds.length=n/\P ds=some d:=by
 have h:(if ds.length=n then P ds else none)=some d:=h;split at h
 ·exact⟨‹_›,h⟩
 ·cases h
def DD(f:FE):FE:=λρ=>(f ρ).bind λd=>if LF d=true then some d else none
def CQ(f:FE):FE:=λρ=>(f ρ).bind λd=>match d with
 | .lst ds=>if u8 ds=true then some (.lst ds) else none
 |_=>none
theorem zQ {P:List D->Option D}{fs:FA}(C:Cl X.prog X.w X.K X.mg X.base j x ps (gy X.K .s n P))(hr:Room j X.A)
 (ha:DB X c (e::es) fs) (hg:Gl X x:=by rfl) (hdb:(x==("__debug__":Str))=false:=by decide) (he:starEach (e::es) X.env=(false,eval e X.env)::starEach es X.env:=by rfl) (hpl:(backTo pos (starEach es X.env)).any (·.1)=false:=by rfl):
 DP X c .s (.Call (.Name x p) (e::es) [] pos) (DD (aA (nF n P) fs)):=by
 obtain⟨f,fd,F,hm,hk,hb⟩:=C.ex;exact λhid ρ=>PE.imp (jT F hr hg hm hk hb .nil (pU (X:=X)) (ha hid ρ) hdb he hpl) λσ H Q hq_=>by
  obtain⟨sr,d,hd,q⟩:=hq_;obtain⟨d',h1,h2⟩:=Option.bind_eq_some_iff.mp hd;split at h2
  ·rename_i hl
   cases h2;obtain⟨ds,g1,g2⟩:=gW h1;obtain⟨g3,g4⟩:=uE g2;refine⟨sr,ds,g1,λvs H1 s1 r1=>?_⟩;have t1:=(sr.ext s1).tr;show gy X.K .s n P (vs++[]) H1 Q E0;rw[List.append_nil];exact⟨v8 hid H1,ds,⟨λb w=>t1 b (by unfold v8 at w;rw[Bool.and_eq_true] at w;exact w.1),λb xs w=>(sr.ext s1).ht b xs (by unfold v8 at w;rw[Bool.and_eq_true] at w;exact w.1)⟩,nO r1,g3,_,g4,λv H' s' r=>q v H' (s1.trans s') (pR (pQ t1 s') r hl)⟩
  ·cases h2
theorem zZ {P:List D->Option D}{fs:FA}(C:Cl X.prog X.w X.K X.mg X.base j x ps (gy X.K .n n P))(hr:Room j X.A)
 (ha:DB X c (e::es) fs) (hg:Gl X x:=by rfl) (hdb:(x==("__debug__":Str))=false:=by decide) (he:starEach (e::es) X.env=(false,eval e X.env)::starEach es X.env:=by rfl) (hpl:(backTo pos (starEach es X.env)).any (·.1)=false:=by rfl):
 DP X c .n (.Call (.Name x p) (e::es) [] pos) (CQ (aA (nF n P) fs)):=by
 obtain⟨f,fd,F,hm,hk,hb⟩:=C.ex;exact λhid ρ=>PE.imp (jT F hr hg hm hk hb .nil (pU (X:=X)) (ha hid ρ) hdb he hpl) λσ H Q hq_=>by
  obtain⟨sr,d,hd,q⟩:=hq_;obtain⟨d',h1,h2⟩:=Option.bind_eq_some_iff.mp hd;split at h2
  ·rename_i ys
   split at h2
   ·rename_i hl
    cases h2;obtain⟨ds,g1,g2⟩:=gW h1;obtain⟨g3,g4⟩:=uE g2;refine⟨sr,ds,g1,λvs H1 s1 r1=>?_⟩;have t1:=(sr.ext s1).tr;show gy X.K .n n P (vs++[]) H1 Q E0;rw[List.append_nil];refine⟨v8 hid H1,ds,⟨λb w=>t1 b (by unfold v8 at w;rw[Bool.and_eq_true] at w;exact w.1),λb xs w=>(sr.ext s1).ht b xs (by unfold v8 at w;rw[Bool.and_eq_true] at w;exact w.1)⟩,nO r1,g3,_,g4,λv H' s' r=>q v H' (s1.trans s') ?_⟩;obtain⟨a,xs,zs,e1,rfl,e3,e4,e5⟩:=r;cases e1;refine⟨a,xs,ys,rfl,rfl,s1.free e3,e4,i5 (λt w1 w2=>?_) e5 hl⟩;unfold bY at w1 w2
    by_cases ta:t=a
    ·subst ta;rw[e4];rfl
    ·refine pQ t1 s' t ?_ ?_
     ·simpa [ta] using w1
     ·simpa [ta] using w2
   ·cases h2
  ·cases h2
end
def RawAt(h:Heap)(d:Addr)(es:Array DictEntry)(ep:Nat):Prop:= ∃o,h.get? d=some o/\o.ExactDict/\o.data=.dict es ep
section
variable {prog:Program}{w:World}{A:Around}{E:Value->Shared->Prop}{s:Shared}{d it:Addr}{es:Array DictEntry}{ep i:Nat}
theorem RawAt.ty(h:RawAt s.heap d es ep):s.TypeIs (.ref d) "dict":=let⟨o,h1,h2,_⟩:=h;⟨o,h1,h2.1⟩
theorem yd {Q:Value->Shared->Prop}(lo:(d==sysModules)=false)(x:RawAt s.heap d es ep)
 (q:Q (.ref s.heap.objs.size) {s with heap:=s.heap.push {cls:=.type "dict_keyiterator",data:=.fields #[.ref d,.int 0 0,.int es.size 0,.int ep 0]}}):wpAny (model prog w) A (pyIter (.ref d)) Q E s:=by
 have ty:=x.ty;obtain⟨o,g1,g2,g3⟩:=x;refine wpAny_pyIter_slot ty F.slot_dict_iter (wpAny_call_entry F.slot_dict_iter ty F.entry_dict_iter ?_ (F.args_dict_iter_1 _));unfold Builtin.«dict.__iter__»;refine wpAny_bind ?_
 unfold Builtin.Dict.dictSlotNone;refine wpAny_bind (wpAny_notOrdered_dict ty ?_);show wpAny _ _ (pure (Value.ref d)) _ _ s;refine wpAny_pure ?_
 show wpAny _ _ (Builtin.Dict.showsAll d>>=_) _ _ s;unfold Builtin.Dict.showsAll;rw[if_neg (by rw[lo];exact Bool.false_ne_true)];refine wpAny_bind (wpAny_pure (wpAny_bind (wpAny_dictEntries g1 g3 (wpAny_bind (wpAny_dictEpoch g1 g3 ?_)))));refine wpAny_bind (wpAny_newObj_type (wpAny_pure ⟨_,rfl,"dict_keyiterator",_,⟨_,Heap.get?_push_size _ rfl,rfl⟩,F.slot_dict_keyiterator_next.lookup,?_⟩));simpa [rawInt] using q
theorem wm {Q:Option Value->Shared->Prop}(hit:s.heap.IsKeyIter it d i es.size ep)(x:RawAt s.heap d es ep)(hi:i<es.size)
 (q: ∀h',h'.IsKeyIter it d (i+1) es.size ep->Heap.SameBut it s.heap h'->Q (some es[i].key) {s with heap:=h'}):wpAny (model prog w) A (pyNext (.ref it)) Q E s:=by
 obtain⟨o,k1,k2,k3⟩:=id hit;obtain⟨od,g1,g2,g3⟩:=id x;unfold pyNext;refine wpAny_bind (wpAny_attempt (wpAny_callSpecial?_slot (name:=Str.ofString "__next__") hit.typeIs F.slot_dict_keyiterator_next (wpAny_call_entry F.slot_dict_keyiterator_next hit.typeIs F.entry_dict_keyiterator_next ?_ (F.args_dict_keyiterator_next_1 _))));refine wpAny_bind (wpAny_pure (wpAny_bind (wpAny_bind ?_)))
 first|refine wpAny_bind (wpAny_typeNameOfWhole_keyiter hit.typeIs (wpAny_pure (wpAny_bind (wpAny_fieldsOf k1 k3 ?_))))|refine wpAny_bind (wpAny_typeNameOf_keyiter hit.typeIs (wpAny_pure (wpAny_bind (wpAny_fieldsOf k1 k3 ?_))))
 simp only[show Builtin.Dict_items.ownsTuple "dict_keyiterator"=false by decide,Bool.false_eq_true,if_false];show wpAny _ _ (if(Value.ref d==Value.none)=true then _ else _) _ _ s;rw[if_neg (show¬((Value.ref d==Value.none)=true) from Bool.false_ne_true)];refine wpAny_bind (wpAny_pure (wpAny_bind (wpAny_dictEntries g1 g3 ?_)));rw[if_neg (by simp)];refine wpAny_bind (wpAny_pure (wpAny_bind (wpAny_dictEpoch g1 g3 ?_)));rw[if_neg (by simp)];refine wpAny_pure ?_
 simp only[show¬((i:Int)<0) from by omega,if_false,Int.toNat_natCast,Array.getElem?_eq_getElem hi];refine wpAny_bind ?_
 first|refine wpAny_bind (wpAny_typeNameOfWhole_keyiter hit.typeIs (wpAny_pure (wpAny_bind (wpAny_isOneOf_keyiter hit.typeIs ?_))))|refine wpAny_bind (wpAny_typeNameOf_keyiter hit.typeIs (wpAny_pure (wpAny_bind (wpAny_isOneOf_keyiter hit.typeIs ?_))))
 show wpAny _ _ (setField (.ref it) 1 (rawInt ((i:Int)+1))>>=_) _ _ s;refine wpAny_bind (wpAny_setField k1 k3 (by simp) ?_);have nx:(s.heap.update it (Obj.mapFields (·.setIfInBounds 1 (rawInt ((i:Int)+1))))).IsKeyIter it d (i+1) es.size ep:=⟨_,Heap.get?_update_self _ k1 (Obj.isFreed_of_fields (Obj.data_mapFields k3 _)),(Obj.cls_mapFields ..).trans k2,by rw[Obj.data_mapFields k3];simp[rawInt]⟩
 refine wpAny_bind (wpAny_holding (wpAny_bind (wpAny_isOneOf_keyiter (s:={s with heap:=s.heap.update it (Obj.mapFields (·.setIfInBounds 1 (rawInt ((i:Int)+1))))}) nx.typeIs ?_)));show wpAny _ _ (pure es[i].key) _ _ _;exact wpAny_pure (wpAny_pure ⟨_,rfl,wpAny_pure (q _ nx (Heap.SameBut.update ..))⟩)
theorem zO {Q:Option Value->Shared->Prop}(calm:A.handled=none)(hit:s.heap.IsKeyIter it d es.size es.size ep)(x:RawAt s.heap d es ep)
 (q: ∀h',Heap.ExtBut it s.heap h'->Q none {s with heap:=h'}):wpAny (model prog w) A (pyNext (.ref it)) Q E s:=by
 obtain⟨o,k1,k2,k3⟩:=id hit;obtain⟨od,g1,g2,g3⟩:=id x;unfold pyNext;refine wpAny_bind (wpAny_attempt (wpAny_callSpecial?_slot (name:=Str.ofString "__next__") hit.typeIs F.slot_dict_keyiterator_next (wpAny_call_entry F.slot_dict_keyiterator_next hit.typeIs F.entry_dict_keyiterator_next ?_ (F.args_dict_keyiterator_next_1 _))));refine wpAny_bind (wpAny_pure (wpAny_bind (wpAny_bind ?_)))
 first|refine wpAny_bind (wpAny_typeNameOfWhole_keyiter hit.typeIs (wpAny_pure (wpAny_bind (wpAny_fieldsOf k1 k3 ?_))))|refine wpAny_bind (wpAny_typeNameOf_keyiter hit.typeIs (wpAny_pure (wpAny_bind (wpAny_fieldsOf k1 k3 ?_))))
 simp only[show Builtin.Dict_items.ownsTuple "dict_keyiterator"=false by decide,Bool.false_eq_true,if_false];show wpAny _ _ (if(Value.ref d==Value.none)=true then _ else _) _ _ s;rw[if_neg (show¬((Value.ref d==Value.none)=true) from Bool.false_ne_true)];refine wpAny_bind (wpAny_pure (wpAny_bind (wpAny_dictEntries g1 g3 ?_)));rw[if_neg (by simp)];refine wpAny_bind (wpAny_pure (wpAny_bind (wpAny_dictEpoch g1 g3 ?_)));rw[if_neg (by simp)];refine wpAny_pure ?_
 simp only[show¬((es.size:Int)<0) from by omega,if_false,Int.toNat_natCast,Array.getElem?_eq_none (Nat.le_refl es.size)];refine wpAny_bind ?_
 first|refine wpAny_bind (wpAny_typeNameOfWhole_keyiter hit.typeIs (wpAny_pure ?_))|refine wpAny_bind (wpAny_typeNameOf_keyiter hit.typeIs (wpAny_pure ?_))
 show wpAny _ _ (setField (.ref it) 0 .none>>=_) _ _ s;refine wpAny_bind (wpAny_setField k1 k3 (by simp) ?_);show wpAny _ _ (newExc (.type "StopIteration") []>>=_) _ _ _;refine wpAny_bind ?_
 simp only[newExc,newTuple];refine wpAny_bind (wpAny_newObj_type (wpAny_bind (m:=firstArgMember _ _) (wpAny_of_eq (a:=Value.none) (by first|rfl|(simp only[firstArgMember];rfl)) (wpAny_newObj_type ?_ (by size_fits)))) (by size_fits));simp only[raiseNew];refine wpAny_bind (wpAny_handled ?_);rw[show A.in1.handled=none from calm];refine wpAny_bind (wpAny_pure (wpAny_throw ?_));refine wpAny_bind (wpAny_isInstance (T:="StopIteration") (b:=true) ⟨_,Heap.get?_push_size _ rfl,rfl⟩ isSubtype_stop ?_);exact wpAny_pure (q _ (((Heap.SameBut.update ..).extBut.push _).push _))
end
set_option maxHeartbeats 4000000
section
variable {K:W.Frag}{c:Ct}{hid:bw}{ρ:aG}{σ:St}{H:Hp}{a x:Addr}
theorem nk {b:Addr}(h:gC hid x b=true):hid b=true/\b≠x:=by
 unfold gC at h;rw[Bool.and_eq_true] at h;exact⟨h.1,by simpa using h.2⟩
theorem jX {b:Addr}(n:b≠x):gC hid x b=hid b:=by unfold gC;simp[n]
theorem kL {u':HO}(hh:hid x=true):Same (vw H hid) (vw (cb H x u') (gC hid x)):=λb o q=>by
 obtain⟨q1,q2⟩:=vw_some.mp q;have n:b≠x:=λe=>by subst e;rw[hh] at q1;cases q1
 exact vw_some.mpr ⟨by rw[jX n];exact q1,by rw[aH n];exact q2⟩
theorem C5 {u':HO}:vw (cb H x u') (gC hid x) x=some u':=vw_some.mpr ⟨by unfold gC;simp,aN⟩
theorem SR.reveal {u':HO}(h:SR K c hid ρ σ H)(hh:hid x=true)(h0:c.H₀ x=none)(no: ∀(i:Nat) a',Ow ρ[i]? ->σ[i]? =some (some (.ref a'))-> ¬At H a' x):SR K c (gC hid x) ρ σ (cb H x u'):=by
 have sm:Same (vw H hid) (vw (cb H x u') (gC hid x)):=kL hh;have n0: ∀b o,c.H₀ b=some o->b≠x:=λb o q e=>by subst e;rw[h0] at q;cases q
 have ne: ∀(i:Nat) (s:Sl) (a' y:Addr),ρ[i]? =some s->Ow (some s)->σ[i]? =some (some (.ref a'))->At H a' y->y≠x:=λi s a' y e o q hy z=>by
  subst z;exact no i a' (by rw[e];exact o) q hy
 refine⟨λb hb=>?_,λb xs hb=>?_,λb hb=>?_,λb o q m=>by rw[aH (n0 b o q)];exact h.kp b o q m,λb o q=>by rw[aH (n0 b o q)];exact h.t0 b o q,h.c0,h.m0,h.len,λi s e=>?_,h.ap⟩
 ·obtain⟨h1,h2⟩:=nk hb;rw[aH h2];exact h.tr b h1
 ·obtain⟨h1,h2⟩:=nk hb;rw[aH h2];exact h.ht b xs h1
 ·obtain⟨o,q⟩:=h.c0 b hb;rw[jX (n0 b o q)];exact h.h0 b hb
 ·have z:=h.sl i s e;cases s with
  |no=>trivial
  |v d=>obtain⟨x,h1,h2⟩:=z;exact⟨x,h1,h2.mono sm⟩
  |own ds=>
   obtain⟨a',xs,h1,h2,h3,h4,h5⟩:=z;have n:=ne i _ a' a' e trivial h1 (.inl rfl);exact⟨a',xs,h1,by rw[aH n];exact h2,by rw[jX n];exact h3,h4,h5.mono sm⟩
  |arg ds=>
   obtain⟨a',xs,h1,h2,h3,h4,h5⟩:=z;have n:=ne i _ a' a' e trivial h1 (.inl rfl);exact⟨a',xs,h1,by rw[aH n];exact h2,by rw[jX n];exact h3,h4,h5.mono sm⟩
  |ob b=>
   obtain⟨a',h1,h2⟩:=z;exact⟨a',h1,h2.mono (λow y hy o q=>by rw[aH (ne i _ a' y e ow h1 hy)];exact q) sm λow y hy q=>by rw[jX (ne i _ a' y e ow h1 hy)];exact q⟩
theorem SR.mark {i:Nat}{s:Sl}(h:SR K c hid ρ σ H)(hs:SlOk K c hid σ H i s)(no: ¬Ow (some s)):SR K c hid (ρ.set i s) σ H:=by
 have ow: ∀j:Nat,Ow (ρ.set i s)[j]? ->Ow ρ[j]? :=λj o=>by
  by_cases e:j=i
  ·subst e
   by_cases lt:j<ρ.length
   ·rw[List.getElem?_set_self lt] at o;exact absurd o no
   ·rw[List.getElem?_eq_none (by simpa using lt)] at o;exact o.elim
  ·rw[List.getElem?_set_ne (Ne.symm e)] at o;exact o
 refine⟨h.tr,h.ht,h.h0,h.kp,h.t0,h.c0,h.m0,by simp[h.len],λj s' e=>?_,λj l z n o1 o2=>h.ap j l z n (ow j o1) (ow l o2)⟩
 by_cases ej:j=i
 ·subst ej;have lt:j<ρ.length:=by
   have:=(List.getElem?_eq_some_iff.mp e).1;simpa using this
  rw[List.getElem?_set_self lt] at e;cases e;exact hs
 ·rw[List.getElem?_set_ne (Ne.symm ej)] at e;exact h.sl j s' e
end
section
variable {X:Cx}{c:Ct}{k:Kd}{st:Stmt}{t:FS}
theorem set_set {ρ:aG}{i:Nat}{a b:Sl}:(ρ.set i a).set i b=ρ.set i b:=by simp
end
def yS(i:Nat)(ρ:aG):Option (List (ba×D)):=match ρ[i]? with
 |some (.ob (.dR kvs))=>some kvs
 |_=>none
theorem nQ {i:Nat}{ρ:aG}{kvs:List (ba×D)}(h:yS i ρ=some kvs):ρ[i]? =some (.ob (.dR kvs)):=by
 unfold yS at h;split at h
 ·cases h;assumption
 ·cases h
section
variable {X:Cx}{c:Ct}{k1:Kd}{e tg:Expr}{fe:FE}{pos py:Pos}{x y:Str}
def vj(i:Nat)(fk:FE):FE:=λρ=>(yS i ρ).bind λkvs=>((fk ρ).bind nX).bind λk=>jg kvs k
theorem zn(i:Nat)(hu:X.A.units+1<cLine)(he:DP X c k1 e fe)(hs:yE e)(hN:X.N[i]? =some y:=by rfl)(hv':nB X.env.scope y:=by first|exact Or.inl rfl|exact Or.inr (Or.inl rfl)|exact Or.inr (Or.inr rfl))(hd:(y==("__debug__":Str))=false:=by decide)
 (hcd:(y==("__classdict__":Str))=false:=by decide):DP X c .s (.Subscript (.Name y py) e pos) (vj i fe):=λhid ρ=>
 PE.imp (tM hu (pv i hN hv' hd hcd) (he hid ρ) hs) λσ H Q hq_=>by
  obtain⟨sr,d,hd,q⟩:=hq_;obtain⟨kvs,e0,hd⟩:=Option.bind_eq_some_iff.mp hd;obtain⟨kk,e1,hd⟩:=Option.bind_eq_some_iff.mp hd;obtain⟨dk,e3,e4⟩:=Option.bind_eq_some_iff.mp e1;obtain⟨j,rfl,rfl⟩:=ij e4;obtain⟨a,a1,o,us,a2,a3,a4⟩:=sr.sl i _ (nQ e0);refine⟨.ref a,a1,sr,_,e3,λz H2 s2 r2=>?_⟩;have i1:=(RK.b k1 r2 λa n=>sr.fresh n).int;cases i1;have hh:H2 a=some (.frz o (.dK us)):=s2 _ _ (di _ _ _ _ a2);have rr:KRl X.K (vw H2 hid) us kvs:=⟨a3,a4.mono (aM s2)⟩
  rcases rr.val (Sum.inl j) with⟨v1,v2⟩|⟨v,d',v1,v2,v3⟩
  ·rw[v2] at hd;cases hd
  ·rw[v2] at hd;cases hd;exact⟨a,v,rfl,v1▸ .inl ⟨us,Sum.inl j,.inr ⟨o,hh⟩,rfl,rfl⟩,q _ H2 s2 v3⟩
end
end L2
namespace PySem
open PySem PySem.Spec PyProof.Rows
end PySem
namespace L2
open PySem PySem.Spec PyProof.Rows
set_option maxHeartbeats 1000000
open PySem PyProof.Rows
def du:Bool->Keyed->Array Keyed->Nat->Nat->Nat->StateT SortSt Sem (Option Nat):=sortPriv% PySem.Builtin.gallop
abbrev sG(left:Bool)(key:Keyed)(arr:Array Keyed)(base i:Nat):StateT SortSt Sem (Option Bool):=do
 let x <-elem' arr (base+i)
 if left then lt' x key else return(<-lt' key x).map (!·)
theorem sU(left:Bool)(key:Keyed)(arr:Array Keyed)(base n hint:Nat):du left key arr base n hint=(do
 let mut lastofs:=0
 let mut ofs:=1
 let mut lo:=0
 let mut hi:=0
 let some right <-sG left key arr base hint|return none
 if right then
  let maxofs:=n-hint
  for _ in [0:n] do
   if ofs≥maxofs then break
   let some more <-sG left key arr base (hint+ofs)|return none
   if !more then break
   lastofs:=ofs
   ofs:=2*ofs+1
  lo:=hint+lastofs+1
  hi:=hint+min ofs maxofs
 else
  let maxofs:=hint+1
  for _ in [0:n] do
   if ofs≥maxofs then break
   let some found <-sG left key arr base (hint-ofs)|return none
   if found then break
   lastofs:=ofs
   ofs:=2*ofs+1
  lo:=hint+1-min ofs maxofs
  hi:=hint-lastofs
 for _ in [0:n] do
  if lo≥hi then break
  let m:=lo+(hi-lo) / 2
  let some more <-sG left key arr base m|return none
  if more then lo:=m+1 else hi:=m
 return some hi):=rfl
abbrev bz:Keyed:=(Value.none,Value.none)
structure Cmp(prog:Program)(w:World)(A:Around)(E:Value->Shared->Prop)(s:Shared)(κ:SortKind)(P:Keyed->Prop)(L:Keyed->Keyed->Bool):Prop where
 ask: ∀x y,P x->P y-> ∀(st:SortSt) (Q:Option Bool->SortSt->Prop),kindOf st=κ->Q (some (L x y)) st->wpS (model prog w) A E s (lt' x y) Q st
 tr: ∀x y z,P x->P y->P z->L y x=false->L z y=false->L z x=false
 as: ∀x y,L x y=true->L y x=false
section
variable {prog:Program}{w:World}{A:Around}{E:Value->Shared->Prop}{s:Shared}{κ:SortKind}{P:Keyed->Prop}{L:Keyed->Keyed->Bool}
theorem ax {arr:Array Keyed}{i:Nat}{Q:Keyed->SortSt->Prop}{st:SortSt}(hi:i<arr.size)(h:Q (arr.getD i bz) st):wpS (model prog w) A E s (elem' arr i) Q st:=by
 rw[elem'_eq,Array.getElem?_eq_getElem hi];refine wpS_pure ?_
 have:arr.getD i bz=arr[i]:=by simp[Array.getD,hi]
 rw[<-this];exact h
def gD(L:Keyed->Keyed->Bool)(left:Bool)(key:Keyed)(arr:Array Keyed)(base i:Nat):Bool:=if left then L (arr.getD (base+i) bz) key else !(L key (arr.getD (base+i) bz))
theorem zU(C:Cmp prog w A E s κ P L){left:Bool}{key:Keyed}{arr:Array Keyed}{base i:Nat}{st:SortSt}{Q:Option Bool->SortSt->Prop}(hk:kindOf st=κ)(hkey:P key)(hi:base+i<arr.size)(hP:P (arr.getD (base+i) bz))
 (h:Q (some (gD L left key arr base i)) st):wpS (model prog w) A E s (sG left key arr base i) Q st:=by
 unfold sG;refine wpS_bind (ax hi ?_);unfold gD at h;cases left with
 |true=>rw[if_pos rfl] at h⊢;exact C.ask _ _ hP hkey _ _ hk h
 |false=>
  rw[if_neg (by decide)] at h⊢;exact wpS_bind (C.ask _ _ hkey hP _ _ hk (wpS_pure h))
def iB(L:Keyed->Keyed->Bool)(arr:Array Keyed)(lo hi:Nat):Prop:= ∀i j,lo<=i->i<=j->j<hi->L (arr.getD j bz) (arr.getD i bz)=false
theorem xR(C:Cmp prog w A E s κ P L){left:Bool}{key:Keyed}{arr:Array Keyed}{base n:Nat}(hkey:P key)(hP: ∀i,i<n->P (arr.getD (base+i) bz))(hS:iB L arr base (base+n)){i j:Nat}(hij:i<=j)(hj:j<n)
 (h:gD L left key arr base j=true):gD L left key arr base i=true:=by
 unfold gD at h⊢;have e:=hS (base+i) (base+j) (by omega) (by omega) (by omega);cases left with
 |true=>
  rw[if_pos rfl] at h⊢;cases q:L (arr.getD (base+i) bz) key with
  |true=>rfl
  |false=>
   have:=C.tr _ _ _ hkey (hP i (by omega)) (hP j hj) q e;rw[this] at h;cases h
 |false=>
  rw[if_neg (by decide)] at h⊢;rw[Bool.not_eq_true'] at h⊢;exact C.tr _ _ _ (hP i (by omega)) (hP j hj) hkey e h
structure Cut(b:Nat->Bool)(n k:Nat):Prop where
 leq:k<=n
 lo: ∀i,i<k->b i=true
 hi: ∀i,k<=i->i<n->b i=false
theorem eS(C:Cmp prog w A E s κ P L){left:Bool}{key:Keyed}{arr:Array Keyed}{base n hint:Nat}{st:SortSt}{Q:Option Nat->SortSt->Prop}(hk:kindOf st=κ)(hkey:P key)(hz:base+n<=arr.size)(hh:hint<n)
 (hP: ∀i,i<n->P (arr.getD (base+i) bz)) (hS:iB L arr base (base+n)) (h: ∀k,Cut (gD L left key arr base) n k->Q (some k) st):wpS (model prog w) A E s (du left key arr base n hint) Q st:=by
 rw[sU];have mono:=λ{i j:Nat} (hij:i<=j) (hj:j<n)=>xR C (left:=left) hkey hP hS hij hj
 have askB: ∀i,i<n-> ∀(R:Option Bool->SortSt->Prop),R (some (gD L left key arr base i)) st->wpS (model prog w) A E s (sG left key arr base i) R st:=λi hi R hR=>zU C hk hkey (by omega) (hP i hi) hR
 generalize hb:gD L left key arr base=b at mono askB h;have second: ∀(f:Nat->Option (Option Nat)×Nat×Nat->StateT SortSt Sem (ForInStep (Option (Option Nat)×Nat×Nat))) (lo hi:Nat) (R':Option (Option Nat)×Nat×Nat->SortSt->Prop),
  (∀x l u (R:ForInStep (Option (Option Nat)×Nat×Nat)->SortSt->Prop),l≥u->R (.done (none,l,u)) st->wpS (model prog w) A E s (f x (none,l,u)) R st)->
  (∀x l u (R:ForInStep (Option (Option Nat)×Nat×Nat)->SortSt->Prop),¬l≥u->u<=n->(b (l+(u-l) / 2)=true->R (.yield (none,l+(u-l) / 2+1,u)) st)->(b (l+(u-l) / 2)=false->R (.yield (none,l,l+(u-l) / 2)) st)->wpS (model prog w) A E s (f x (none,l,u)) R st)->
  lo<=hi->hi<=n->(∀i,i<lo->b i=true)->(∀i,hi<=i->i<n->b i=false)->(∀l,Cut b n l->R' (none,l,l) st)->wpS (model prog w) A E s (forIn [0:n] ((none,lo,hi):Option (Option Nat)×Nat×Nat) f) R' st:=λf lo hi R' f1 f2 h1 h2 h3 h4 k=>by
  refine wpS_mono (wpS_forRange
   (I:=λx c st'=>st'=st/\ ∃l u,c=(none,l,u)/\l<=u/\u<=n/\(∀i,i<l->b i=true)/\(∀i,u<=i->i<n->b i=false)/\u-l<=n-x)
   (Q:=λc st'=>st'=st/\ ∃l,c=(none,l,l)/\l<=n/\(∀i,i<l->b i=true)/\(∀i,l<=i->i<n->b i=false)) ?_ ?_ ⟨rfl,lo,hi,rfl,h1,h2,h3,h4,by omega⟩) ?_
  ·rintro x c st' _ hx ⟨rfl,l,u,rfl,a1,a2,a3,a4,a5⟩
   by_cases hc:l≥u
   ·refine f1 x l u _ hc ?_
    have:l=u:=by omega
    subst this;exact⟨rfl,l,rfl,a2,a3,a4⟩
   ·refine f2 x l u _ hc a2 (λe=>?_) λe=>?_
    ·refine⟨rfl,_,_,rfl,by omega,a2,λi hi=>?_,a4,by omega⟩;exact mono (show i<=l+(u-l) / 2 by omega) (by omega) e
    ·refine⟨rfl,_,_,rfl,by omega,by omega,a3,λi hi hn=>?_,by omega⟩;cases q:b i with
     |false=>rfl
     |true=>have:=mono hi hn q;rw[e] at this;cases this
  ·rintro c st' ⟨rfl,l,u,rfl,a1,a2,a3,a4,a5⟩;have:l=u:=by omega
   subst this;exact⟨rfl,l,rfl,a2,a3,a4⟩
  ·rintro c st' ⟨rfl,l,rfl,a1,a2,a3⟩;exact k l ⟨a1,a2,a3⟩
 refine wpS_bind (askB hint hh _ ?_);dsimp only;cases e:b hint with
 |true=>
  rw[if_pos rfl];refine wpS_bind (wpS_mono (wpS_forRange
   (I:=λx c st'=>st'=st/\ ∃l o,c=(none,l,o)/\l<o/\hint+l<n/\b (hint+l)=true/\x+1<=o)
   (Q:=λc st'=>st'=st/\ ∃l o,c=(none,l,o)/\l<o/\hint+l<n/\b (hint+l)=true/\(o≥n-hint\/b (hint+o)=false)) ?_ ?_ ⟨rfl,0,1,rfl,by omega,by omega,e,by omega⟩) ?_)
  ·rintro x c st' _ hx ⟨rfl,l,o,rfl,a1,a2,a3,a4⟩;dsimp only
   by_cases hc:o≥n-hint
   ·rw[if_pos hc];exact wpS_pure ⟨rfl,l,o,rfl,a1,a2,a3,.inl hc⟩
   ·rw[if_neg hc];refine wpS_bind (askB _ (by omega) _ ?_);dsimp only;cases e2:b (hint+o) with
    |false=>exact wpS_pure ⟨rfl,l,o,rfl,a1,a2,a3,.inr e2⟩
    |true=>exact wpS_pure ⟨rfl,o,_,rfl,by omega,by omega,e2,by omega⟩
  ·rintro c st' ⟨rfl,l,o,rfl,a1,a2,a3,a4⟩;exact⟨rfl,l,o,rfl,a1,a2,a3,.inl (by omega)⟩
  ·rintro c st' ⟨rfl,l,o,rfl,a1,a2,a3,a4⟩
   dsimp only;refine wpS_bind (second _ (hint+l+1) (hint+min o (n-hint)) _ (λx l u R hc hR=>by
    dsimp only;rw[if_pos hc];exact wpS_pure hR) (λx l u R hc hu r1 r2=>by
    dsimp only;rw[if_neg hc];refine wpS_bind (askB _ (by omega) _ ?_);dsimp only;cases e9:b (l+(u-l) / 2) with
    |true=>rw[if_pos rfl];exact wpS_pure (r1 e9)
    |false=>rw[if_neg (by decide)];exact wpS_pure (r2 e9)) (by omega) (by omega) (λi hi=>mono (show i<=hint+l by omega) a2 a3) (λi hi hn=>?_) λk hk=>wpS_pure (h k hk))
   rcases a4 with a4|a4
   ·omega
   ·cases q:b i with
    |false=>rfl
    |true=>
     by_cases h9:hint+o<=i
     ·have:=mono h9 hn q;rw[a4] at this;cases this
     ·omega
 |false=>
  rw[if_neg (by decide)]
  refine wpS_bind (wpS_mono (wpS_forRange
   (I:=λx c st'=>st'=st/\ ∃l o,c=(none,l,o)/\l<o/\l<=hint/\b (hint-l)=false/\x+1<=o)
   (Q:=λc st'=>st'=st/\ ∃l o,c=(none,l,o)/\l<o/\l<=hint/\b (hint-l)=false/\(o≥hint+1\/b (hint-o)=true)) ?_ ?_ ⟨rfl,0,1,rfl,by omega,by omega,e,by omega⟩) ?_)
  ·rintro x c st' _ hx ⟨rfl,l,o,rfl,a1,a2,a3,a4⟩;dsimp only
   by_cases hc:o≥hint+1
   ·rw[if_pos hc];exact wpS_pure ⟨rfl,l,o,rfl,a1,a2,a3,.inl hc⟩
   ·rw[if_neg hc];refine wpS_bind (askB _ (by omega) _ ?_);dsimp only;cases e2:b (hint-o) with
    |true=>exact wpS_pure ⟨rfl,l,o,rfl,a1,a2,a3,.inr e2⟩
    |false=>exact wpS_pure ⟨rfl,o,_,rfl,by omega,by omega,e2,by omega⟩
  ·rintro c st' ⟨rfl,l,o,rfl,a1,a2,a3,a4⟩;exact⟨rfl,l,o,rfl,a1,a2,a3,.inl (by omega)⟩
  ·rintro c st' ⟨rfl,l,o,rfl,a1,a2,a3,a4⟩
   dsimp only;refine wpS_bind (second _ (hint+1-min o (hint+1)) (hint-l) _ (λx l u R hc hR=>by
    dsimp only;rw[if_pos hc];exact wpS_pure hR) (λx l u R hc hu r1 r2=>by
    dsimp only;rw[if_neg hc];refine wpS_bind (askB _ (by omega) _ ?_);dsimp only;cases e9:b (l+(u-l) / 2) with
    |true=>rw[if_pos rfl];exact wpS_pure (r1 e9)
    |false=>rw[if_neg (by decide)];exact wpS_pure (r2 e9)) (by omega) (by omega) (λi hi=>?_) (λi hi hn=>?_) λk hk=>wpS_pure (h k hk))
   ·rcases a4 with a4|a4
    ·omega
    ·by_cases h9:o≥hint+1
     ·omega
     ·exact mono (show i<=hint-o by omega) (by omega) a4
   ·cases q:b i with
    |false=>rfl
    |true=>have:=mono hi hn q;rw[a3] at this;cases this
end
def ml:Array Keyed->Array Keyed->StateT SortSt Sem (Array Keyed):=sortPriv% PySem.Builtin.mergeLo
def mq:Array Keyed->Array Keyed->StateT SortSt Sem (Array Keyed):=sortPriv% PySem.Builtin.mergeHi
abbrev aT(st:SortSt)(g:Nat):SortSt:=SortSt.mk' (kindOf st) (arrOf st) (pendingOf st) g (failedOf st)
theorem pK(a b:Array Keyed):ml a b=(do
 rule "list.sort.merge-lo"
 let total:=a.size+b.size
 let done (out:Array Keyed) (ia ib:Nat):=out++a.extract ia a.size++b.extract ib b.size
 let lastOfA (out:Array Keyed) (ia ib:Nat):=out++b.extract ib b.size++a.extract ia a.size
 let mut out:Array Keyed:= #[<-elem' b 0]
 let mut ia:=0
 let mut ib:=1
 if ib==b.size then return done out ia ib
 if ia+1==a.size then return lastOfA out ia ib
 let mut minGallop:=gallopOf (<-get)
 for _ in [0:total] do
  let mut acount:=0
  let mut bcount:=0
  for _ in [0:total] do
   let some bWins <-lt' (<-elem' b ib) (<-elem' a ia)|return done out ia ib
   if bWins then
    out:=out.push (<-elem' b ib);ib:=ib+1;bcount:=bcount+1;acount:=0
    if ib==b.size then return done out ia ib
    if bcount≥minGallop then break
   else
    out:=out.push (<-elem' a ia);ia:=ia+1;acount:=acount+1;bcount:=0
    if ia+1==a.size then return lastOfA out ia ib
    if acount≥minGallop then break
  rule "list.sort.gallop"
  minGallop:=minGallop+1
  for _ in [0:total] do
   if minGallop>1 then minGallop:=minGallop-1
   modify λs=>aT s minGallop
   let some k <-du false (<-elem' b ib) a ia (a.size-ia) 0 |return done out ia ib
   acount:=k
   if k>0 then
    out:=out++a.extract ia (ia+k);ia:=ia+k
    if ia+1==a.size then return lastOfA out ia ib
    if ia==a.size then return done out ia ib
   out:=out.push (<-elem' b ib);ib:=ib+1
   if ib==b.size then return done out ia ib
   let some k <-du true (<-elem' a ia) b ib (b.size-ib) 0 |return done out ia ib
   bcount:=k
   if k>0 then
    out:=out++b.extract ib (ib+k);ib:=ib+k
    if ib==b.size then return done out ia ib
   out:=out.push (<-elem' a ia);ia:=ia+1
   if ia+1==a.size then return lastOfA out ia ib
   if acount<7&&bcount<7 then break
  minGallop:=minGallop+1
  modify λs=>aT s minGallop
 unsupported "internal:list.sort.merge-bound"):=rfl
section
variable {L:Keyed->Keyed->Bool}{P:Keyed->Prop}
abbrev leq(L:Keyed->Keyed->Bool)(x y:Keyed):Prop:=L y x=false
structure MJ(L:Keyed->Keyed->Bool)(A B:List Keyed)(out:List Keyed)(ia ib:Nat):Prop where
 pm:out.Perm (A.take ia++B.take ib)
 so:out.Pairwise (leq L)
 up: ∀x∈out,∀y∈A.drop ia++B.drop ib,leq L x y
structure MG(L:Keyed->Keyed->Bool)(A B:List Keyed)(out:List Keyed):Prop where
 pm:out.Perm (A++B)
 so:out.Pairwise (leq L)
theorem fK(A:List Keyed)(i k:Nat):A.take (i+k)=A.take i++(A.drop i).take k:=by rw[List.take_add]
theorem qc {A:List Keyed}{i k:Nat}{y:Keyed}(h:y∈A.drop (i+k)):y∈A.drop i:=by
 rw[<-List.drop_drop] at h;exact List.mem_of_mem_drop h
theorem lK {A:List Keyed}(h:A.Pairwise (leq L))(i k:Nat):((A.drop i).take k).Pairwise (leq L)/\ ∀x∈(A.drop i).take k,∀y∈A.drop (i+k),leq L x y:=by
 have h2:(A.drop i).Pairwise (leq L):=List.Pairwise.sublist (List.drop_sublist i A) h;rw[<-List.take_append_drop k (A.drop i),List.pairwise_append] at h2;refine⟨h2.1,λx hx y hy=>h2.2.2 x hx y ?_⟩;rw[List.drop_drop];exact hy
theorem MJ.takeA {A B out:List Keyed}{ia ib k:Nat}(h:MJ L A B out ia ib)(hA:A.Pairwise (leq L))(hb: ∀x∈(A.drop ia).take k,∀y∈B.drop ib,leq L x y):MJ L A B (out++(A.drop ia).take k) (ia+k) ib:=by
 have⟨s1,s2⟩:=lK hA ia k;refine⟨?_,?_,?_⟩
 ·rw[fK];refine(List.Perm.append_right _ h.pm).trans ?_
  rw[List.append_assoc,List.append_assoc];exact List.Perm.append_left _ List.perm_append_comm
 ·rw[List.pairwise_append];exact⟨h.so,s1,λx hx y hy=>h.up x hx y (List.mem_append_left _ (List.mem_of_mem_take hy))⟩
 ·intro x hx y hy;rcases List.mem_append.mp hy with hy|hy
  ·rcases List.mem_append.mp hx with hx|hx
   ·exact h.up x hx y (List.mem_append_left _ (qc hy))
   ·exact s2 x hx y hy
  ·rcases List.mem_append.mp hx with hx|hx
   ·exact h.up x hx y (List.mem_append_right _ hy)
   ·exact hb x hx y hy
theorem MJ.takeB {A B out:List Keyed}{ia ib k:Nat}(h:MJ L A B out ia ib)(hB:B.Pairwise (leq L))(ha: ∀x∈(B.drop ib).take k,∀y∈A.drop ia,leq L x y):MJ L A B (out++(B.drop ib).take k) ia (ib+k):=by
 have⟨s1,s2⟩:=lK hB ib k;refine⟨?_,?_,?_⟩
 ·rw[fK,<-List.append_assoc];exact List.Perm.append_right _ h.pm
 ·rw[List.pairwise_append];exact⟨h.so,s1,λx hx y hy=>h.up x hx y (List.mem_append_right _ (List.mem_of_mem_take hy))⟩
 ·intro x hx y hy;rcases List.mem_append.mp hy with hy|hy
  ·rcases List.mem_append.mp hx with hx|hx
   ·exact h.up x hx y (List.mem_append_left _ hy)
   ·exact ha x hx y hy
  ·rcases List.mem_append.mp hx with hx|hx
   ·exact h.up x hx y (List.mem_append_right _ (qc hy))
   ·exact s2 x hx y hy
theorem MJ.fin {A B out:List Keyed}{ia ib:Nat}(h:MJ L A B out ia ib)(hA:A.Pairwise (leq L))(hB:B.Pairwise (leq L))(hab: ∀x∈A.drop ia,∀y∈B.drop ib,leq L x y):MG L A B (out++A.drop ia++B.drop ib):=by
 refine⟨?_,?_⟩
 ·have:(out++A.drop ia++B.drop ib).Perm ((A.take ia++A.drop ia)++(B.take ib++B.drop ib)):=by
   refine(List.Perm.append_right _ (List.Perm.append_right _ h.pm)).trans ?_
   rw[List.append_assoc,List.append_assoc,List.append_assoc];refine List.Perm.append_left _ ?_
   rw[<-List.append_assoc,<-List.append_assoc];exact List.Perm.append_right _ List.perm_append_comm
  rw[List.take_append_drop,List.take_append_drop] at this;exact this
 ·rw[List.pairwise_append,List.pairwise_append];refine⟨⟨h.so,List.Pairwise.sublist (List.drop_sublist _ _) hA,λx hx y hy=>h.up x hx y (List.mem_append_left _ hy)⟩,List.Pairwise.sublist (List.drop_sublist _ _) hB,λx hx y hy=>?_⟩;rcases List.mem_append.mp hx with hx|hx
  ·exact h.up x hx y (List.mem_append_right _ hy)
  ·exact hab x hx y hy
theorem MJ.fin2 {A B out:List Keyed}{ia ib:Nat}(h:MJ L A B out ia ib)(hA:A.Pairwise (leq L))(hB:B.Pairwise (leq L))(hab: ∀y∈B.drop ib,∀x∈A.drop ia,leq L y x):MG L A B (out++B.drop ib++A.drop ia):=by
 refine⟨?_,?_⟩
 ·have:=(MJ.fin (L:=λ_ _=>false) ⟨h.pm,List.Pairwise.imp (λ_=>rfl) h.so,λ_ _ _ _=>rfl⟩ (List.Pairwise.imp (λ_=>rfl) hA) (List.Pairwise.imp (λ_=>rfl) hB) λ_ _ _ _=>rfl).pm;refine List.Perm.trans ?_ this;rw[List.append_assoc,List.append_assoc];exact List.Perm.append_left _ List.perm_append_comm
 ·rw[List.pairwise_append,List.pairwise_append];refine⟨⟨h.so,List.Pairwise.sublist (List.drop_sublist _ _) hB,λx hx y hy=>h.up x hx y (List.mem_append_right _ hy)⟩,List.Pairwise.sublist (List.drop_sublist _ _) hA,λx hx y hy=>?_⟩;rcases List.mem_append.mp hx with hx|hx
  ·exact h.up x hx y (List.mem_append_left _ hy)
  ·exact hab x hx y hy
theorem dq(a:Array Keyed)(i j:Nat):(a.extract i j).toList=(a.toList.drop i).take (j-i):=by
 rw[Array.toList_extract,List.extract_eq_drop_take]
theorem ly(a:Array Keyed)(i:Nat):(a.extract i a.size).toList=a.toList.drop i:=by
 rw[dq,List.take_of_length_le (by simp)]
theorem iF(a:Array Keyed){i:Nat}(h:i<a.size):(a.toList.drop i).take 1=[a.getD i bz]:=by
 have e:a.getD i bz=a.toList[i]'(by simpa using h):=by simp[Array.getD,h]
 rw[e,List.drop_eq_getElem_cons (by simpa using h)];rfl
theorem gr {a:Array Keyed}{i:Nat}{y:Keyed}(h:y∈a.toList.drop i): ∃j,i<=j/\j<a.size/\y=a.getD j bz:=by
 obtain⟨j,hj,e⟩:=List.getElem_of_mem h;rw[List.getElem_drop] at e;have hl:i+j<a.size:=by simp at hj;omega
 exact⟨i+j,by omega,hl,by rw[<-e];simp[Array.getD,hl]⟩
theorem iW {a:Array Keyed}{i k:Nat}{y:Keyed}(h:y∈(a.toList.drop i).take k): ∃j,j<k/\i+j<a.size/\y=a.getD (i+j) bz:=by
 obtain⟨j,hj,e⟩:=List.getElem_of_mem h;rw[List.getElem_take,List.getElem_drop] at e;have hj2:j<k/\j<a.size-i:=by simpa [Nat.lt_min] using hj
 have hl:i+j<a.size:=by omega
 exact⟨j,hj2.1,hl,by rw[<-e];simp[Array.getD,hl]⟩
theorem wt {a:Array Keyed}(h:a.toList.Pairwise (leq L))(rf: ∀x,L x x=false):iB L a 0 a.size:=λi j _ hij hj=>by
 by_cases e:i=j
 ·subst e;exact rf _
 ·have:=List.pairwise_iff_getElem.mp h i j (by simpa using (show i<a.size by omega)) (by simpa using hj) (by omega);have hi:i<a.size:=by omega
  simpa [Array.getD,hi,hj] using this
end
section
variable {prog:Program}{w:World}{A:Around}{E:Value->Shared->Prop}{s:Shared}{κ:SortKind}{P:Keyed->Prop}{L:Keyed->Keyed->Bool}
theorem Cmp.rf(C:Cmp prog w A E s κ P L)(x:Keyed):L x x=false:=by
 cases h:L x x with
 |false=>rfl
 |true=>have:=C.as _ _ h;rw[h] at this;exact this
structure TwoR(P:Keyed->Prop)(L:Keyed->Keyed->Bool)(a b:Array Keyed):Prop where
 sa:a.toList.Pairwise (leq L)
 sb:b.toList.Pairwise (leq L)
 pa: ∀i,i<a.size->P (a.getD i bz)
 pb: ∀i,i<b.size->P (b.getD i bz)
 na:1<=a.size
 nb:1<=b.size
 first: ∀i,i<a.size->L (b.getD 0 bz) (a.getD i bz)=true
 last: ∀j,j<b.size->L (b.getD j bz) (a.getD (a.size-1) bz)=true
variable {a b:Array Keyed}
structure MI(L:Keyed->Keyed->Bool)(a b out:Array Keyed)(ia ib:Nat):Prop where
 j:MJ L a.toList b.toList out.toList ia ib
 ha:ia+1<a.size
 hb:ib<b.size
theorem fh(T:TwoR P L a b){out:Array Keyed}{ia ib:Nat}(h:MJ L a.toList b.toList out.toList ia ib)(e:a.size<=ia\/b.size<=ib):MG L a.toList b.toList (out++a.extract ia a.size++b.extract ib b.size).toList:=by
 rw[Array.toList_append,Array.toList_append,ly,ly];refine h.fin T.sa T.sb λx hx y hy=>?_
 obtain⟨i,h1,h2,_⟩:=gr hx;obtain⟨j,h3,h4,_⟩:=gr hy;omega
theorem dz(C:Cmp prog w A E s κ P L)(T:TwoR P L a b){out:Array Keyed}{ia ib:Nat}(h:MJ L a.toList b.toList out.toList ia ib)(e:ia+1=a.size):MG L a.toList b.toList (out++b.extract ib b.size++a.extract ia a.size).toList:=by
 rw[Array.toList_append,Array.toList_append,ly,ly];refine h.fin2 T.sa T.sb λy hy x hx=>?_
 obtain⟨i,h1,h2,rfl⟩:=gr hx;obtain⟨j,h3,h4,rfl⟩:=gr hy;have:=T.last j h4;rw[show a.size-1=i by omega] at this;exact C.as _ _ this
theorem ee(T:TwoR P L a b){out:Array Keyed}{ia ib:Nat}(h:MJ L a.toList b.toList out.toList ia ib)(hi:ia<a.size)(q: ∀j,ib<=j->j<b.size->leq L (a.getD ia bz) (b.getD j bz)):MJ L a.toList b.toList (out.push (a.getD ia bz)).toList (ia+1) ib:=by
 have:=h.takeA (k:=1) T.sa (by
  rw[iF a hi];intro x hx y hy;rw[List.mem_singleton] at hx;subst hx;obtain⟨j,h3,h4,rfl⟩:=gr hy
  exact q j h3 h4)
 rw[iF a hi] at this;rw[Array.toList_push];exact this
theorem gI(T:TwoR P L a b){out:Array Keyed}{ia ib:Nat}(h:MJ L a.toList b.toList out.toList ia ib)(hi:ib<b.size)(q: ∀j,ia<=j->j<a.size->leq L (b.getD ib bz) (a.getD j bz)):MJ L a.toList b.toList (out.push (b.getD ib bz)).toList ia (ib+1):=by
 have:=h.takeB (k:=1) T.sb (by
  rw[iF b hi];intro x hx y hy;rw[List.mem_singleton] at hx;subst hx;obtain⟨j,h3,h4,rfl⟩:=gr hy
  exact q j h3 h4)
 rw[iF b hi] at this;rw[Array.toList_push];exact this
theorem qE(T:TwoR P L a b){out:Array Keyed}{ia ib k:Nat}(h:MJ L a.toList b.toList out.toList ia ib)(q: ∀i,i<k->ia+i<a.size-> ∀j,ib<=j->j<b.size->leq L (a.getD (ia+i) bz) (b.getD j bz)):MJ L a.toList b.toList (out++a.extract ia (ia+k)).toList (ia+k) ib:=by
 rw[Array.toList_append,dq,Nat.add_sub_cancel_left];refine h.takeA (k:=k) T.sa λx hx y hy=>?_
 obtain⟨i,h1,h2,rfl⟩:=iW hx;obtain⟨j,h3,h4,rfl⟩:=gr hy;exact q i h1 h2 j h3 h4
theorem jU(T:TwoR P L a b){out:Array Keyed}{ia ib k:Nat}(h:MJ L a.toList b.toList out.toList ia ib)(q: ∀i,i<k->ib+i<b.size-> ∀j,ia<=j->j<a.size->leq L (b.getD (ib+i) bz) (a.getD j bz)):MJ L a.toList b.toList (out++b.extract ib (ib+k)).toList ia (ib+k):=by
 rw[Array.toList_append,dq,Nat.add_sub_cancel_left];refine h.takeB (k:=k) T.sb λx hx y hy=>?_
 obtain⟨i,h1,h2,rfl⟩:=iW hx;obtain⟨j,h3,h4,rfl⟩:=gr hy;exact q i h1 h2 j h3 h4
theorem TwoR.sa'(C:Cmp prog w A E s κ P L)(T:TwoR P L a b){i j:Nat}(h:i<=j)(hj:j<a.size):leq L (a.getD i bz) (a.getD j bz):=wt T.sa C.rf i j (Nat.zero_le _) h hj
theorem TwoR.sb'(C:Cmp prog w A E s κ P L)(T:TwoR P L a b){i j:Nat}(h:i<=j)(hj:j<b.size):leq L (b.getD i bz) (b.getD j bz):=wt T.sb C.rf i j (Nat.zero_le _) h hj
theorem TwoR.bWin(C:Cmp prog w A E s κ P L)(T:TwoR P L a b){ia ib:Nat}(hi:ia<a.size)(hb:ib<b.size)(h:L (b.getD ib bz) (a.getD ia bz)=true): ∀j,ia<=j->j<a.size->leq L (b.getD ib bz) (a.getD j bz):=λj h1 h2=>
 C.tr _ _ _ (T.pb _ hb) (T.pa _ hi) (T.pa _ h2) (C.as _ _ h) (T.sa' C h1 h2)
theorem TwoR.aWin(C:Cmp prog w A E s κ P L)(T:TwoR P L a b){ia ib:Nat}(hi:ia<a.size)(hb:ib<b.size)(h:L (b.getD ib bz) (a.getD ia bz)=false): ∀j,ib<=j->j<b.size->leq L (a.getD ia bz) (b.getD j bz):=λj h1 h2=>
 C.tr _ _ _ (T.pa _ hi) (T.pb _ hb) (T.pb _ h2) h (T.sb' C h1 h2)
theorem rG(C:Cmp prog w A E s κ P L)(T:TwoR P L a b){ia ib:Nat}{st:SortSt}{Q:Option Nat->SortSt->Prop}(hk:kindOf st=κ)(hi:ia<a.size)(hb:ib<b.size)
 (h: ∀k,ia+k<a.size->(∀i,i<k->L (b.getD ib bz) (a.getD (ia+i) bz)=false)->L (b.getD ib bz) (a.getD (ia+k) bz)=true->Q (some k) st):wpS (model prog w) A E s (du false (b.getD ib bz) a ia (a.size-ia) 0) Q st:=by
 refine eS C hk (T.pb _ hb) (by omega) (by omega) (λi hi=>T.pa _ (by omega)) (λi j h1 h2 h3=>T.sa' C h2 (by omega)) λk c=>?_
 have hl:=T.last ib hb;have hk2:ia+k<a.size:=by
  apply Nat.lt_of_not_le;intro h9;have:=c.lo (a.size-1-ia) (by have:=c.leq;omega);unfold gD at this;rw[if_neg (by decide),show ia+(a.size-1-ia)=a.size-1 by omega,hl] at this;cases this
 refine h k hk2 (λi hi=>?_) ?_
 ·have:=c.lo i hi;unfold gD at this;rw[if_neg (by decide),Bool.not_eq_true'] at this;exact this
 ·have:=c.hi k (Nat.le_refl _) (by omega);unfold gD at this;rw[if_neg (by decide),Bool.not_eq_false'] at this;exact this
theorem jH(C:Cmp prog w A E s κ P L)(T:TwoR P L a b){ia ib:Nat}{st:SortSt}{Q:Option Nat->SortSt->Prop}(hk:kindOf st=κ)(hi:ia<a.size)(hb:ib<b.size)
 (h: ∀k,ib+k<=b.size->(∀i,i<k->L (b.getD (ib+i) bz) (a.getD ia bz)=true)->(ib+k<b.size->L (b.getD (ib+k) bz) (a.getD ia bz)=false)->Q (some k) st):wpS (model prog w) A E s (du true (a.getD ia bz) b ib (b.size-ib) 0) Q st:=by
 refine eS C hk (T.pa _ hi) (by omega) (by omega) (λi hi=>T.pb _ (by omega)) (λi j h1 h2 h3=>T.sb' C h2 (by omega)) λk c=>?_
 refine h k (by have:=c.leq;omega) (λi hi=>?_) λh9=>?_
 ·have:=c.lo i hi;unfold gD at this;rw[if_pos rfl] at this;exact this
 ·have:=c.hi k (Nat.le_refl _) (by omega);unfold gD at this;rw[if_pos rfl] at this;exact this
end
set_option maxHeartbeats 2000000
section
variable {prog:Program}{w:World}{A:Around}{E:Value->Shared->Prop}{s:Shared}{κ:SortKind}{P:Keyed->Prop}{L:Keyed->Keyed->Bool}{a b:Array Keyed}
theorem aI {x y:Nat}(h: ¬x=y): ¬(x==y)=true:=by simpa using h
theorem qy(C:Cmp prog w A E s κ P L)(T:TwoR P L a b){st:SortSt}{Q:Array Keyed->SortSt->Prop}(hk:kindOf st=κ)
 (h: ∀r g,MG L a.toList b.toList r.toList->Q r (aT st g)):wpS (model prog w) A E s (ml a b) Q st:=by
 rw[pK];dsimp only;have ha:=T.na;have hb:=T.nb;refine wpS_bind (wpS_lift (wpAny_rule ⟨rfl,?_⟩));refine wpS_bind (ax (by omega) ?_);have hst:st=aT st (gallopOf st):=rfl;have J0:MJ L a.toList b.toList (#[b.getD 0 bz]:Array Keyed).toList 0 1:=by
  have:MJ L a.toList b.toList (#[]:Array Keyed).toList 0 0:=⟨by simp,by simp,by simp⟩
  exact gI T this (by omega) λj _ h2=>C.as _ _ (T.first j h2)
 by_cases e1:1=b.size
 ·rw[if_pos (by simpa using e1)];refine wpS_pure ?_
  rw[hst];exact h _ _ (fh T J0 (.inr (by omega)))
 rw[if_neg (aI e1)]
 by_cases e2:0+1=a.size
 ·rw[if_pos (by simpa using e2)];refine wpS_pure ?_
  rw[hst];exact h _ _ (dz C T J0 e2)
 rw[if_neg (aI e2)];refine wpS_bind (wpS_get ?_)
 refine wpS_bind (wpS_mono (wpS_forRange
  (I:=λx c st'=> ∃out ia ib mg g,c=(none,out,ia,ib,mg)/\st'=aT st g/\MI L a b out ia ib/\x+1<=ia+ib)
  (Q:=λc st'=> ∃r y g,c=(some r,y)/\st'=aT st g/\MG L a.toList b.toList r.toList) ?step ?fin ⟨_,0,1,_,_,rfl,hst,⟨J0,by omega,by omega⟩,by omega⟩) ?post)
 case fin=>
  rintro c st' ⟨out,ia,ib,mg,g,rfl,rfl,M,hx⟩;have:=M.ha;have:=M.hb;omega
 case post=>
  rintro c st' ⟨r,y,g,rfl,rfl,G⟩;exact wpS_pure (h r g G)
 case step=>
  rintro x c st' _ hx ⟨out,ia,ib,mg,g,rfl,rfl,M,hx2⟩
  dsimp only;refine wpS_bind (wpS_mono (wpS_forRange
   (I:=λx' c st'=> ∃out' ia' ib' ac bc,c=(none,out',ia',ib',ac,bc)/\st'=aT st g/\MI L a b out' ia' ib'/\ia+ib+x'<=ia'+ib')
   (Q:=λc st'=>st'=aT st g/\((∃r y,c=(some r,y)/\MG L a.toList b.toList r.toList)\/ ∃out' ia' ib' ac bc,c=(none,out',ia',ib',ac,bc)/\MI L a b out' ia' ib'/\ia+ib+1<=ia'+ib')) ?step1 ?fin1 ⟨out,ia,ib,0,0,rfl,rfl,M,by omega⟩) ?post1)
  case fin1=>
   rintro c st' ⟨out',ia',ib',ac,bc,rfl,rfl,M',hx'⟩;exact⟨rfl,.inr ⟨_,_,_,_,_,rfl,M',by omega⟩⟩
  case step1=>
   rintro x' c st' _ hx' ⟨out',ia',ib',ac,bc,rfl,rfl,M',hx3⟩;have m1:=M'.ha;have m2:=M'.hb;dsimp only;refine wpS_bind (ax m2 (wpS_bind (ax (by omega) ?_)));refine wpS_bind (C.ask _ _ (T.pb _ m2) (T.pa _ (by omega)) _ _ hk ?_);dsimp only;cases e:L (b.getD ib' bz) (a.getD ia' bz) with
   |true=>
    rw[if_pos rfl];refine wpS_bind (ax m2 ?_);have J:=gI T M'.j m2 (T.bWin C (by omega) m2 e)
    by_cases e3:ib'+1=b.size
    ·rw[if_pos (by simpa using e3)];exact wpS_pure ⟨rfl,.inl ⟨_,_,rfl,fh T J (.inr (by omega))⟩⟩
    ·rw[if_neg (aI e3)]
     by_cases q9:bc+1≥mg
     ·rw[if_pos q9];exact wpS_pure ⟨rfl,.inr ⟨_,_,_,_,_,rfl,⟨J,m1,by omega⟩,by omega⟩⟩
     ·rw[if_neg q9];exact wpS_pure ⟨_,_,_,_,_,rfl,rfl,⟨J,m1,by omega⟩,by omega⟩
   |false=>
    rw[if_neg (by decide)];refine wpS_bind (ax (by omega) ?_);have J:=ee T M'.j (by omega) (T.aWin C (by omega) m2 e)
    by_cases e3:ia'+1+1=a.size
    ·rw[if_pos (by simpa using e3)];exact wpS_pure ⟨rfl,.inl ⟨_,_,rfl,dz C T J e3⟩⟩
    ·rw[if_neg (aI e3)]
     by_cases q9:ac+1≥mg
     ·rw[if_pos q9];exact wpS_pure ⟨rfl,.inr ⟨_,_,_,_,_,rfl,⟨J,by omega,m2⟩,by omega⟩⟩
     ·rw[if_neg q9];exact wpS_pure ⟨_,_,_,_,_,rfl,rfl,⟨J,by omega,m2⟩,by omega⟩
  case post1=>
   rintro c st' ⟨rfl,⟨r,y,rfl,G⟩|⟨out1,ia1,ib1,ac,bc,rfl,M1,hx1⟩⟩
   ·exact wpS_pure ⟨r,_,g,rfl,rfl,G⟩
   ·dsimp only;refine wpS_bind (wpS_lift (wpAny_rule ⟨rfl,?_⟩))
    refine wpS_bind (wpS_mono (wpS_forRange
     (I:=λ_ c st'=> ∃out' ia' ib' mg ac bc g,c=(none,out',ia',ib',mg,ac,bc)/\st'=aT st g/\MI L a b out' ia' ib'/\ia1+ib1<=ia'+ib')
     (Q:=λc st'=> ∃g,st'=aT st g/\((∃r y,c=(some r,y)/\MG L a.toList b.toList r.toList)\/ ∃out' ia' ib' mg ac bc,c=(none,out',ia',ib',mg,ac,bc)/\MI L a b out' ia' ib'/\ia1+ib1<=ia'+ib')) ?step2 ?fin2 ⟨out1,ia1,ib1,_,_,_,_,rfl,rfl,M1,Nat.le_refl _⟩) ?post2)
    case fin2=>
     rintro c st' ⟨out',ia',ib',mg,ac,bc,g,rfl,rfl,M',hx'⟩;exact⟨g,rfl,.inr ⟨_,_,_,_,_,_,rfl,M',hx'⟩⟩
    case post2=>
     rintro c st' ⟨g2,rfl,⟨r,y,rfl,G⟩|⟨out',ia',ib',mg,ac,bc,rfl,M',hx'⟩⟩
     ·exact wpS_pure ⟨r,_,g2,rfl,rfl,G⟩
     ·dsimp only;refine wpS_bind (wpS_modify ?_);exact wpS_pure ⟨_,_,_,_,_,rfl,rfl,M',by omega⟩
    case step2=>
     rintro x' c st' _ hx' ⟨out',ia',ib',mg',ac',bc',g',rfl,rfl,M',hx3⟩;have m1:=M'.ha;have m2:=M'.hb;dsimp only
     by_cases q1:mg'>1
     ·rw[if_pos q1];refine wpS_bind (wpS_modify ?_);refine wpS_bind (ax m2 ?_);refine wpS_bind (rG C T hk (by omega) m2 λk k1 k2 k3=>?_);dsimp only
      by_cases q2:k>0
      ·rw[if_pos q2];have J1:=qE T M'.j (k:=k) λi hi h2=>T.aWin C (by omega) m2 (k2 i hi)
       by_cases e5:ia'+k+1=a.size
       ·rw[if_pos (by simpa using e5)];exact wpS_pure ⟨_,rfl,.inl ⟨_,_,rfl,dz C T J1 e5⟩⟩
       rw[if_neg (aI e5),if_neg (aI (show¬ia'+k=a.size by omega))];refine wpS_bind (ax m2 ?_);have J2:=gI T J1 m2 (T.bWin C (by omega) m2 k3)
       by_cases e6:ib'+1=b.size
       ·rw[if_pos (by simpa using e6)];exact wpS_pure ⟨_,rfl,.inl ⟨_,_,rfl,fh T J2 (.inr (by omega))⟩⟩
       rw[if_neg (aI e6)];refine wpS_bind (ax (by omega) ?_);refine wpS_bind (jH C T hk (by omega) (by omega) λl l1 l2 l3=>?_);dsimp only
       by_cases q3:l>0
       ·rw[if_pos q3];have J3:=jU T J2 (k:=l) λi hi h2=>T.bWin C (by omega) h2 (l2 i hi)
        by_cases e7:ib'+1+l=b.size
        ·rw[if_pos (by simpa using e7)];exact wpS_pure ⟨_,rfl,.inl ⟨_,_,rfl,fh T J3 (.inr (by omega))⟩⟩
        rw[if_neg (aI e7)];refine wpS_bind (ax (by omega) ?_);have J4:=ee T J3 (by omega) (T.aWin C (by omega) (by omega) (l3 (by omega)))
        by_cases e8:ia'+k+1+1=a.size
        ·rw[if_pos (by simpa using e8)];exact wpS_pure ⟨_,rfl,.inl ⟨_,_,rfl,dz C T J4 e8⟩⟩
        rw[if_neg (aI e8)]
        by_cases q4:(decide (k<7)&&decide (l<7))=true
        ·rw[if_pos q4];exact wpS_pure ⟨_,rfl,.inr ⟨_,_,_,_,_,_,rfl,⟨J4,by omega,by omega⟩,by omega⟩⟩
        ·rw[if_neg q4];exact wpS_pure ⟨_,_,_,_,_,_,_,rfl,rfl,⟨J4,by omega,by omega⟩,by omega⟩
       ·rw[if_neg q3];rw[show l=0 by omega,Nat.add_zero] at l3;have J3:=J2;refine wpS_bind (ax (by omega) ?_);have J4:=ee T J3 (by omega) (T.aWin C (by omega) (by omega) (l3 (by omega)))
        by_cases e8:ia'+k+1+1=a.size
        ·rw[if_pos (by simpa using e8)];exact wpS_pure ⟨_,rfl,.inl ⟨_,_,rfl,dz C T J4 e8⟩⟩
        rw[if_neg (aI e8)]
        by_cases q4:(decide (k<7)&&decide (l<7))=true
        ·rw[if_pos q4];exact wpS_pure ⟨_,rfl,.inr ⟨_,_,_,_,_,_,rfl,⟨J4,by omega,by omega⟩,by omega⟩⟩
        ·rw[if_neg q4];exact wpS_pure ⟨_,_,_,_,_,_,_,rfl,rfl,⟨J4,by omega,by omega⟩,by omega⟩
      ·rw[if_neg q2];rw[show k=0 by omega,Nat.add_zero] at k3;have J1:=M'.j;refine wpS_bind (ax m2 ?_);have J2:=gI T J1 m2 (T.bWin C (by omega) m2 k3)
       by_cases e6:ib'+1=b.size
       ·rw[if_pos (by simpa using e6)];exact wpS_pure ⟨_,rfl,.inl ⟨_,_,rfl,fh T J2 (.inr (by omega))⟩⟩
       rw[if_neg (aI e6)];refine wpS_bind (ax (by omega) ?_);refine wpS_bind (jH C T hk (by omega) (by omega) λl l1 l2 l3=>?_);dsimp only
       by_cases q3:l>0
       ·rw[if_pos q3];have J3:=jU T J2 (k:=l) λi hi h2=>T.bWin C (by omega) h2 (l2 i hi)
        by_cases e7:ib'+1+l=b.size
        ·rw[if_pos (by simpa using e7)];exact wpS_pure ⟨_,rfl,.inl ⟨_,_,rfl,fh T J3 (.inr (by omega))⟩⟩
        rw[if_neg (aI e7)];refine wpS_bind (ax (by omega) ?_);have J4:=ee T J3 (by omega) (T.aWin C (by omega) (by omega) (l3 (by omega)))
        by_cases e8:ia'+1+1=a.size
        ·rw[if_pos (by simpa using e8)];exact wpS_pure ⟨_,rfl,.inl ⟨_,_,rfl,dz C T J4 e8⟩⟩
        rw[if_neg (aI e8)]
        by_cases q4:(decide (k<7)&&decide (l<7))=true
        ·rw[if_pos q4];exact wpS_pure ⟨_,rfl,.inr ⟨_,_,_,_,_,_,rfl,⟨J4,by omega,by omega⟩,by omega⟩⟩
        ·rw[if_neg q4];exact wpS_pure ⟨_,_,_,_,_,_,_,rfl,rfl,⟨J4,by omega,by omega⟩,by omega⟩
       ·rw[if_neg q3];rw[show l=0 by omega,Nat.add_zero] at l3;have J3:=J2;refine wpS_bind (ax (by omega) ?_);have J4:=ee T J3 (by omega) (T.aWin C (by omega) (by omega) (l3 (by omega)))
        by_cases e8:ia'+1+1=a.size
        ·rw[if_pos (by simpa using e8)];exact wpS_pure ⟨_,rfl,.inl ⟨_,_,rfl,dz C T J4 e8⟩⟩
        rw[if_neg (aI e8)]
        by_cases q4:(decide (k<7)&&decide (l<7))=true
        ·rw[if_pos q4];exact wpS_pure ⟨_,rfl,.inr ⟨_,_,_,_,_,_,rfl,⟨J4,by omega,by omega⟩,by omega⟩⟩
        ·rw[if_neg q4];exact wpS_pure ⟨_,_,_,_,_,_,_,rfl,rfl,⟨J4,by omega,by omega⟩,by omega⟩
     ·rw[if_neg q1];refine wpS_bind (wpS_modify ?_);refine wpS_bind (ax m2 ?_);refine wpS_bind (rG C T hk (by omega) m2 λk k1 k2 k3=>?_);dsimp only
      by_cases q2:k>0
      ·rw[if_pos q2];have J1:=qE T M'.j (k:=k) λi hi h2=>T.aWin C (by omega) m2 (k2 i hi)
       by_cases e5:ia'+k+1=a.size
       ·rw[if_pos (by simpa using e5)];exact wpS_pure ⟨_,rfl,.inl ⟨_,_,rfl,dz C T J1 e5⟩⟩
       rw[if_neg (aI e5),if_neg (aI (show¬ia'+k=a.size by omega))];refine wpS_bind (ax m2 ?_);have J2:=gI T J1 m2 (T.bWin C (by omega) m2 k3)
       by_cases e6:ib'+1=b.size
       ·rw[if_pos (by simpa using e6)];exact wpS_pure ⟨_,rfl,.inl ⟨_,_,rfl,fh T J2 (.inr (by omega))⟩⟩
       rw[if_neg (aI e6)];refine wpS_bind (ax (by omega) ?_);refine wpS_bind (jH C T hk (by omega) (by omega) λl l1 l2 l3=>?_);dsimp only
       by_cases q3:l>0
       ·rw[if_pos q3];have J3:=jU T J2 (k:=l) λi hi h2=>T.bWin C (by omega) h2 (l2 i hi)
        by_cases e7:ib'+1+l=b.size
        ·rw[if_pos (by simpa using e7)];exact wpS_pure ⟨_,rfl,.inl ⟨_,_,rfl,fh T J3 (.inr (by omega))⟩⟩
        rw[if_neg (aI e7)];refine wpS_bind (ax (by omega) ?_);have J4:=ee T J3 (by omega) (T.aWin C (by omega) (by omega) (l3 (by omega)))
        by_cases e8:ia'+k+1+1=a.size
        ·rw[if_pos (by simpa using e8)];exact wpS_pure ⟨_,rfl,.inl ⟨_,_,rfl,dz C T J4 e8⟩⟩
        rw[if_neg (aI e8)]
        by_cases q4:(decide (k<7)&&decide (l<7))=true
        ·rw[if_pos q4];exact wpS_pure ⟨_,rfl,.inr ⟨_,_,_,_,_,_,rfl,⟨J4,by omega,by omega⟩,by omega⟩⟩
        ·rw[if_neg q4];exact wpS_pure ⟨_,_,_,_,_,_,_,rfl,rfl,⟨J4,by omega,by omega⟩,by omega⟩
       ·rw[if_neg q3];rw[show l=0 by omega,Nat.add_zero] at l3;have J3:=J2;refine wpS_bind (ax (by omega) ?_);have J4:=ee T J3 (by omega) (T.aWin C (by omega) (by omega) (l3 (by omega)))
        by_cases e8:ia'+k+1+1=a.size
        ·rw[if_pos (by simpa using e8)];exact wpS_pure ⟨_,rfl,.inl ⟨_,_,rfl,dz C T J4 e8⟩⟩
        rw[if_neg (aI e8)]
        by_cases q4:(decide (k<7)&&decide (l<7))=true
        ·rw[if_pos q4];exact wpS_pure ⟨_,rfl,.inr ⟨_,_,_,_,_,_,rfl,⟨J4,by omega,by omega⟩,by omega⟩⟩
        ·rw[if_neg q4];exact wpS_pure ⟨_,_,_,_,_,_,_,rfl,rfl,⟨J4,by omega,by omega⟩,by omega⟩
      ·rw[if_neg q2];rw[show k=0 by omega,Nat.add_zero] at k3;have J1:=M'.j;refine wpS_bind (ax m2 ?_);have J2:=gI T J1 m2 (T.bWin C (by omega) m2 k3)
       by_cases e6:ib'+1=b.size
       ·rw[if_pos (by simpa using e6)];exact wpS_pure ⟨_,rfl,.inl ⟨_,_,rfl,fh T J2 (.inr (by omega))⟩⟩
       rw[if_neg (aI e6)];refine wpS_bind (ax (by omega) ?_);refine wpS_bind (jH C T hk (by omega) (by omega) λl l1 l2 l3=>?_);dsimp only
       by_cases q3:l>0
       ·rw[if_pos q3];have J3:=jU T J2 (k:=l) λi hi h2=>T.bWin C (by omega) h2 (l2 i hi)
        by_cases e7:ib'+1+l=b.size
        ·rw[if_pos (by simpa using e7)];exact wpS_pure ⟨_,rfl,.inl ⟨_,_,rfl,fh T J3 (.inr (by omega))⟩⟩
        rw[if_neg (aI e7)];refine wpS_bind (ax (by omega) ?_);have J4:=ee T J3 (by omega) (T.aWin C (by omega) (by omega) (l3 (by omega)))
        by_cases e8:ia'+1+1=a.size
        ·rw[if_pos (by simpa using e8)];exact wpS_pure ⟨_,rfl,.inl ⟨_,_,rfl,dz C T J4 e8⟩⟩
        rw[if_neg (aI e8)]
        by_cases q4:(decide (k<7)&&decide (l<7))=true
        ·rw[if_pos q4];exact wpS_pure ⟨_,rfl,.inr ⟨_,_,_,_,_,_,rfl,⟨J4,by omega,by omega⟩,by omega⟩⟩
        ·rw[if_neg q4];exact wpS_pure ⟨_,_,_,_,_,_,_,rfl,rfl,⟨J4,by omega,by omega⟩,by omega⟩
       ·rw[if_neg q3];rw[show l=0 by omega,Nat.add_zero] at l3;have J3:=J2;refine wpS_bind (ax (by omega) ?_);have J4:=ee T J3 (by omega) (T.aWin C (by omega) (by omega) (l3 (by omega)))
        by_cases e8:ia'+1+1=a.size
        ·rw[if_pos (by simpa using e8)];exact wpS_pure ⟨_,rfl,.inl ⟨_,_,rfl,dz C T J4 e8⟩⟩
        rw[if_neg (aI e8)]
        by_cases q4:(decide (k<7)&&decide (l<7))=true
        ·rw[if_pos q4];exact wpS_pure ⟨_,rfl,.inr ⟨_,_,_,_,_,_,rfl,⟨J4,by omega,by omega⟩,by omega⟩⟩
        ·rw[if_neg q4];exact wpS_pure ⟨_,_,_,_,_,_,_,rfl,rfl,⟨J4,by omega,by omega⟩,by omega⟩
end
section
variable {L:Keyed->Keyed->Bool}{P:Keyed->Prop}
structure MH(L:Keyed->Keyed->Bool)(A B:List Keyed)(R:List Keyed)(na nb:Nat):Prop where
 pm:R.Perm (A.drop na++B.drop nb)
 so:R.Pairwise (leq L)
 up: ∀x∈R,∀y∈A.take na++B.take nb,leq L y x
theorem rm {A:List Keyed}(h:A.Pairwise (leq L))(i k:Nat):((A.drop i).take k).Pairwise (leq L)/\ ∀x∈(A.drop i).take k,∀y∈A.take i,leq L y x:=by
 refine⟨(lK h i k).1,λx hx y hy=>?_⟩;rw[<-List.take_append_drop i A,List.pairwise_append] at h;exact h.2.2 y hy x (List.mem_of_mem_take hx)
theorem g9(A:List Keyed)(i k:Nat):(A.drop i).take k++A.drop (i+k)=A.drop i:=by
 rw[<-List.drop_drop,List.take_append_drop]
theorem MH.takeA {A B R:List Keyed}{na nb k:Nat}(h:MH L A B R (na+k) nb)(hA:A.Pairwise (leq L))(hb: ∀x∈(A.drop na).take k,∀y∈B.take nb,leq L y x):MH L A B ((A.drop na).take k++R) na nb:=by
 have⟨s1,s2⟩:=rm hA na k;refine⟨?_,?_,?_⟩
 ·refine(List.Perm.append_left _ h.pm).trans (List.Perm.of_eq ?_);rw[<-List.append_assoc,g9]
 ·rw[List.pairwise_append];exact⟨s1,h.so,λx hx y hy=>h.up y hy x (List.mem_append_left _ (by rw[fK];exact List.mem_append_right _ hx))⟩
 ·intro x hx y hy;rcases List.mem_append.mp hy with hy|hy
  ·rcases List.mem_append.mp hx with hx|hx
   ·exact s2 x hx y hy
   ·exact h.up x hx y (List.mem_append_left _ (by rw[fK];exact List.mem_append_left _ hy))
  ·rcases List.mem_append.mp hx with hx|hx
   ·exact hb x hx y hy
   ·exact h.up x hx y (List.mem_append_right _ hy)
theorem MH.takeB {A B R:List Keyed}{na nb k:Nat}(h:MH L A B R na (nb+k))(hB:B.Pairwise (leq L))(ha: ∀x∈(B.drop nb).take k,∀y∈A.take na,leq L y x):MH L A B ((B.drop nb).take k++R) na nb:=by
 have⟨s1,s2⟩:=rm hB nb k;refine⟨?_,?_,?_⟩
 ·refine(List.Perm.append_left _ h.pm).trans ?_
  rw[<-List.append_assoc];refine(List.Perm.append_right _ List.perm_append_comm).trans (List.Perm.of_eq ?_);rw[List.append_assoc,g9]
 ·rw[List.pairwise_append];exact⟨s1,h.so,λx hx y hy=>h.up y hy x (List.mem_append_right _ (by rw[fK];exact List.mem_append_right _ hx))⟩
 ·intro x hx y hy;rcases List.mem_append.mp hy with hy|hy
  ·rcases List.mem_append.mp hx with hx|hx
   ·exact ha x hx y hy
   ·exact h.up x hx y (List.mem_append_left _ hy)
  ·rcases List.mem_append.mp hx with hx|hx
   ·exact s2 x hx y hy
   ·exact h.up x hx y (List.mem_append_right _ (by rw[fK];exact List.mem_append_left _ hy))
theorem MH.perm {A B R:List Keyed}{na nb:Nat}(h:MH L A B R na nb):(A.take na++B.take nb++R).Perm (A++B):=by
 have:(A.take na++B.take nb++R).Perm ((A.take na++A.drop na)++(B.take nb++B.drop nb)):=by
  refine(List.Perm.append_left _ h.pm).trans ?_
  rw[List.append_assoc,List.append_assoc];refine List.Perm.append_left _ ?_
  rw[<-List.append_assoc,<-List.append_assoc];exact List.Perm.append_right _ List.perm_append_comm
 rw[List.take_append_drop,List.take_append_drop] at this;exact this
theorem MH.fin {A B R:List Keyed}{na nb:Nat}(h:MH L A B R na nb)(hA:A.Pairwise (leq L))(hB:B.Pairwise (leq L))(hab: ∀x∈A.take na,∀y∈B.take nb,leq L x y):MG L A B (A.take na++B.take nb++R):=by
 refine⟨h.perm,?_⟩;rw[List.pairwise_append,List.pairwise_append];exact⟨⟨List.Pairwise.sublist (List.take_sublist _ _) hA,List.Pairwise.sublist (List.take_sublist _ _) hB,hab⟩,h.so,λx hx y hy=>h.up y hy x hx⟩
theorem MH.fin2 {A B R:List Keyed}{na nb:Nat}(h:MH L A B R na nb)(hA:A.Pairwise (leq L))(hB:B.Pairwise (leq L))(hab: ∀y∈B.take nb,∀x∈A.take na,leq L y x):MG L A B (B.take nb++A.take na++R):=by
 refine⟨(List.Perm.append_right _ List.perm_append_comm).trans h.perm,?_⟩;rw[List.pairwise_append,List.pairwise_append];refine⟨⟨List.Pairwise.sublist (List.take_sublist _ _) hB,List.Pairwise.sublist (List.take_sublist _ _) hA,hab⟩,h.so,λx hx y hy=>h.up y hy x ?_⟩;rcases List.mem_append.mp hx with hx|hx
 ·exact List.mem_append_right _ hx
 ·exact List.mem_append_left _ hx
theorem lJ(a:Array Keyed)(i:Nat):(a.extract 0 i).toList=a.toList.take i:=by rw[dq];simp
theorem iM {a:Array Keyed}{k:Nat}{y:Keyed}(h:y∈a.toList.take k): ∃j,j<k/\j<a.size/\y=a.getD j bz:=by
 have:=iW (a:=a) (i:=0) (k:=k) (by simpa using h);obtain⟨j,h1,h2,h3⟩:=this;rw[Nat.zero_add] at h2 h3;exact⟨j,h1,h2,h3⟩
end
section
variable {prog:Program}{w:World}{A:Around}{E:Value->Shared->Prop}{s:Shared}{κ:SortKind}{P:Keyed->Prop}{L:Keyed->Keyed->Bool}{a b:Array Keyed}
abbrev MR(L:Keyed->Keyed->Bool)(a b out:Array Keyed)(na nb:Nat):Prop:=MH L a.toList b.toList out.toList.reverse na nb
structure MK(L:Keyed->Keyed->Bool)(a b out:Array Keyed)(na nb:Nat):Prop where
 j:MR L a b out na nb
 ha:1<=na
 hb:2<=nb
 la:na<=a.size
 lb:nb<=b.size
theorem dw(T:TwoR P L a b){out:Array Keyed}{na nb:Nat}(h:MR L a b out na nb)(e:na=0\/nb=0):MG L a.toList b.toList (a.extract 0 na++b.extract 0 nb++out.reverse).toList:=by
 rw[Array.toList_append,Array.toList_append,lJ,lJ,Array.toList_reverse];refine h.fin T.sa T.sb λx hx y hy=>?_
 obtain⟨i,h1,h2,_⟩:=iM hx;obtain⟨j,h3,h4,_⟩:=iM hy;omega
theorem dn(C:Cmp prog w A E s κ P L)(T:TwoR P L a b){out:Array Keyed}{na nb:Nat}(h:MR L a b out na nb)(e:nb=1):MG L a.toList b.toList (b.extract 0 nb++a.extract 0 na++out.reverse).toList:=by
 rw[Array.toList_append,Array.toList_append,lJ,lJ,Array.toList_reverse];refine h.fin2 T.sa T.sb λy hy x hx=>?_
 obtain⟨i,h1,h2,rfl⟩:=iM hx;obtain⟨j,h3,h4,rfl⟩:=iM hy;rw[show j=0 by omega];exact C.as _ _ (T.first i h2)
theorem dg(T:TwoR P L a b){out:Array Keyed}{na nb:Nat}(h:MR L a b out (na+1) nb)(hi:na<a.size)(q: ∀j,j<nb->j<b.size->leq L (b.getD j bz) (a.getD na bz)):MR L a b (out.push (a.getD na bz)) na nb:=by
 have:=MH.takeA (k:=1) h T.sa (by
  rw[iF a hi];intro x hx y hy;rw[List.mem_singleton] at hx;subst hx;obtain⟨j,h3,h4,rfl⟩:=iM hy
  exact q j h3 h4)
 rw[iF a hi] at this;show MH L _ _ _ _ _;rw[Array.toList_push,List.reverse_append];exact this
theorem iP(T:TwoR P L a b){out:Array Keyed}{na nb:Nat}(h:MR L a b out na (nb+1))(hi:nb<b.size)(q: ∀j,j<na->j<a.size->leq L (a.getD j bz) (b.getD nb bz)):MR L a b (out.push (b.getD nb bz)) na nb:=by
 have:=MH.takeB (k:=1) h T.sb (by
  rw[iF b hi];intro x hx y hy;rw[List.mem_singleton] at hx;subst hx;obtain⟨j,h3,h4,rfl⟩:=iM hy
  exact q j h3 h4)
 rw[iF b hi] at this;show MH L _ _ _ _ _;rw[Array.toList_push,List.reverse_append];exact this
theorem pS(T:TwoR P L a b){out:Array Keyed}{na na' nb:Nat}(hle:na'<=na)(h:MR L a b out na nb)(q: ∀i,na'<=i->i<na->i<a.size-> ∀j,j<nb->j<b.size->leq L (b.getD j bz) (a.getD i bz)):MR L a b (out++(a.extract na' na).reverse) na' nb:=by
 have h':MH L a.toList b.toList out.toList.reverse (na'+(na-na')) nb:=by rw[show na'+(na-na')=na by omega];exact h
 show MH L _ _ _ _ _;rw[Array.toList_append,Array.toList_reverse,List.reverse_append,List.reverse_reverse,dq];refine MH.takeA h' T.sa λx hx y hy=>?_
 obtain⟨i,h1,h2,rfl⟩:=iW hx;obtain⟨j,h3,h4,rfl⟩:=iM hy;exact q _ (by omega) (by omega) h2 j h3 h4
theorem jZ(T:TwoR P L a b){out:Array Keyed}{na nb nb':Nat}(hle:nb'<=nb)(h:MR L a b out na nb)(q: ∀i,nb'<=i->i<nb->i<b.size-> ∀j,j<na->j<a.size->leq L (a.getD j bz) (b.getD i bz)):MR L a b (out++(b.extract nb' nb).reverse) na nb':=by
 have h':MH L a.toList b.toList out.toList.reverse na (nb'+(nb-nb')):=by rw[show nb'+(nb-nb')=nb by omega];exact h
 show MH L _ _ _ _ _;rw[Array.toList_append,Array.toList_reverse,List.reverse_append,List.reverse_reverse,dq];refine MH.takeB h' T.sb λx hx y hy=>?_
 obtain⟨i,h1,h2,rfl⟩:=iW hx;obtain⟨j,h3,h4,rfl⟩:=iM hy;exact q _ (by omega) (by omega) h2 j h3 h4
theorem TwoR.aTop(C:Cmp prog w A E s κ P L)(T:TwoR P L a b){i j:Nat}(hi:i<a.size)(hj:j<b.size)(h:L (b.getD j bz) (a.getD i bz)=true): ∀k,k<=j->leq L (b.getD k bz) (a.getD i bz):=λk hk=>
 C.tr _ _ _ (T.pb _ (by omega)) (T.pb _ hj) (T.pa _ hi) (T.sb' C hk hj) (C.as _ _ h)
theorem TwoR.bTop(C:Cmp prog w A E s κ P L)(T:TwoR P L a b){i j:Nat}(hi:i<a.size)(hj:j<b.size)(h:L (b.getD j bz) (a.getD i bz)=false): ∀k,k<=i->leq L (a.getD k bz) (b.getD j bz):=λk hk=>
 C.tr _ _ _ (T.pa _ (by omega)) (T.pa _ hi) (T.pb _ hj) (T.sa' C hk hi) h
theorem nA(C:Cmp prog w A E s κ P L)(T:TwoR P L a b){na j:Nat}{st:SortSt}{Q:Option Nat->SortSt->Prop}(hk:kindOf st=κ)(h1:1<=na)(h2:na<=a.size)(hb:j<b.size)
 (h: ∀k,k<=na->(∀i,i<k->L (b.getD j bz) (a.getD i bz)=false)->(∀i,k<=i->i<na->L (b.getD j bz) (a.getD i bz)=true)->Q (some k) st):wpS (model prog w) A E s (du false (b.getD j bz) a 0 na (na-1)) Q st:=by
 refine eS C hk (T.pb _ hb) (by omega) (by omega) (λi hi=>T.pa _ (by omega)) (λi j h1 h2 h3=>T.sa' C h2 (by omega)) λk c=>?_
 refine h k c.leq (λi hi=>?_) λi hi h9=>?_
 ·have:=c.lo i hi;unfold gD at this;rw[if_neg (by decide),Bool.not_eq_true',Nat.zero_add] at this;exact this
 ·have:=c.hi i hi h9;unfold gD at this;rw[if_neg (by decide),Bool.not_eq_false',Nat.zero_add] at this;exact this
theorem iY(C:Cmp prog w A E s κ P L)(T:TwoR P L a b){nb i0:Nat}{st:SortSt}{Q:Option Nat->SortSt->Prop}(hk:kindOf st=κ)(h1:1<=nb)(h2:nb<=b.size)(hi:i0<a.size)
 (h: ∀k,k<=nb->(∀i,i<k->L (b.getD i bz) (a.getD i0 bz)=true)->(∀i,k<=i->i<nb->L (b.getD i bz) (a.getD i0 bz)=false)->Q (some k) st):wpS (model prog w) A E s (du true (a.getD i0 bz) b 0 nb (nb-1)) Q st:=by
 refine eS C hk (T.pa _ hi) (by omega) (by omega) (λi hi=>T.pb _ (by omega)) (λi j h1 h2 h3=>T.sb' C h2 (by omega)) λk c=>?_
 refine h k c.leq (λi hi=>?_) λi hi h9=>?_
 ·have:=c.lo i hi;unfold gD at this;rw[if_pos rfl,Nat.zero_add] at this;exact this
 ·have:=c.hi i hi h9;unfold gD at this;rw[if_pos rfl,Nat.zero_add] at this;exact this
theorem qV(a b:Array Keyed):mq a b=(do
 rule "list.sort.merge-hi"
 let total:=a.size+b.size
 let done (out:Array Keyed) (na nb:Nat):=a.extract 0 na++b.extract 0 nb++out.reverse
 let firstOfB (out:Array Keyed) (na nb:Nat):=b.extract 0 nb++a.extract 0 na++out.reverse
 let mut na:=a.size-1
 let mut nb:=b.size
 let mut out:Array Keyed:= #[<-elem' a na]
 if na==0 then return done out na nb
 if nb==1 then return firstOfB out na nb
 let mut minGallop:=gallopOf (<-get)
 for _ in [0:total] do
  let mut acount:=0
  let mut bcount:=0
  for _ in [0:total] do
   let some aWins <-lt' (<-elem' b (nb-1)) (<-elem' a (na-1))|return done out na nb
   if aWins then
    na:=na-1;out:=out.push (<-elem' a na);acount:=acount+1;bcount:=0
    if na==0 then return done out na nb
    if acount≥minGallop then break
   else
    nb:=nb-1;out:=out.push (<-elem' b nb);bcount:=bcount+1;acount:=0
    if nb==1 then return firstOfB out na nb
    if bcount≥minGallop then break
  rule "list.sort.gallop"
  minGallop:=minGallop+1
  for _ in [0:total] do
   if minGallop>1 then minGallop:=minGallop-1
   modify λs=>aT s minGallop
   let some at_ <-du false (<-elem' b (nb-1)) a 0 na (na-1)|return done out na nb
   let k:=na-at_
   acount:=k
   if k>0 then
    out:=out++(a.extract at_ na).reverse;na:=at_
    if na==0 then return done out na nb
   nb:=nb-1;out:=out.push (<-elem' b nb)
   if nb==1 then return firstOfB out na nb
   let some at_ <-du true (<-elem' a (na-1)) b 0 nb (nb-1)|return done out na nb
   let k:=nb-at_
   bcount:=k
   if k>0 then
    out:=out++(b.extract at_ nb).reverse;nb:=at_
    if nb==1 then return firstOfB out na nb
    if nb==0 then return done out na nb
   na:=na-1;out:=out.push (<-elem' a na)
   if na==0 then return done out na nb
   if acount<7&&bcount<7 then break
  minGallop:=minGallop+1
  modify λs=>aT s minGallop
 unsupported "internal:list.sort.merge-bound"):=rfl
end
section
variable {prog:Program}{w:World}{A:Around}{E:Value->Shared->Prop}{s:Shared}{κ:SortKind}{P:Keyed->Prop}{L:Keyed->Keyed->Bool}{a b:Array Keyed}
theorem eX {α:Type}{c:Prop} [Decidable c]{m1 m2:StateT SortSt Sem α}{Q:α->SortSt->Prop}{st:SortSt}(h1:wpS (model prog w) A E s m1 Q st)(h2:wpS (model prog w) A E s m2 Q st):wpS (model prog w) A E s (if c then m1 else m2) Q st:=by
 by_cases h:c
 ·rw[if_pos h];exact h1
 ·rw[if_neg h];exact h2
theorem qT(C:Cmp prog w A E s κ P L)(T:TwoR P L a b){st:SortSt}{Q:Array Keyed->SortSt->Prop}(hk:kindOf st=κ)
 (h: ∀r g,MG L a.toList b.toList r.toList->Q r (aT st g)):wpS (model prog w) A E s (mq a b) Q st:=by
 rw[qV];dsimp only;have ha:=T.na;have hb:=T.nb;refine wpS_bind (wpS_lift (wpAny_rule ⟨rfl,?_⟩));refine wpS_bind (ax (by omega) ?_);have hst:st=aT st (gallopOf st):=rfl;have J0:MR L a b #[a.getD (a.size-1) bz] (a.size-1) b.size:=by
  have z:MR L a b #[] (a.size-1+1) b.size:=⟨by rw[List.drop_eq_nil_of_le (by simp;omega),List.drop_eq_nil_of_le (by simp)];simp,by simp,by simp⟩
  exact dg T z (by omega) λj _ h2=>C.as _ _ (T.last j h2)
 by_cases e1:a.size-1=0
 ·rw[if_pos (by simpa using e1)];refine wpS_pure ?_
  rw[hst];exact h _ _ (dw T J0 (.inl e1))
 rw[if_neg (aI e1)]
 by_cases e2:b.size=1
 ·rw[if_pos (by simpa using e2)];refine wpS_pure ?_
  rw[hst];exact h _ _ (dn C T J0 e2)
 rw[if_neg (aI e2)];refine wpS_bind (wpS_get ?_)
 refine wpS_bind (wpS_mono (wpS_forRange
  (I:=λx c st'=> ∃out na nb mg g,c=(none,na,nb,out,mg)/\st'=aT st g/\MK L a b out na nb/\na+nb+x+1<=a.size+b.size)
  (Q:=λc st'=> ∃r y g,c=(some r,y)/\st'=aT st g/\MG L a.toList b.toList r.toList) ?step ?fin ⟨_,_,_,_,_,rfl,hst,⟨J0,by omega,by omega,by omega,by omega⟩,by omega⟩) ?post)
 case fin=>
  rintro c st' ⟨out,na,nb,mg,g,rfl,rfl,M,hx⟩;have:=M.ha;have:=M.hb;omega
 case post=>
  rintro c st' ⟨r,y,g,rfl,rfl,G⟩;exact wpS_pure (h r g G)
 case step=>
  rintro x c st' _ hx ⟨out,na,nb,mg,g,rfl,rfl,M,hx2⟩
  dsimp only;refine wpS_bind (wpS_mono (wpS_forRange
   (I:=λx' c st'=> ∃out' na' nb' ac bc,c=(none,na',nb',out',ac,bc)/\st'=aT st g/\MK L a b out' na' nb'/\na'+nb'+x'<=na+nb)
   (Q:=λc st'=>st'=aT st g/\((∃r y,c=(some r,y)/\MG L a.toList b.toList r.toList)\/ ∃out' na' nb' ac bc,c=(none,na',nb',out',ac,bc)/\MK L a b out' na' nb'/\na'+nb'+1<=na+nb)) ?step1 ?fin1 ⟨out,na,nb,0,0,rfl,rfl,M,by omega⟩) ?post1)
  case fin1=>
   rintro c st' ⟨out',na',nb',ac,bc,rfl,rfl,M',hx'⟩;exact⟨rfl,.inr ⟨_,_,_,_,_,rfl,M',by omega⟩⟩
  case step1=>
   rintro x' c st' _ hx' ⟨out',na',nb',ac,bc,rfl,rfl,M',hx3⟩;have m1:=M'.ha;have m2:=M'.hb;have m3:=M'.la;have m4:=M'.lb;dsimp only;refine wpS_bind (ax (show nb'-1<b.size by omega) (wpS_bind (ax (show na'-1<a.size by omega) ?_)));refine wpS_bind (C.ask _ _ (T.pb _ (by omega)) (T.pa _ (by omega)) _ _ hk ?_);dsimp only;cases e:L (b.getD (nb'-1) bz) (a.getD (na'-1) bz) with
   |true=>
    rw[if_pos rfl];refine wpS_bind (ax (show na'-1<a.size by omega) ?_);have J:=dg T (na:=na'-1) (show MR L a b _ (na'-1+1) _ by rw[show na'-1+1=na' by omega];exact M'.j) (by omega) λj h1 _=>T.aTop C (by omega) (by omega) e j (by omega)
    by_cases e3:na'-1=0
    ·rw[if_pos (by simpa using e3)];exact wpS_pure ⟨rfl,.inl ⟨_,_,rfl,dw T J (.inl e3)⟩⟩
    ·rw[if_neg (aI e3)]
     by_cases q9:ac+1≥mg
     ·rw[if_pos q9];exact wpS_pure ⟨rfl,.inr ⟨_,_,_,_,_,rfl,⟨J,by omega,by omega,by omega,by omega⟩,by omega⟩⟩
     ·rw[if_neg q9];exact wpS_pure ⟨_,_,_,_,_,rfl,rfl,⟨J,by omega,by omega,by omega,by omega⟩,by omega⟩
   |false=>
    rw[if_neg (by decide)];refine wpS_bind (ax (show nb'-1<b.size by omega) ?_);have J:=iP T (nb:=nb'-1) (show MR L a b _ _ (nb'-1+1) by rw[show nb'-1+1=nb' by omega];exact M'.j) (by omega) λj h1 _=>T.bTop C (show na'-1<a.size by omega) (by omega) e j (by omega)
    by_cases e3:nb'-1=1
    ·rw[if_pos (by simpa using e3)];exact wpS_pure ⟨rfl,.inl ⟨_,_,rfl,dn C T J e3⟩⟩
    ·rw[if_neg (aI e3)]
     by_cases q9:bc+1≥mg
     ·rw[if_pos q9];exact wpS_pure ⟨rfl,.inr ⟨_,_,_,_,_,rfl,⟨J,by omega,by omega,by omega,by omega⟩,by omega⟩⟩
     ·rw[if_neg q9];exact wpS_pure ⟨_,_,_,_,_,rfl,rfl,⟨J,by omega,by omega,by omega,by omega⟩,by omega⟩
  case post1=>
   rintro c st' ⟨rfl,⟨r,y,rfl,G⟩|⟨out1,na1,nb1,ac,bc,rfl,M1,hx1⟩⟩
   ·exact wpS_pure ⟨r,_,g,rfl,rfl,G⟩
   ·dsimp only;refine wpS_bind (wpS_lift (wpAny_rule ⟨rfl,?_⟩))
    refine wpS_bind (wpS_mono (wpS_forRange
     (I:=λ_ c st'=> ∃out' na' nb' mg ac bc g,c=(none,na',nb',out',mg,ac,bc)/\st'=aT st g/\MK L a b out' na' nb'/\na'+nb'<=na1+nb1)
     (Q:=λc st'=> ∃g,st'=aT st g/\((∃r y,c=(some r,y)/\MG L a.toList b.toList r.toList)\/ ∃out' na' nb' mg ac bc,c=(none,na',nb',out',mg,ac,bc)/\MK L a b out' na' nb'/\na'+nb'<=na1+nb1)) ?step2 ?fin2 ⟨out1,na1,nb1,_,_,_,_,rfl,rfl,M1,Nat.le_refl _⟩) ?post2)
    case fin2=>
     rintro c st' ⟨out',na',nb',mg,ac,bc,g,rfl,rfl,M',hx'⟩;exact⟨g,rfl,.inr ⟨_,_,_,_,_,_,rfl,M',hx'⟩⟩
    case post2=>
     rintro c st' ⟨g2,rfl,⟨r,y,rfl,G⟩|⟨out',na',nb',mg,ac,bc,rfl,M',hx'⟩⟩
     ·exact wpS_pure ⟨r,_,g2,rfl,rfl,G⟩
     ·dsimp only;refine wpS_bind (wpS_modify ?_);exact wpS_pure ⟨_,_,_,_,_,rfl,rfl,M',by omega⟩
    case step2=>
     rintro x' c st' _ hx' ⟨out',na',nb',mg',ac',bc',g',rfl,rfl,M',hx3⟩;have m1:=M'.ha;have m2:=M'.hb;have m3:=M'.la;have m4:=M'.lb;dsimp only
     by_cases q1:mg'>1
     ·rw[if_pos q1];refine wpS_bind (wpS_modify ?_);refine wpS_bind (ax (show nb'-1<b.size by omega) ?_);refine wpS_bind (nA C T hk m1 m3 (show nb'-1<b.size by omega) λp p1 p2 p3=>?_);dsimp only
      by_cases q2:na'-p>0
      ·rw[if_pos q2];have J1:=pS T (na':=p) p1 M'.j λi h1 h2 h3 j h4 h5=>T.aTop C h3 (show nb'-1<b.size by omega) (p3 i h1 h2) j (by omega)
       by_cases e5:p=0
       ·rw[if_pos (by simpa using e5)];exact wpS_pure ⟨_,rfl,.inl ⟨_,_,rfl,dw T J1 (.inl e5)⟩⟩
       rw[if_neg (aI e5)];have k2: ∀j,j<p->j<a.size->leq L (a.getD j bz) (b.getD (nb'-1) bz):=λj h1 _=>p2 j h1
       refine wpS_bind (ax (show nb'-1<b.size by omega) ?_);have J2:=iP T (nb:=nb'-1) (show MR L a b _ _ (nb'-1+1) by rw[show nb'-1+1=nb' by omega];exact J1) (by omega) k2
       by_cases e6:nb'-1=1
       ·rw[if_pos (by simpa using e6)];exact wpS_pure ⟨_,rfl,.inl ⟨_,_,rfl,dn C T J2 e6⟩⟩
       rw[if_neg (aI e6)];refine wpS_bind (ax (show p-1<a.size by omega) ?_);refine wpS_bind (iY C T hk (by omega) (by omega) (show p-1<a.size by omega) λl l1 l2 l3=>?_);dsimp only;have l0:1<=l:=by
        apply Nat.lt_of_not_le;intro h9;have:=l3 0 (by omega) (by omega);rw[T.first _ (by omega)] at this;cases this
       replace l2: ∀j,j<l->j<b.size->leq L (b.getD j bz) (a.getD (p-1) bz):=λj h1 _=>C.as _ _ (l2 j h1)
       by_cases q3:nb'-1-l>0
       ·rw[if_pos q3];have J3:=jZ T (nb':=l) (by omega) J2 λi h1 h2 h3 j h4 h5=>T.bTop C (show p-1<a.size by omega) h3 (l3 i h1 h2) j (by omega)
        by_cases e7:l=1
        ·rw[if_pos (by simpa using e7)];exact wpS_pure ⟨_,rfl,.inl ⟨_,_,rfl,dn C T J3 e7⟩⟩
        rw[if_neg (aI e7),if_neg (aI (show¬l=0 by omega))];refine wpS_bind (ax (show p-1<a.size by omega) ?_);have J4:=dg T (na:=p-1) (show MR L a b _ (p-1+1) _ by rw[show p-1+1=p by omega];exact J3) (by omega) (l2)
        by_cases e8:p-1=0
        ·rw[if_pos (by simpa using e8)];exact wpS_pure ⟨_,rfl,.inl ⟨_,_,rfl,dw T J4 (.inl e8)⟩⟩
        rw[if_neg (aI e8)];refine eX ?_ ?_
        ·exact wpS_pure ⟨_,rfl,.inr ⟨_,_,_,_,_,_,rfl,⟨J4,by omega,by omega,by omega,by omega⟩,by omega⟩⟩
        ·exact wpS_pure ⟨_,_,_,_,_,_,_,rfl,rfl,⟨J4,by omega,by omega,by omega,by omega⟩,by omega⟩
       ·rw[if_neg q3];have hl:l=nb'-1:=by omega
        subst hl;have J3:=J2;refine wpS_bind (ax (show p-1<a.size by omega) ?_);have J4:=dg T (na:=p-1) (show MR L a b _ (p-1+1) _ by rw[show p-1+1=p by omega];exact J3) (by omega) (l2)
        by_cases e8:p-1=0
        ·rw[if_pos (by simpa using e8)];exact wpS_pure ⟨_,rfl,.inl ⟨_,_,rfl,dw T J4 (.inl e8)⟩⟩
        rw[if_neg (aI e8)];refine eX ?_ ?_
        ·exact wpS_pure ⟨_,rfl,.inr ⟨_,_,_,_,_,_,rfl,⟨J4,by omega,by omega,by omega,by omega⟩,by omega⟩⟩
        ·exact wpS_pure ⟨_,_,_,_,_,_,_,rfl,rfl,⟨J4,by omega,by omega,by omega,by omega⟩,by omega⟩
      ·rw[if_neg q2];have hp:p=na':=by omega
       subst hp;have J1:=M'.j;have k2: ∀j,j<p->j<a.size->leq L (a.getD j bz) (b.getD (nb'-1) bz):=λj h1 _=>p2 j h1
       refine wpS_bind (ax (show nb'-1<b.size by omega) ?_);have J2:=iP T (nb:=nb'-1) (show MR L a b _ _ (nb'-1+1) by rw[show nb'-1+1=nb' by omega];exact J1) (by omega) k2
       by_cases e6:nb'-1=1
       ·rw[if_pos (by simpa using e6)];exact wpS_pure ⟨_,rfl,.inl ⟨_,_,rfl,dn C T J2 e6⟩⟩
       rw[if_neg (aI e6)];refine wpS_bind (ax (show p-1<a.size by omega) ?_);refine wpS_bind (iY C T hk (by omega) (by omega) (show p-1<a.size by omega) λl l1 l2 l3=>?_);dsimp only;have l0:1<=l:=by
        apply Nat.lt_of_not_le;intro h9;have:=l3 0 (by omega) (by omega);rw[T.first _ (by omega)] at this;cases this
       replace l2: ∀j,j<l->j<b.size->leq L (b.getD j bz) (a.getD (p-1) bz):=λj h1 _=>C.as _ _ (l2 j h1)
       by_cases q3:nb'-1-l>0
       ·rw[if_pos q3];have J3:=jZ T (nb':=l) (by omega) J2 λi h1 h2 h3 j h4 h5=>T.bTop C (show p-1<a.size by omega) h3 (l3 i h1 h2) j (by omega)
        by_cases e7:l=1
        ·rw[if_pos (by simpa using e7)];exact wpS_pure ⟨_,rfl,.inl ⟨_,_,rfl,dn C T J3 e7⟩⟩
        rw[if_neg (aI e7),if_neg (aI (show¬l=0 by omega))];refine wpS_bind (ax (show p-1<a.size by omega) ?_);have J4:=dg T (na:=p-1) (show MR L a b _ (p-1+1) _ by rw[show p-1+1=p by omega];exact J3) (by omega) (l2)
        by_cases e8:p-1=0
        ·rw[if_pos (by simpa using e8)];exact wpS_pure ⟨_,rfl,.inl ⟨_,_,rfl,dw T J4 (.inl e8)⟩⟩
        rw[if_neg (aI e8)];refine eX ?_ ?_
        ·exact wpS_pure ⟨_,rfl,.inr ⟨_,_,_,_,_,_,rfl,⟨J4,by omega,by omega,by omega,by omega⟩,by omega⟩⟩
        ·exact wpS_pure ⟨_,_,_,_,_,_,_,rfl,rfl,⟨J4,by omega,by omega,by omega,by omega⟩,by omega⟩
       ·rw[if_neg q3];have hl:l=nb'-1:=by omega
        subst hl;have J3:=J2;refine wpS_bind (ax (show p-1<a.size by omega) ?_);have J4:=dg T (na:=p-1) (show MR L a b _ (p-1+1) _ by rw[show p-1+1=p by omega];exact J3) (by omega) (l2)
        by_cases e8:p-1=0
        ·rw[if_pos (by simpa using e8)];exact wpS_pure ⟨_,rfl,.inl ⟨_,_,rfl,dw T J4 (.inl e8)⟩⟩
        rw[if_neg (aI e8)];refine eX ?_ ?_
        ·exact wpS_pure ⟨_,rfl,.inr ⟨_,_,_,_,_,_,rfl,⟨J4,by omega,by omega,by omega,by omega⟩,by omega⟩⟩
        ·exact wpS_pure ⟨_,_,_,_,_,_,_,rfl,rfl,⟨J4,by omega,by omega,by omega,by omega⟩,by omega⟩
     ·rw[if_neg q1];refine wpS_bind (wpS_modify ?_);refine wpS_bind (ax (show nb'-1<b.size by omega) ?_);refine wpS_bind (nA C T hk m1 m3 (show nb'-1<b.size by omega) λp p1 p2 p3=>?_);dsimp only
      by_cases q2:na'-p>0
      ·rw[if_pos q2];have J1:=pS T (na':=p) p1 M'.j λi h1 h2 h3 j h4 h5=>T.aTop C h3 (show nb'-1<b.size by omega) (p3 i h1 h2) j (by omega)
       by_cases e5:p=0
       ·rw[if_pos (by simpa using e5)];exact wpS_pure ⟨_,rfl,.inl ⟨_,_,rfl,dw T J1 (.inl e5)⟩⟩
       rw[if_neg (aI e5)];have k2: ∀j,j<p->j<a.size->leq L (a.getD j bz) (b.getD (nb'-1) bz):=λj h1 _=>p2 j h1
       refine wpS_bind (ax (show nb'-1<b.size by omega) ?_);have J2:=iP T (nb:=nb'-1) (show MR L a b _ _ (nb'-1+1) by rw[show nb'-1+1=nb' by omega];exact J1) (by omega) k2
       by_cases e6:nb'-1=1
       ·rw[if_pos (by simpa using e6)];exact wpS_pure ⟨_,rfl,.inl ⟨_,_,rfl,dn C T J2 e6⟩⟩
       rw[if_neg (aI e6)];refine wpS_bind (ax (show p-1<a.size by omega) ?_);refine wpS_bind (iY C T hk (by omega) (by omega) (show p-1<a.size by omega) λl l1 l2 l3=>?_);dsimp only;have l0:1<=l:=by
        apply Nat.lt_of_not_le;intro h9;have:=l3 0 (by omega) (by omega);rw[T.first _ (by omega)] at this;cases this
       replace l2: ∀j,j<l->j<b.size->leq L (b.getD j bz) (a.getD (p-1) bz):=λj h1 _=>C.as _ _ (l2 j h1)
       by_cases q3:nb'-1-l>0
       ·rw[if_pos q3];have J3:=jZ T (nb':=l) (by omega) J2 λi h1 h2 h3 j h4 h5=>T.bTop C (show p-1<a.size by omega) h3 (l3 i h1 h2) j (by omega)
        by_cases e7:l=1
        ·rw[if_pos (by simpa using e7)];exact wpS_pure ⟨_,rfl,.inl ⟨_,_,rfl,dn C T J3 e7⟩⟩
        rw[if_neg (aI e7),if_neg (aI (show¬l=0 by omega))];refine wpS_bind (ax (show p-1<a.size by omega) ?_);have J4:=dg T (na:=p-1) (show MR L a b _ (p-1+1) _ by rw[show p-1+1=p by omega];exact J3) (by omega) (l2)
        by_cases e8:p-1=0
        ·rw[if_pos (by simpa using e8)];exact wpS_pure ⟨_,rfl,.inl ⟨_,_,rfl,dw T J4 (.inl e8)⟩⟩
        rw[if_neg (aI e8)];refine eX ?_ ?_
        ·exact wpS_pure ⟨_,rfl,.inr ⟨_,_,_,_,_,_,rfl,⟨J4,by omega,by omega,by omega,by omega⟩,by omega⟩⟩
        ·exact wpS_pure ⟨_,_,_,_,_,_,_,rfl,rfl,⟨J4,by omega,by omega,by omega,by omega⟩,by omega⟩
       ·rw[if_neg q3];have hl:l=nb'-1:=by omega
        subst hl;have J3:=J2;refine wpS_bind (ax (show p-1<a.size by omega) ?_);have J4:=dg T (na:=p-1) (show MR L a b _ (p-1+1) _ by rw[show p-1+1=p by omega];exact J3) (by omega) (l2)
        by_cases e8:p-1=0
        ·rw[if_pos (by simpa using e8)];exact wpS_pure ⟨_,rfl,.inl ⟨_,_,rfl,dw T J4 (.inl e8)⟩⟩
        rw[if_neg (aI e8)];refine eX ?_ ?_
        ·exact wpS_pure ⟨_,rfl,.inr ⟨_,_,_,_,_,_,rfl,⟨J4,by omega,by omega,by omega,by omega⟩,by omega⟩⟩
        ·exact wpS_pure ⟨_,_,_,_,_,_,_,rfl,rfl,⟨J4,by omega,by omega,by omega,by omega⟩,by omega⟩
      ·rw[if_neg q2];have hp:p=na':=by omega
       subst hp;have J1:=M'.j;have k2: ∀j,j<p->j<a.size->leq L (a.getD j bz) (b.getD (nb'-1) bz):=λj h1 _=>p2 j h1
       refine wpS_bind (ax (show nb'-1<b.size by omega) ?_);have J2:=iP T (nb:=nb'-1) (show MR L a b _ _ (nb'-1+1) by rw[show nb'-1+1=nb' by omega];exact J1) (by omega) k2
       by_cases e6:nb'-1=1
       ·rw[if_pos (by simpa using e6)];exact wpS_pure ⟨_,rfl,.inl ⟨_,_,rfl,dn C T J2 e6⟩⟩
       rw[if_neg (aI e6)];refine wpS_bind (ax (show p-1<a.size by omega) ?_);refine wpS_bind (iY C T hk (by omega) (by omega) (show p-1<a.size by omega) λl l1 l2 l3=>?_);dsimp only;have l0:1<=l:=by
        apply Nat.lt_of_not_le;intro h9;have:=l3 0 (by omega) (by omega);rw[T.first _ (by omega)] at this;cases this
       replace l2: ∀j,j<l->j<b.size->leq L (b.getD j bz) (a.getD (p-1) bz):=λj h1 _=>C.as _ _ (l2 j h1)
       by_cases q3:nb'-1-l>0
       ·rw[if_pos q3];have J3:=jZ T (nb':=l) (by omega) J2 λi h1 h2 h3 j h4 h5=>T.bTop C (show p-1<a.size by omega) h3 (l3 i h1 h2) j (by omega)
        by_cases e7:l=1
        ·rw[if_pos (by simpa using e7)];exact wpS_pure ⟨_,rfl,.inl ⟨_,_,rfl,dn C T J3 e7⟩⟩
        rw[if_neg (aI e7),if_neg (aI (show¬l=0 by omega))];refine wpS_bind (ax (show p-1<a.size by omega) ?_);have J4:=dg T (na:=p-1) (show MR L a b _ (p-1+1) _ by rw[show p-1+1=p by omega];exact J3) (by omega) (l2)
        by_cases e8:p-1=0
        ·rw[if_pos (by simpa using e8)];exact wpS_pure ⟨_,rfl,.inl ⟨_,_,rfl,dw T J4 (.inl e8)⟩⟩
        rw[if_neg (aI e8)];refine eX ?_ ?_
        ·exact wpS_pure ⟨_,rfl,.inr ⟨_,_,_,_,_,_,rfl,⟨J4,by omega,by omega,by omega,by omega⟩,by omega⟩⟩
        ·exact wpS_pure ⟨_,_,_,_,_,_,_,rfl,rfl,⟨J4,by omega,by omega,by omega,by omega⟩,by omega⟩
       ·rw[if_neg q3];have hl:l=nb'-1:=by omega
        subst hl;have J3:=J2;refine wpS_bind (ax (show p-1<a.size by omega) ?_);have J4:=dg T (na:=p-1) (show MR L a b _ (p-1+1) _ by rw[show p-1+1=p by omega];exact J3) (by omega) (l2)
        by_cases e8:p-1=0
        ·rw[if_pos (by simpa using e8)];exact wpS_pure ⟨_,rfl,.inl ⟨_,_,rfl,dw T J4 (.inl e8)⟩⟩
        rw[if_neg (aI e8)];refine eX ?_ ?_
        ·exact wpS_pure ⟨_,rfl,.inr ⟨_,_,_,_,_,_,rfl,⟨J4,by omega,by omega,by omega,by omega⟩,by omega⟩⟩
        ·exact wpS_pure ⟨_,_,_,_,_,_,_,rfl,rfl,⟨J4,by omega,by omega,by omega,by omega⟩,by omega⟩
end
abbrev SS(κ:SortKind)(arr:Array Keyed)(pend:Array (Nat×Nat×Nat))(g:Nat):SortSt:=SortSt.mk' κ arr pend g none
abbrev gk(arr:Array Keyed)(i:Nat):Keyed:=arr.getD i bz
section
variable {prog:Program}{w:World}{A:Around}{E:Value->Shared->Prop}{s:Shared}{κ:SortKind}{P:Keyed->Prop}{L:Keyed->Keyed->Bool}{arr arr':Array Keyed}{pend:Array (Nat×Nat×Nat)}{g:Nat}
def AlP(P:Keyed->Prop)(arr:Array Keyed):Prop:= ∀x∈arr.toList,P x
def DsL(L:Keyed->Keyed->Bool)(arr:Array Keyed):Prop:=arr.toList.Pairwise λx y=>L x y=true\/L y x=true
theorem AlP.gt(h:AlP P arr){i:Nat}(hi:i<arr.size):P (gk arr i):=h _ (by simp[gk,Array.getD,hi])
theorem AlP.perm(h:AlP P arr)(p:arr'.Perm arr):AlP P arr':=λx hx=>h x (p.toList.mem_iff.mp hx)
theorem DsL.perm(h:DsL L arr)(p:arr'.Perm arr):DsL L arr':=(p.toList.pairwise_iff (λhxy=>hxy.symm)).mpr h
theorem DsL.gt(h:DsL L arr){i j:Nat}(hi:i<arr.size)(hj:j<arr.size)(ne:i≠j):L (gk arr i) (gk arr j)=true\/L (gk arr j) (gk arr i)=true:=by
 have key: ∀i j,i<arr.size->j<arr.size->i<j->L (gk arr i) (gk arr j)=true\/L (gk arr j) (gk arr i)=true:=λi j hi hj hij=>by
  have:=List.pairwise_iff_getElem.mp h i j (by simpa using hi) (by simpa using hj) hij;simpa [gk,Array.getD,hi,hj] using this
 rcases Nat.lt_or_gt_of_ne ne with h1|h1
 ·exact key i j hi hj h1
 ·exact(key j i hj hi h1).symm
structure ChgK(lo hi:Nat)(arr arr':Array Keyed):Prop where
 perm:arr'.Perm arr
 same: ∀i,i<lo\/hi<=i->gk arr' i=gk arr i
theorem ChgK.refl(lo hi:Nat)(arr:Array Keyed):ChgK lo hi arr arr:=⟨.refl _,λ_ _=>rfl⟩
theorem ChgK.size {lo hi:Nat}(c:ChgK lo hi arr arr'):arr'.size=arr.size:=c.perm.size_eq
theorem ChgK.trans {lo hi:Nat}{arr2:Array Keyed}(c:ChgK lo hi arr arr')(d:ChgK lo hi arr' arr2):ChgK lo hi arr arr2:=⟨d.perm.trans c.perm,λi h=>(d.same i h).trans (c.same i h)⟩
theorem ChgK.mono {lo hi lo' hi':Nat}(c:ChgK lo hi arr arr')(h1:lo'<=lo)(h2:hi<=hi'):ChgK lo' hi' arr arr':=⟨c.perm,λi h=>c.same i (by omega)⟩
theorem fL(C:Cmp prog w A E s κ P L)(hP:AlP P arr){i j:Nat}{Q:Option Bool->SortSt->Prop}(hi:i<arr.size)(hj:j<arr.size)(h:Q (some (L (gk arr i) (gk arr j))) (SS κ arr pend g)):wpS (model prog w) A E s (ltAt' i j) Q (SS κ arr pend g):=by
 rw[ltAt'_eq];refine wpS_bind (wpS_get ?_);exact wpS_bind (ax hi (wpS_bind (ax hj (C.ask _ _ (hP.gt hi) (hP.gt hj) _ _ rfl h))))
theorem wj(C:Cmp prog w A E s κ P L)(hP:AlP P arr){lo n:Nat}(hn:1<=n)(hz:lo+n<arr.size)(h:iB L arr lo (lo+n))(e:L (gk arr (lo+n)) (gk arr (lo+n-1))=false):iB L arr lo (lo+(n+1)):=λi j h1 h2 h3=>by
 by_cases h4:j<lo+n
 ·exact h i j h1 h2 h4
 ·have:j=lo+n:=by omega
  subst this
  by_cases h5:i=lo+n
  ·subst h5;exact C.rf _
  ·exact C.tr _ _ _ (hP.gt (by omega)) (hP.gt (by omega)) (hP.gt hz) (h i (lo+n-1) h1 (by omega) (by omega)) e
theorem yJ(C:Cmp prog w A E s κ P L)(lo:Nat):iB L arr lo (lo+1):=λi j h1 h2 h3=>by
 have:i=j:=by omega
 subst this;exact C.rf _
theorem j8 {i j:Nat}(hj:j<=arr.size)(k:Nat):gk (mirror arr i j ((j-i) / 2)) k=if i<=k/\k<j then gk arr (i+j-1-k) else gk arr k:=by
 have:=getElem?_mirror_all (i:=i) hj k;unfold gk;rw[Array.getD_eq_getD_getElem?,this];split
 ·rw[Array.getD_eq_getD_getElem?]
 ·rw[Array.getD_eq_getD_getElem?]
theorem sF {lo hi i j:Nat}(h1:lo<=i)(h2:j<=hi)(hj:j<=arr.size):ChgK lo hi arr (mirror arr i j ((j-i) / 2)):=⟨mirror_perm _ _ _ _,λk hk=>by rw[j8 hj,if_neg (by omega)]⟩
theorem vR(C:Cmp prog w A E s κ P L)(hP:AlP P arr)(hD:DsL L arr){lo nrem:Nat}(hz:lo+nrem<=arr.size)(h1:1<=nrem){Q:Option Nat->SortSt->Prop}
 (h: ∀n arr',1<=n->n<=nrem->ChgK lo (lo+nrem) arr arr'->iB L arr' lo (lo+n)->Q (some n) (SS κ arr' pend g)):wpS (model prog w) A E s (countRun' lo nrem) Q (SS κ arr pend g):=by
 rw[countRun'_eq];have asc: ∀(ar:Array Keyed) (n0:Nat),AlP P ar->lo+nrem<=ar.size->1<=n0->n0<=nrem->iB L ar lo (lo+n0)-> ∀(f:Nat->Option (Option Nat)×Nat->StateT SortSt Sem (ForInStep (Option (Option Nat)×Nat))),
  (∀x n (R:ForInStep (Option (Option Nat)×Nat)->SortSt->Prop),1<=n->n<nrem->(L (gk ar (lo+n)) (gk ar (lo+n-1))=true->R (.done (none,n)) (SS κ ar pend g))->(L (gk ar (lo+n)) (gk ar (lo+n-1))=false->R (.yield (none,n+1)) (SS κ ar pend g))->wpS (model prog w) A E s (f x (none,n)) R (SS κ ar pend g))->
  ∀(R':Option (Option Nat)×Nat->SortSt->Prop),(∀n,n0<=n->n<=nrem->iB L ar lo (lo+n)->(n<nrem->L (gk ar (lo+n)) (gk ar (lo+n-1))=true)->R' (none,n) (SS κ ar pend g))->wpS (model prog w) A E s (forIn [n0:nrem] ((none,n0):Option (Option Nat)×Nat) f) R' (SS κ ar pend g):=λar n0 pA zA a1 a2 sA f hf R' hR=>by
  refine wpS_mono (wpS_forRange (I:=λx c st'=>c=(none,x)/\st'=SS κ ar pend g/\x<=nrem/\iB L ar lo (lo+x))
   (Q:=λc st'=>st'=SS κ ar pend g/\ ∃n,c=(none,n)/\n0<=n/\n<=nrem/\iB L ar lo (lo+n)/\(n<nrem->L (gk ar (lo+n)) (gk ar (lo+n-1))=true)) ?_ ?_ ⟨rfl,rfl,a2,sA⟩) ?_
  ·rintro x c st' hx0 hx ⟨rfl,rfl,b1,b2⟩;refine hf x x _ (by omega) hx (λe=>⟨rfl,x,rfl,hx0,b1,b2,λ_=>e⟩) λe=>⟨rfl,rfl,by omega,wj C pA (by omega) (by omega) b2 e⟩
  ·rintro c st' ⟨rfl,rfl,b1,b2⟩;rw[show max n0 nrem=nrem by omega] at*;exact⟨rfl,_,rfl,a2,Nat.le_refl _,b2,λz=>absurd z (Nat.lt_irrefl _)⟩
  ·rintro c st' ⟨rfl,n,rfl,b1,b2,b3,b4⟩;exact hR n b1 b2 b3 b4
 refine wpS_bind (asc arr 1 hP hz (by omega) h1 (yJ C lo) _ (λx n R n1 n2 r1 r2=>?_) _ λn n1 n2 sn nx=>?_)
 ·dsimp only;refine wpS_bind (fL C hP (by omega) (by omega) ?_);cases e:L (gk arr (lo+n)) (gk arr (lo+n-1)) with
  |true=>exact wpS_pure (r1 e)
  |false=>exact wpS_pure (r2 e)
 dsimp only
 by_cases e1:n=nrem
 ·rw[if_pos (by simpa using e1)];exact wpS_pure (h n arr n1 n2 (.refl _ _ _) sn)
 rw[if_neg (aI e1)]
 by_cases e2:n>1
 ·rw[if_pos e2];refine wpS_bind (fL C hP (by omega) (by omega) ?_);have rise:L (gk arr lo) (gk arr (lo+n-1))=true:=by
   rcases hD.gt (i:=lo) (j:=lo+n-1) (by omega) (by omega) (by omega) with q|q
   ·exact q
   ·rw[sn lo (lo+n-1) (Nat.le_refl _) (by omega) (by omega)] at q;cases q
  rw[rise];exact wpS_pure (h n arr n1 n2 (.refl _ _ _) sn)
 rw[if_neg e2];have hn:n=1:=by omega
 subst hn;refine wpS_bind (wpS_lift (wpAny_rule ⟨rfl,?_⟩))
 refine wpS_bind (wpS_mono (wpS_forRange (I:=λx c st'=>c=(none,x,0)/\st'=SS κ arr pend g/\2<=x/\x<=nrem/\ ∀i j,lo<=i->i<=j->j<lo+x->L (gk arr i) (gk arr j)=false)
  (Q:=λc st'=>st'=SS κ arr pend g/\ ∃n,c=(none,n,0)/\2<=n/\n<=nrem/\ ∀i j,lo<=i->i<=j->j<lo+n->L (gk arr i) (gk arr j)=false) ?_ ?_ ⟨rfl,rfl,by omega,by omega,λi j i1 i2 i3=>?_⟩) ?_)
 ·rintro x c st' hx0 hx ⟨rfl,rfl,b1,b2,b3⟩;dsimp only;refine wpS_bind (fL C hP (by omega) (by omega) ?_);dsimp only;cases e:L (gk arr (lo+x)) (gk arr (lo+x-1)) with
  |true=>
   rw[if_pos rfl,if_neg (by omega)];refine wpS_pure ⟨rfl,rfl,by omega,by omega,λi j i1 i2 i3=>?_⟩
   by_cases h4:j<lo+x
   ·exact b3 i j i1 i2 h4
   ·have:j=lo+x:=by omega
    subst this
    by_cases h5:i=lo+x
    ·subst h5;exact C.rf _
    ·exact C.tr _ _ _ (hP.gt (by omega)) (hP.gt (by omega)) (hP.gt (by omega)) (C.as _ _ e) (b3 i (lo+x-1) i1 (by omega) (by omega))
  |false=>
   rw[if_neg (by decide)];refine wpS_bind (fL C hP (by omega) (by omega) ?_);have lar:L (gk arr (lo+x-1)) (gk arr (lo+x))=true:=by
    rcases hD.gt (i:=lo+x-1) (j:=lo+x) (by omega) (by omega) (by omega) with q|q
    ·exact q
    ·rw[e] at q;cases q
   rw[lar];exact wpS_pure ⟨rfl,x,rfl,b1,b2,b3⟩
 ·rintro c st' ⟨rfl,rfl,b1,b2,b3⟩;exact⟨rfl,_,rfl,b1,b2,b3⟩
 ·by_cases h5:i=j
  ·subst h5;exact C.rf _
  ·have:i=lo:=by omega
   have hj:j=lo+1:=by omega
   subst this;subst hj;exact C.as _ _ (nx (by omega))
 ·rintro c st' ⟨rfl,n,rfl,b1,b2,b3⟩;dsimp only;rw[if_neg (by omega)];refine wpS_bind (wpS_reverse ?_);have hz2:lo+n<=arr.size:=by omega
  have cm:ChgK lo (lo+nrem) arr (mirror arr lo (lo+n) ((lo+n-lo) / 2)):=sF (Nat.le_refl _) (by omega) hz2;have sm:iB L (mirror arr lo (lo+n) ((lo+n-lo) / 2)) lo (lo+n):=λi j i1 i2 i3=>by
   have g1:=j8 (i:=lo) hz2 i;have g2:=j8 (i:=lo) hz2 j;rw[if_pos ⟨i1,by omega⟩] at g1;rw[if_pos ⟨by omega,i3⟩] at g2;show L (gk _ j) (gk _ i)=false;rw[g1,g2];exact b3 _ _ (by omega) (by omega) (by omega)
  show wpS (model prog w) A E s _ Q (SS κ (mirror arr lo (lo+n) ((lo+n-lo) / 2)) pend g);refine wpS_bind (asc _ n (hP.perm cm.perm) (by rw[cm.size];omega) (by omega) b2 sm _ (λx n R n1 n2 r1 r2=>?_) _ λn' n1 n2 sn' nx'=>wpS_pure (h n' _ (by omega) n2 cm sn'));dsimp only;refine wpS_bind (fL C (hP.perm cm.perm) (by rw[cm.size];omega) (by rw[cm.size];omega) ?_);cases e:L (gk (mirror arr lo (lo+_) ((lo+_-lo) / 2)) (lo+n)) (gk (mirror arr lo (lo+_) ((lo+_-lo) / 2)) (lo+n-1)) with
  |true=>exact wpS_pure (r1 e)
  |false=>exact wpS_pure (r2 e)
end
section
variable {prog:Program}{w:World}{A:Around}{E:Value->Shared->Prop}{s:Shared}{κ:SortKind}{P:Keyed->Prop}{L:Keyed->Keyed->Bool}{arr arr':Array Keyed}{pend:Array (Nat×Nat×Nat)}{g:Nat}
theorem vV {src d:Nat}(hs:src<arr.size)(hd:d<=src)(k:Nat):gk (bubble arr src d) k=if k=src-d then gk arr src else if src-d<k/\k<=src then gk arr (k-1) else gk arr k:=by
 have:=getElem?_bubble hs d hd k;simp only[gk,Array.getD_eq_getD_getElem?,this]
 by_cases h1:k=src-d
 ·rw[if_pos h1,if_pos h1]
 ·rw[if_neg h1,if_neg h1]
  by_cases h2:src-d<k/\k<=src
  ·rw[if_pos h2,if_pos h2]
  ·rw[if_neg h2,if_neg h2]
theorem Ai(C:Cmp prog w A E s κ P L)(hP:AlP P arr){lo n ok:Nat}(hz:lo+n<=arr.size)(h1:1<=ok)(h2:ok<=n)(hS:iB L arr lo (lo+ok)){Q:Bool->SortSt->Prop}
 (h: ∀arr',ChgK lo (lo+n) arr arr'->iB L arr' lo (lo+n)->Q true (SS κ arr' pend g)):wpS (model prog w) A E s (binarySort' lo n ok) Q (SS κ arr pend g):=by
 rw[binarySort'_eq];refine wpS_bind (wpS_mono (wpS_forRange (I:=λk c st'=> ∃ar,c=(none,())/\st'=SS κ ar pend g/\ChgK lo (lo+n) arr ar/\k<=n/\1<=k/\iB L ar lo (lo+k))
  (Q:=λc st'=> ∃ar,c=(none,())/\st'=SS κ ar pend g/\ChgK lo (lo+n) arr ar/\iB L ar lo (lo+n)) ?step ?fin ⟨arr,rfl,rfl,.refl _ _ _,by omega,by omega,by rw[show max ok 1=ok by omega];exact hS⟩) ?post)
 case post=>
  rintro c st' ⟨ar,rfl,rfl,ch,sg⟩;exact wpS_pure (h ar ch sg)
 case fin=>
  rintro c st' ⟨ar,rfl,rfl,ch,k1,k2,sg⟩;rw[show max (max ok 1) n=n by omega] at sg;exact⟨ar,rfl,rfl,ch,sg⟩
 case step=>
  rintro k c st' _ hk ⟨ar,rfl,rfl,ch,k1,k2,sg⟩;have pA:=hP.perm ch.perm;have za:=ch.size;have mono: ∀i j,i<=j->j<k->L (gk ar (lo+k)) (gk ar (lo+j))=false->L (gk ar (lo+k)) (gk ar (lo+i))=false:=λi j hij hj e=>
   C.tr _ _ _ (pA.gt (by omega)) (pA.gt (by omega)) (pA.gt (by omega)) (sg (lo+i) (lo+j) (by omega) (by omega) (by omega)) e
  refine wpS_bind (wpS_mono (wpS_forRange (I:=λx c st'=>st'=SS κ ar pend g/\ ∃l r,c=(none,l,r)/\l<=r/\r<=k/\r-l<=k-x/\(∀i,i<l->L (gk ar (lo+k)) (gk ar (lo+i))=false)/\(∀i,r<=i->i<k->L (gk ar (lo+k)) (gk ar (lo+i))=true))
   (Q:=λc st'=>st'=SS κ ar pend g/\ ∃l,c=(none,l,l)/\l<=k/\(∀i,i<l->L (gk ar (lo+k)) (gk ar (lo+i))=false)/\(∀i,l<=i->i<k->L (gk ar (lo+k)) (gk ar (lo+i))=true)) ?_ ?_ ⟨rfl,0,k,rfl,by omega,by omega,by omega,λi hi=>absurd hi (Nat.not_lt_zero _),λi h1 h2=>absurd h2 (by omega)⟩) ?_)
  ·rintro x c st' _ hx ⟨rfl,l,r,rfl,a1,a2,a3,a4,a5⟩;dsimp only
   by_cases hc:l≥r
   ·rw[if_pos hc];have:l=r:=by omega
    subst this;exact wpS_pure ⟨rfl,l,rfl,a2,a4,a5⟩
   ·rw[if_neg hc];refine wpS_bind (fL C pA (by omega) (by omega) ?_);dsimp only;cases e:L (gk ar (lo+k)) (gk ar (lo+(l+r) / 2)) with
    |true=>
     rw[if_pos rfl];refine wpS_pure ⟨rfl,_,_,rfl,by omega,by omega,by omega,a4,λi i1 i2=>?_⟩;cases q:L (gk ar (lo+k)) (gk ar (lo+i)) with
     |true=>rfl
     |false=>have:=mono _ i i1 i2 q;rw[e] at this;cases this
    |false=>
     rw[if_neg (by decide)];exact wpS_pure ⟨rfl,_,_,rfl,by omega,by omega,by omega,λi hi=>mono i _ (show i<=(l+r) / 2 by omega) (by omega) e,a5⟩
  ·rintro c st' ⟨rfl,l,r,rfl,a1,a2,a3,a4,a5⟩;have:l=r:=by omega
   subst this;exact⟨rfl,l,rfl,a2,a4,a5⟩
  ·rintro c st' ⟨rfl,l,rfl,a1,a2,a3⟩;dsimp only;rw[moveDown'_eq];have hb: ∀q,gk (bubble ar (lo+k) (lo+k- (lo+l))) q=if q=lo+l then gk ar (lo+k) else if lo+l<q/\q<=lo+k then gk ar (q-1) else gk ar q:=λq=>by
    have:=vV (arr:=ar) (src:=lo+k) (d:=lo+k- (lo+l)) (by omega) (by omega) q;rw[show lo+k- (lo+k- (lo+l))=lo+l by omega] at this;exact this
   refine wpS_bind (wpS_modify (wpS_pure ⟨bubble ar (lo+k) (lo+k- (lo+l)),rfl,rfl,ch.trans ⟨bubble_perm _ _ _,λi hi=>?_⟩,by omega,by omega,λi j i1 i2 i3=>?_⟩))
   ·rw[hb,if_neg (by omega),if_neg (by omega)]
   ·show L (gk _ j) (gk _ i)=false;rw[hb,hb];have low: ∀q,lo<=q->q<lo+l->leq L (gk ar q) (gk ar (lo+k)):=λq q1 q2=>by
     have:=a2 (q-lo) (by omega);rw[show lo+(q-lo)=q by omega] at this;exact this
    have high: ∀q,lo+l<=q->q<lo+k->leq L (gk ar (lo+k)) (gk ar q):=λq q1 q2=>by
     have:=a3 (q-lo) (by omega) (by omega);rw[show lo+(q-lo)=q by omega] at this;exact C.as _ _ this
    have mid: ∀p q,lo<=p->p<=q->q<lo+k->leq L (gk ar p) (gk ar q):=λp q q1 q2 q3=>sg p q q1 q2 q3
    by_cases c1:j=lo+l
    ·rw[if_pos c1]
     by_cases c2:i=lo+l
     ·rw[if_pos c2];exact C.rf _
     ·rw[if_neg c2,if_neg (by omega)];exact low i i1 (by omega)
    ·rw[if_neg c1]
     by_cases c3:lo+l<j/\j<=lo+k
     ·rw[if_pos c3]
      by_cases c2:i=lo+l
      ·rw[if_pos c2];exact high (j-1) (by omega) (by omega)
      ·rw[if_neg c2]
       by_cases c4:lo+l<i/\i<=lo+k
       ·rw[if_pos c4];exact mid _ _ (by omega) (by omega) (by omega)
       ·rw[if_neg c4];exact mid _ _ (by omega) (by omega) (by omega)
     ·rw[if_neg c3,if_neg (by omega),if_neg (by omega)];exact mid _ _ i1 i2 (by omega)
theorem re(i:Nat):mergeAt' i=(do
 let s <-get
 let(some (sa,na,power),some (sb,nb,_)):=((pendingOf s)[i]?,(pendingOf s)[i+1]?)|unsupported "internal:list.sort.pending"
 set (setPending s (((pendingOf s).setIfInBounds i (sa,na+nb,power)).eraseIdxIfInBounds (i+1)))
 let some k <-du false (<-elem' (arrOf s) sb) (arrOf s) sa na 0 |return false
 let(sa,na):=(sa+k,na-k)
 if na==0 then return true
 let some nb <-du true (<-elem' (arrOf s) (sa+na-1)) (arrOf s) sb nb (nb-1)|return false
 if nb==0 then return true
 let x:=(arrOf s).extract sa sb
 let y:=(arrOf s).extract sb (sb+nb)
 let merged <-if na<=nb then ml x y else mq x y
 modify λs=>setArr s (merged.toList.zipIdx.foldl (λa (p,j)=>a.setIfInBounds (sa+j) p) (arrOf s))
 return(failedOf (<-get)).isNone):=rfl
end
theorem uH(off:Nat): ∀(l:List Keyed) (j:Nat) (ar:Array Keyed),off+j+l.length<=ar.size->((l.zipIdx j).foldl (λ(a:Array Keyed) (x:Keyed×Nat)=>a.setIfInBounds (off+x.2) x.1) ar).toList=ar.toList.take (off+j)++l++ar.toList.drop (off+j+l.length)
 | [],j,ar,h=>by simp
 |p::l,j,ar,h=>by
  rw[List.length_cons] at h;rw[List.zipIdx_cons,List.foldl_cons,uH off l (j+1) _ (by rw[Array.size_setIfInBounds];omega)];rw[Array.toList_setIfInBounds];have hl:off+j<ar.toList.length:=by rw[Array.length_toList];omega
  rw[List.length_cons,show off+(j+1)=off+j+1 by omega,List.take_succ_eq_append_getElem (by rw[List.length_set];exact hl),List.take_set_of_le (Nat.le_refl _),List.getElem_set_self,List.drop_set_of_lt (by omega),show off+j+1+l.length=off+j+(l.length+1) by omega];simp
section
variable {prog:Program}{w:World}{A:Around}{E:Value->Shared->Prop}{s:Shared}{κ:SortKind}{P:Keyed->Prop}{L:Keyed->Keyed->Bool}{arr arr':Array Keyed}{pend:Array (Nat×Nat×Nat)}{g:Nat}
theorem lx(ar:Array Keyed)(i:Nat):gk ar i=ar.toList.getD i bz:=by
 unfold gk;rw[Array.getD_eq_getD_getElem?,List.getD_eq_getElem?_getD,Array.getElem?_toList]
theorem zC {st st':SortSt}{Q:PUnit->SortSt->Prop}(h:Q ⟨⟩ st'):wpS (model prog w) A E s (set st':StateT SortSt Sem PUnit) Q st:=by
 unfold wpS;rw[StateT.run_set];exact wpAny_pure ⟨rfl,h⟩
theorem iJ {a e i:Nat}(he:e<=arr.size)(hi:a+i<e):gk (arr.extract a e) i=gk arr (a+i):=by
 rw[lx,lx,dq,List.getD_eq_getElem?_getD,List.getD_eq_getElem?_getD,List.getElem?_take_of_lt (by omega),List.getElem?_drop]
theorem mW {a e:Nat}(he:e<=arr.size):(arr.extract a e).size=e-a:=by rw[Array.size_extract];omega
theorem pw_ext {a e:Nat}(he:e<=arr.size)(h:iB L arr a e):(arr.extract a e).toList.Pairwise (leq L):=by
 rw[List.pairwise_iff_getElem];intro i j hi hj hij;have z:=mW (a:=a) he;rw[Array.length_toList,z] at hi hj;have e1:(arr.extract a e).toList[i]'(by rw[Array.length_toList,z];exact hi)=gk arr (a+i):=by
  rw[<-iJ he (by omega)];simp[gk,Array.getD,z,hi]
 have e2:(arr.extract a e).toList[j]'(by rw[Array.length_toList,z];exact hj)=gk arr (a+j):=by
  rw[<-iJ he (by omega)];simp[gk,Array.getD,z,hj]
 rw[e1,e2];exact h (a+i) (a+j) (by omega) (by omega) (by omega)
theorem uI {a e:Nat}{y:Keyed}(he:e<=arr.size)(h:y∈(arr.extract a e).toList): ∃t,a<=t/\t<e/\y=gk arr t:=by
 rw[dq] at h;obtain⟨j,h1,h2,h3⟩:=iW h;exact⟨a+j,by omega,by omega,h3⟩
theorem uZ(C:Cmp prog w A E s κ P L)(hP:AlP P arr){sa sb sc O Z:Nat}{r:Array Keyed}(h1:sa<=O)(h2:O<sb)(h3:sb<Z)(h4:Z<=sc)(hz:sc<=arr.size)(S1:iB L arr sa sb)(S2:iB L arr sb sc)
 (f1: ∀p,sa<=p->p<O->leq L (gk arr p) (gk arr sb)) (f2: ∀q,Z<=q->q<sc->leq L (gk arr (sb-1)) (gk arr q)) (G:MG L (arr.extract O sb).toList (arr.extract sb Z).toList r.toList):
 ChgK sa sc arr (r.toList.zipIdx.foldl (λa (p,j)=>a.setIfInBounds (O+j) p) arr)/\iB L (r.toList.zipIdx.foldl (λa (p,j)=>a.setIfInBounds (O+j) p) arr) sa sc:=by
 have lr:r.toList.length=Z-O:=by
  have:=G.pm.length_eq;rw[List.length_append,Array.length_toList,Array.length_toList,Array.length_toList,mW (by omega),mW (by omega)] at this;rw[Array.length_toList];omega
 have e:=uH O r.toList 0 arr (by rw[lr];omega);rw[Nat.add_zero,lr,show O+(Z-O)=Z by omega] at e;generalize hB:(r.toList.zipIdx.foldl (λa (p,j)=>a.setIfInBounds (O+j) p) arr)=B;have eB:B.toList=arr.toList.take O++r.toList++arr.toList.drop Z:=by rw[<-hB];exact e
 have lO:(arr.toList.take O).length=O:=by rw[List.length_take,Array.length_toList];omega
 have gB: ∀q,gk B q=if q<O then gk arr q else if q<Z then r.toList.getD (q-O) bz else gk arr q:=λq=>by
  rw[lx,eB,lx,List.getD_eq_getElem?_getD,List.getD_eq_getElem?_getD,List.getD_eq_getElem?_getD,List.append_assoc,List.getElem?_append,lO]
  by_cases c1:q<O
  ·rw[if_pos c1,if_pos c1,List.getElem?_take_of_lt c1]
  ·rw[if_neg c1,if_neg c1,List.getElem?_append,lr]
   by_cases c2:q<Z
   ·rw[if_pos (by omega),if_pos c2]
   ·rw[if_neg (by omega),if_neg c2,List.getElem?_drop,show Z+(q-O- (Z-O))=q by omega]
 have pm:B.toList.Perm arr.toList:=by
  rw[eB];have ea:arr.toList=arr.toList.take O++((arr.extract O sb).toList++(arr.extract sb Z).toList)++arr.toList.drop Z:=by
   rw[dq,dq];have a1:=List.take_append_drop O arr.toList;have a2:arr.toList.drop O=(arr.toList.drop O).take (sb-O)++arr.toList.drop sb:=by
    have:=g9 arr.toList O (sb-O);rw[show O+(sb-O)=sb by omega] at this;exact this.symm
   have a3:arr.toList.drop sb=(arr.toList.drop sb).take (Z-sb)++arr.toList.drop Z:=by
    have:=g9 arr.toList sb (Z-sb);rw[show sb+(Z-sb)=Z by omega] at this;exact this.symm
   rw[List.append_assoc,List.append_assoc,<-a3,<-a2,a1]
  refine List.Perm.trans ?_ (List.Perm.of_eq ea.symm)
  exact List.Perm.append_right _ (List.Perm.append_left _ G.pm)
 have inr: ∀t,t<Z-O-> ∃u,r.toList.getD t bz=gk arr u/\O<=u/\u<Z:=λt ht=>by
  have hm:r.toList.getD t bz∈r.toList:=by
   rw[List.getD_eq_getElem?_getD,List.getElem?_eq_getElem (by rw[lr];exact ht)];exact List.getElem_mem _
  rcases List.mem_append.mp (G.pm.mem_iff.mp hm) with q|q
  ·obtain⟨u,u1,u2,u3⟩:=uI (by omega) q;exact⟨u,u3,u1,by omega⟩
  ·obtain⟨u,u1,u2,u3⟩:=uI (by omega) q;exact⟨u,u3,by omega,u2⟩
 have top: ∀p t,sa<=p->p<O->O<=t->t<sc->leq L (gk arr p) (gk arr t):=λp t p1 p2 t1 t2=>by
  by_cases c:t<sb
  ·exact S1 p t p1 (by omega) c
  ·exact C.tr _ _ _ (hP.gt (by omega)) (hP.gt (by omega)) (hP.gt (by omega)) (f1 p p1 p2) (S2 sb t (Nat.le_refl _) (by omega) t2)
 have bot: ∀t q,O<=t->t<Z->Z<=q->q<sc->leq L (gk arr t) (gk arr q):=λt q t1 t2 q1 q2=>by
  by_cases c:t<sb
  ·exact C.tr _ _ _ (hP.gt (by omega)) (hP.gt (by omega)) (hP.gt (by omega)) (S1 t (sb-1) (by omega) (by omega) (by omega)) (f2 q q1 q2)
  ·exact S2 t q (by omega) (by omega) q2
 refine⟨⟨Array.perm_iff_toList_perm.mpr pm,λi hi=>?_⟩,λp q p1 p2 p3=>?_⟩
 ·rw[gB]
  by_cases c1:i<O
  ·rw[if_pos c1]
  ·rw[if_neg c1,if_neg (by omega)]
 ·show L (gk B q) (gk B p)=false;rw[gB,gB]
  by_cases c1:q<O
  ·rw[if_pos c1,if_pos (by omega)];exact S1 p q p1 p2 (by omega)
  ·rw[if_neg c1]
   by_cases c2:q<Z
   ·rw[if_pos c2]
    by_cases c3:p<O
    ·rw[if_pos c3];obtain⟨u,u1,u2,u3⟩:=inr (q-O) (by omega);rw[u1];exact top p u p1 c3 u2 (by omega)
    ·rw[if_neg c3,if_pos (by omega)]
     by_cases c4:p=q
     ·subst c4;exact C.rf _
     ·have:=List.pairwise_iff_getElem.mp G.so (p-O) (q-O) (by rw[lr];omega) (by rw[lr];omega) (by omega);rw[List.getD_eq_getElem?_getD,List.getD_eq_getElem?_getD,List.getElem?_eq_getElem (by rw[lr];omega),List.getElem?_eq_getElem (by rw[lr];omega)];exact this
   ·rw[if_neg c2]
    by_cases c3:p<O
    ·rw[if_pos c3];exact top p q p1 c3 (by omega) p3
    ·rw[if_neg c3]
     by_cases c4:p<Z
     ·rw[if_pos c4];obtain⟨u,u1,u2,u3⟩:=inr (p-O) (by omega);rw[u1];exact bot u q u2 u3 (by omega) p3
     ·rw[if_neg c4];exact S2 p q (by omega) p2 p3
theorem qx(C:Cmp prog w A E s κ P L)(hP:AlP P arr){i sa na pw sb nb pw2:Nat}{Q:Bool->SortSt->Prop}(p0:pend[i]? =some (sa,na,pw))(p1:pend[i+1]? =some (sb,nb,pw2))(hsb:sa+na=sb)(hz:sb+nb<=arr.size)(hna:1<=na)(hnb:1<=nb)
 (S1:iB L arr sa sb) (S2:iB L arr sb (sb+nb))
 (h: ∀arr' g',ChgK sa (sb+nb) arr arr'->iB L arr' sa (sb+nb)->Q true (SS κ arr' ((pend.setIfInBounds i (sa,na+nb,pw)).eraseIdxIfInBounds (i+1)) g')):wpS (model prog w) A E s (mergeAt' i) Q (SS κ arr pend g):=by
 rw[re];refine wpS_bind (wpS_get ?_);show wpS _ _ _ _ (match (pend[i]?,pend[i+1]?) with|(some (sa,na,power),some (sb,nb,_))=>_|_=>_) Q _;rw[p0,p1];dsimp only;refine wpS_bind (zC ?_);refine wpS_bind (ax (show sb<arr.size by omega) ?_);refine wpS_bind (eS C rfl (hP.gt (by omega)) (show sa+na<=arr.size by omega) (by omega) (λj hj=>hP.gt (by omega)) (by rw[hsb];exact S1) λk c=>?_);dsimp only;have c1: ∀t,t<k->L (gk arr sb) (gk arr (sa+t))=false:=λt ht=>by
  have:=c.lo t ht;unfold gD at this;rw[if_neg (by decide),Bool.not_eq_true'] at this;exact this
 have c2: ∀t,k<=t->t<na->L (gk arr sb) (gk arr (sa+t))=true:=λt h1 h2=>by
  have:=c.hi t h1 h2;unfold gD at this;rw[if_neg (by decide),Bool.not_eq_false'] at this;exact this
 have hk:=c.leq
 by_cases e1:na-k=0
 ·rw[if_pos (by simpa using e1)];refine wpS_pure (h arr g (.refl _ _ _) λp q a1 a2 a3=>?_)
  by_cases b1:q<sb
  ·exact S1 p q a1 a2 b1
  ·by_cases b2:p<sb
   ·have:=c1 (p-sa) (by omega);rw[show sa+(p-sa)=p by omega] at this;exact C.tr _ _ _ (hP.gt (by omega)) (hP.gt (by omega)) (hP.gt (by omega)) this (S2 sb q (Nat.le_refl _) (by omega) a3)
   ·exact S2 p q (by omega) a2 a3
 rw[if_neg (aI e1)];refine wpS_bind (ax (show sa+k+(na-k) -1<arr.size by omega) ?_);rw[show sa+k+(na-k) -1=sb-1 by omega];refine wpS_bind (eS C rfl (hP.gt (show sb-1<arr.size by omega)) (show sb+nb<=arr.size by omega) (by omega) (λj hj=>hP.gt (by omega)) S2 λm d=>?_);dsimp only;have d1: ∀t,t<m->L (gk arr (sb+t)) (gk arr (sb-1))=true:=λt ht=>by
  have:=d.lo t ht;unfold gD at this;rw[if_pos rfl] at this;exact this
 have d2: ∀t,m<=t->t<nb->L (gk arr (sb+t)) (gk arr (sb-1))=false:=λt h1 h2=>by
  have:=d.hi t h1 h2;unfold gD at this;rw[if_pos rfl] at this;exact this
 have hm:=d.leq;have m0:1<=m:=by
  apply Nat.lt_of_not_le;intro h9;have a:=d2 0 (by omega) (by omega);have b:=c2 (na-1) (by omega) (by omega);rw[show sa+(na-1)=sb-1 by omega] at b;rw[Nat.add_zero,b] at a;cases a
 rw[if_neg (aI (show¬m=0 by omega))];have T:TwoR P L (arr.extract (sa+k) sb) (arr.extract sb (sb+m)):=by
  have zx:=mW (arr:=arr) (a:=sa+k) (e:=sb) (by omega);have zy:=mW (arr:=arr) (a:=sb) (e:=sb+m) (by omega);refine⟨pw_ext (by omega) λp q a1 a2 a3=>S1 p q (by omega) a2 a3,pw_ext (by omega) λp q a1 a2 a3=>S2 p q a1 a2 (by omega),λt ht=>?_,λt ht=>?_,by omega,by omega,λt ht=>?_,λt ht=>?_⟩
  ·rw[zx] at ht;have:=iJ (arr:=arr) (a:=sa+k) (e:=sb) (i:=t) (by omega) (by omega);show P (gk _ t);rw[this];exact hP.gt (by omega)
  ·rw[zy] at ht;have:=iJ (arr:=arr) (a:=sb) (e:=sb+m) (i:=t) (by omega) (by omega);show P (gk _ t);rw[this];exact hP.gt (by omega)
  ·rw[zx] at ht;have e3:=iJ (arr:=arr) (a:=sa+k) (e:=sb) (i:=t) (by omega) (by omega);have e4:=iJ (arr:=arr) (a:=sb) (e:=sb+m) (i:=0) (by omega) (by omega);show L (gk _ 0) (gk _ t)=true;rw[e3,e4,Nat.add_zero,Nat.add_assoc];exact c2 (k+t) (by omega) (by omega)
  ·rw[zy] at ht;have e3:=iJ (arr:=arr) (a:=sa+k) (e:=sb) (i:=(arr.extract (sa+k) sb).size-1) (by omega) (by omega);have e4:=iJ (arr:=arr) (a:=sb) (e:=sb+m) (i:=t) (by omega) (by omega);show L (gk _ t) (gk _ ((arr.extract (sa+k) sb).size-1))=true;rw[e3,e4,show sa+k+((arr.extract (sa+k) sb).size-1)=sb-1 by omega];exact d1 t (by omega)
 have fin: ∀(r:Array Keyed) (g':Nat),MG L (arr.extract (sa+k) sb).toList (arr.extract sb (sb+m)).toList r.toList->Q true (SS κ (r.toList.zipIdx.foldl (λa (p,j)=>a.setIfInBounds (sa+k+j) p) arr) ((pend.setIfInBounds i (sa,na+nb,pw)).eraseIdxIfInBounds (i+1)) g'):=λr g' G=>by
  have⟨x1,x2⟩:=uZ C hP (sa:=sa) (sb:=sb) (sc:=sb+nb) (O:=sa+k) (Z:=sb+m) (by omega) (by omega) (by omega) (by omega) hz S1 S2 (λp a1 a2=>by
   have:=c1 (p-sa) (by omega);rw[show sa+(p-sa)=p by omega] at this
   exact this) (λq a1 a2=>by
   have:=d2 (q-sb) (by omega) (by omega);rw[show sb+(q-sb)=q by omega] at this
   exact this) G
  exact h _ g' x1 x2
 by_cases e5:na-k<=m
 ·rw[if_pos e5];refine wpS_bind (qy C T rfl λr g' G=>?_);refine wpS_bind (wpS_modify ?_);refine wpS_bind (wpS_get ?_);exact wpS_pure (fin r g' G)
 ·rw[if_neg e5];refine wpS_bind (qT C T rfl λr g' G=>?_);refine wpS_bind (wpS_modify ?_);refine wpS_bind (wpS_get ?_);exact wpS_pure (fin r g' G)
end
def Rn(L:Keyed->Keyed->Bool)(arr:Array Keyed):Nat->List (Nat×Nat×Nat)->Nat->Prop
 |a,[],b=>a=b
 |a,p::t,b=>p.1=a/\1<=p.2.1/\iB L arr a (a+p.2.1)/\Rn L arr (a+p.2.1) t b
section
variable {prog:Program}{w:World}{A:Around}{E:Value->Shared->Prop}{s:Shared}{κ:SortKind}{P:Keyed->Prop}{L:Keyed->Keyed->Bool}{arr arr':Array Keyed}{pend:Array (Nat×Nat×Nat)}{g:Nat}
theorem Rn.leq: ∀ {t:List (Nat×Nat×Nat)} {a b:Nat},Rn L arr a t b->a+t.length<=b
 | [],a,b,h=>by have:a=b:=h;simp;omega
 |p::t,a,b,h=>by
  have:=Rn.leq h.2.2.2;have:=h.2.1;rw[List.length_cons];omega
theorem Rn.app: ∀ {t u:List (Nat×Nat×Nat)} {a b:Nat},Rn L arr a (t++u) b-> ∃m,Rn L arr a t m/\Rn L arr m u b
 | [],u,a,b,h=>⟨a,rfl,h⟩
 |p::t,u,a,b,h=>by
  obtain⟨m,h1,h2⟩:=Rn.app (t:=t) (u:=u) h.2.2.2;exact⟨m,⟨h.1,h.2.1,h.2.2.1,h1⟩,h2⟩
theorem Rn.cat: ∀ {t u:List (Nat×Nat×Nat)} {a m b:Nat},Rn L arr a t m->Rn L arr m u b->Rn L arr a (t++u) b
 | [],u,a,m,b,h,h2=>by have:a=m:=h;subst this;exact h2
 |p::t,u,a,m,b,h,h2=>⟨h.1,h.2.1,h.2.2.1,Rn.cat h.2.2.2 h2⟩
theorem lW {lo hi:Nat}(h:iB L arr lo hi)(e: ∀i,lo<=i->i<hi->gk arr' i=gk arr i):iB L arr' lo hi:=λi j h1 h2 h3=>by
 show L (gk arr' j) (gk arr' i)=false;rw[e j (by omega) h3,e i h1 (by omega)];exact h i j h1 h2 h3
theorem Rn.same: ∀ {t:List (Nat×Nat×Nat)} {a b:Nat},Rn L arr a t b->(∀i,a<=i->i<b->gk arr' i=gk arr i)->Rn L arr' a t b
 | [],a,b,h,_=>h
 |p::t,a,b,h,e=>by
  have l:=Rn.leq h.2.2.2;exact⟨h.1,h.2.1,lW h.2.2.1 λi h1 h2=>e i h1 (by omega),Rn.same h.2.2.2 λi h1 h2=>e i (by omega) h2⟩
theorem wb: ∀(l:List (Nat×Nat×Nat)) (i:Nat),i+1<l.length-> ∃p x y q,l=p++x::y::q/\p.length=i
 | [],i,h=>by simp at h
 | [x],i,h=>by simp at h
 |x::y::q,0,_=>⟨[],x,y,q,rfl,rfl⟩
 |x::y::q,i+1,h=>by
  obtain⟨p,u,v,r,e,hl⟩:=wb (y::q) i (by simp at h⊢;omega);exact⟨x::p,u,v,r,by rw[e];rfl,by simp[hl]⟩
theorem hZ(C:Cmp prog w A E s κ P L)(hP:AlP P arr){lo i:Nat}(R:Rn L arr 0 pend.toList lo)(hz:lo<=arr.size)(hi:i+1<pend.size){Q:Bool->SortSt->Prop}
 (h: ∀arr' pend' g',ChgK 0 lo arr arr'->Rn L arr' 0 pend'.toList lo->pend'.size+1=pend.size->Q true (SS κ arr' pend' g')):wpS (model prog w) A E s (mergeAt' i) Q (SS κ arr pend g):=by
 obtain⟨p,⟨sa,na,pw⟩,⟨sb,nb,pw2⟩,q,e,hl⟩:=wb pend.toList i (by simpa using hi);rw[e] at R;obtain⟨m,R1,R2⟩:=Rn.app R;obtain⟨e1,n1,S1,e2,n2,S2,R3⟩:=R2;dsimp only at e1 n1 S1 e2 n2 S2 R3;subst e1;have l1:=R1.leq;have l3:=R3.leq;have g0:pend[i]? =some (sa,na,pw):=by rw[<-Array.getElem?_toList,e,<-hl];simp
 have g1:pend[i+1]? =some (sb,nb,pw2):=by rw[<-Array.getElem?_toList,e,<-hl];simp
 refine qx C hP g0 g1 e2.symm (by omega) n1 n2 (by rw[e2];exact S1) (by rw[e2];exact S2) λarr' g' c sg=>h arr' _ g' (c.mono (Nat.zero_le _) (by omega)) ?_ ?_
 ·have el:((pend.setIfInBounds i (sa,na+nb,pw)).eraseIdxIfInBounds (i+1)).toList=p++(sa,na+nb,pw)::q:=by
   have z:i+1<(pend.setIfInBounds i (sa,na+nb,pw)).size:=by rw[Array.size_setIfInBounds];exact hi
   rw[Array.eraseIdxIfInBounds,dif_pos z,Array.toList_eraseIdx,Array.toList_setIfInBounds,e,<-hl];rw[List.set_append_right _ _ (Nat.le_refl _),Nat.sub_self,List.eraseIdx_append_of_length_le (by omega),show p.length+1-p.length=1 by omega];rfl
  rw[el];refine Rn.cat (R1.same λj h1 h2=>c.same j (.inl h2)) ⟨rfl,by show 1<=na+nb;omega,?_,?_⟩
  ·show iB L arr' sa (sa+(na+nb));rw[show sa+(na+nb)=sb+nb by omega];exact sg
  ·show Rn L arr' (sa+(na+nb)) q lo;rw[show sa+(na+nb)=sa+na+nb by omega];exact R3.same λj h1 h2=>c.same j (.inr (by omega))
 ·have z:i+1<(pend.setIfInBounds i (sa,na+nb,pw)).size:=by rw[Array.size_setIfInBounds];exact hi
  rw[Array.eraseIdxIfInBounds,dif_pos z,Array.size_eraseIdx,Array.size_setIfInBounds];omega
theorem wI {t:List (Nat×Nat×Nat)}{pw:Nat}{b:Nat}(h:Rn L arr 0 t b):Rn L arr 0 (t.modify (t.length-1) λx=>(x.1,x.2.1,pw)) b:=by
 have key: ∀(t:List (Nat×Nat×Nat)) (a k:Nat),Rn L arr a t b->Rn L arr a (t.modify k λx=>(x.1,x.2.1,pw)) b:=by
  intro t
  induction t with
  |nil=>intro a k h;cases k<;>exact h
  |cons p t ih=>
   intro a k h;cases k with
   |zero=>exact h
   |succ k=>exact⟨h.1,h.2.1,h.2.2.1,ih _ k h.2.2.2⟩
 exact key t 0 _ h
theorem Bb {c:Prop} [Decidable c]{a b n:Nat}(h1:a+1<n)(h2:b+1<n):(if c then a else b)+1<n:=by split<;>assumption
theorem rR(C:Cmp prog w A E s κ P L){a₀:Array Keyed}(hP:AlP P a₀)(hD:DsL L a₀)(h2:1<=a₀.size){g:Nat}{Q:Unit->SortSt->Prop}
 (h: ∀st',(arrOf st').Perm a₀->failedOf st'=none->iB L (arrOf st') 0 a₀.size->Q () st'):wpS (model prog w) A E s sortRuns' Q (SS κ a₀ #[] g):=by
 rw[sortRuns'_eq];refine wpS_bind (wpS_get ?_);generalize hsz:(arrOf (SS κ a₀ #[] g)).size=size;obtain rfl:size=a₀.size:=hsz.symm;clear hsz;dsimp only;generalize minRun' a₀.size a₀.size 0=mr
 refine wpS_bind (wpS_mono (wpS_forRange
  (I:=λx c st'=> ∃lo ar pe g,c=(none,lo)/\st'=SS κ ar pe g/\ar.Perm a₀/\Rn L ar 0 pe.toList lo/\x<=lo/\lo<=a₀.size)
  (Q:=λc st'=> ∃ar pe g,c=(none,a₀.size)/\st'=SS κ ar pe g/\ar.Perm a₀/\Rn L ar 0 pe.toList a₀.size) ?step ?fin ⟨0,a₀, #[],g,rfl,rfl,.refl _,rfl,Nat.le_refl _,Nat.zero_le _⟩) ?post)
 case fin=>
  rintro c st' ⟨lo,ar,pe,g,rfl,rfl,pm,R,hx,hl⟩;have:lo=a₀.size:=by omega
  subst this;exact⟨ar,pe,g,rfl,rfl,pm,R⟩
 case post=>
  rintro c st' ⟨ar,pe,g,rfl,rfl,pm,R⟩
  dsimp only;refine wpS_bind (wpS_mono (wpS_forRange
   (I:=λx c st'=> ∃ar pe g,c=(none,())/\st'=SS κ ar pe g/\ar.Perm a₀/\Rn L ar 0 pe.toList a₀.size/\pe.size+x<=a₀.size)
   (Q:=λc st'=> ∃ar pe g,c=(none,())/\st'=SS κ ar pe g/\ar.Perm a₀/\Rn L ar 0 pe.toList a₀.size/\pe.size<=1) ?step2 ?fin2 ⟨ar,pe,g,rfl,rfl,pm,R,by have:=R.leq;simp at this;omega⟩) ?post2)
  case fin2=>
   rintro c st' ⟨ar,pe,g,rfl,rfl,pm,R,hx⟩;exact⟨ar,pe,g,rfl,rfl,pm,R,by omega⟩
  case post2=>
   rintro c st' ⟨ar,pe,g,rfl,rfl,pm,R,hx⟩;refine wpS_pure (h _ pm rfl ?_);show iB L ar 0 a₀.size;have hl:pe.toList.length<=1:=by simpa using hx
   match e:pe.toList,hl with
   | [],_=>rw[e] at R;have:0=a₀.size:=R;omega
   | [p],_=>
     rw[e] at R;obtain⟨r1,r2,r3,r4⟩:=R;have:0+p.2.1=a₀.size:=r4;rw[this] at r3;exact r3
  case step2=>
   rintro x c st' _ hx ⟨ar,pe,g,rfl,rfl,pm,R,hp⟩;refine wpS_bind (wpS_get ?_)
   by_cases e1:pe.size<=1
   ·rw[if_pos e1];exact wpS_pure ⟨ar,pe,g,rfl,rfl,pm,R,e1⟩
   ·rw[if_neg e1];refine wpS_bind (hZ C (hP.perm pm) R (by rw[pm.size_eq];exact Nat.le_refl _) (Bb (show pe.size-2-1+1<pe.size by omega) (show pe.size-2+1<pe.size by omega)) λar' pe' g' ch R' z=>?_);exact wpS_pure ⟨ar',pe',g',rfl,rfl,ch.perm.trans pm,R',by omega⟩
 case step=>
  rintro x c st' _ hx ⟨lo,ar,pe,g,rfl,rfl,pm,R,hx2,hlo⟩;dsimp only
  by_cases e1:lo≥a₀.size
  ·rw[if_pos e1];have:lo=a₀.size:=by omega
   subst this;exact wpS_pure ⟨ar,pe,g,rfl,rfl,pm,R⟩
  rw[if_neg e1];have za:=pm.size_eq;refine wpS_bind (vR C (hP.perm pm) (hD.perm pm) (lo:=lo) (nrem:=a₀.size-lo) (by omega) (by omega) λn ar1 n1 n2 ch1 sg1=>?_);dsimp only;have pm1:=ch1.perm.trans pm;have R1:Rn L ar1 0 pe.toList lo:=R.same λi h1 h2=>ch1.same i (.inl h2)
  by_cases e2:n<mr
  ·rw[if_pos e2];refine wpS_bind (wpS_lift (wpAny_rule ⟨rfl,?_⟩));refine wpS_bind (Ai C (hP.perm pm1) (lo:=lo) (n:=min (a₀.size-lo) mr) (ok:=n) (by rw[pm1.size_eq];omega) n1 (by omega) sg1 λar2 ch2 sg2=>?_);rw[if_neg (by decide)];have pm2:=ch2.perm.trans pm1;have R2:Rn L ar2 0 pe.toList lo:=R1.same λi h1 h2=>ch2.same i (.inl h2)
   have hN:1<=min (a₀.size-lo) mr:=by omega
   refine wpS_bind (wpS_get ?_);rw[show(pendingOf (SS κ ar2 pe g)).back?=pe.back? from rfl];cases pe.back? with
   |none=>
    dsimp only;refine wpS_bind (wpS_modify ?_);exact wpS_pure ⟨lo+min (a₀.size-lo) mr,ar2,pe.push (lo,min (a₀.size-lo) mr,0),g,rfl,rfl,pm2,by rw[Array.toList_push];exact R2.cat ⟨rfl,hN,sg2,rfl⟩,by omega,by omega⟩
   |some bk=>
    obtain⟨s1,m1,b2⟩:=bk
    dsimp only;refine wpS_bind (wpS_mono (wpS_forRange (I:=λ_ c st'=> ∃ar pe g,c=(none,())/\st'=SS κ ar pe g/\ar.Perm a₀/\Rn L ar 0 pe.toList lo/\iB L ar lo (lo+min (a₀.size-lo) mr))
     (Q:=λc st'=> ∃ar pe g,c=(none,())/\st'=SS κ ar pe g/\ar.Perm a₀/\Rn L ar 0 pe.toList lo/\iB L ar lo (lo+min (a₀.size-lo) mr)) ?_ (λ_ _ z=>z) ⟨_,_,_,rfl,rfl,pm2,R2,sg2⟩) ?_)
    ·rintro y c st' _ _ ⟨ar3,pe3,g3,rfl,rfl,pm3,R3,sg3⟩;refine wpS_bind (wpS_get ?_)
     by_cases q1:pe3.size>1
     ·rw[if_pos (show(pendingOf (SS κ ar3 pe3 g3)).size>1 from q1)];rw[show(pendingOf (SS κ ar3 pe3 g3))[(pendingOf (SS κ ar3 pe3 g3)).size-2]? =pe3[pe3.size-2]? from rfl];cases pe3[pe3.size-2]? with
      |none=>exact wpS_pure ⟨_,_,_,rfl,rfl,pm3,R3,sg3⟩
      |some o=>
       obtain⟨o1,o2,o3⟩:=o;dsimp only;refine eX (wpS_pure ⟨_,_,_,rfl,rfl,pm3,R3,sg3⟩) ?_
       refine wpS_bind (hZ C (hP.perm pm3) R3 (by rw[pm3.size_eq];omega) (show pe3.size-2+1<pe3.size by omega) λar4 pe4 g4 ch4 R4 _=>?_);exact wpS_pure ⟨ar4,pe4,g4,rfl,rfl,ch4.perm.trans pm3,R4,lW sg3 λi h1 h2=>ch4.same i (.inr h1)⟩
     ·rw[if_neg (show¬(pendingOf (SS κ ar3 pe3 g3)).size>1 from q1)];exact wpS_pure ⟨_,_,_,rfl,rfl,pm3,R3,sg3⟩
    ·rintro c st' ⟨ar3,pe3,g3,rfl,rfl,pm3,R3,sg3⟩;dsimp only;refine wpS_bind (wpS_modify (wpS_bind (wpS_modify ?_)));refine wpS_pure ⟨lo+min (a₀.size-lo) mr,ar3,(pe3.modify (pe3.size-1) λx=>(x.fst,x.2.fst,power' a₀.size (2*s1+m1) (2*s1+m1+m1+min (a₀.size-lo) mr) a₀.size)).push (lo,min (a₀.size-lo) mr,0),g3,rfl,rfl,pm3,?_,by omega,by omega⟩;rw[Array.toList_push,Array.toList_modify];exact Rn.cat (by have:=wI (pw:=power' a₀.size (2*s1+m1) (2*s1+m1+m1+min (a₀.size-lo) mr) a₀.size) R3;simpa using this) ⟨rfl,hN,sg3,rfl⟩
  ·rw[if_neg e2];have pm2:=pm1;have R2:=R1;have sg2:=sg1;have hN:=n1;refine wpS_bind (wpS_get ?_);rw[show(pendingOf (SS κ ar1 pe g)).back?=pe.back? from rfl];cases pe.back? with
   |none=>
    dsimp only;refine wpS_bind (wpS_modify ?_);exact wpS_pure ⟨lo+n,ar1,pe.push (lo,n,0),g,rfl,rfl,pm2,by rw[Array.toList_push];exact R2.cat ⟨rfl,hN,sg2,rfl⟩,by omega,by omega⟩
   |some bk=>
    obtain⟨s1,m1,b2⟩:=bk
    dsimp only;refine wpS_bind (wpS_mono (wpS_forRange (I:=λ_ c st'=> ∃ar pe g,c=(none,())/\st'=SS κ ar pe g/\ar.Perm a₀/\Rn L ar 0 pe.toList lo/\iB L ar lo (lo+n))
     (Q:=λc st'=> ∃ar pe g,c=(none,())/\st'=SS κ ar pe g/\ar.Perm a₀/\Rn L ar 0 pe.toList lo/\iB L ar lo (lo+n)) ?_ (λ_ _ z=>z) ⟨_,_,_,rfl,rfl,pm2,R2,sg2⟩) ?_)
    ·rintro y c st' _ _ ⟨ar3,pe3,g3,rfl,rfl,pm3,R3,sg3⟩;refine wpS_bind (wpS_get ?_)
     by_cases q1:pe3.size>1
     ·rw[if_pos (show(pendingOf (SS κ ar3 pe3 g3)).size>1 from q1)];rw[show(pendingOf (SS κ ar3 pe3 g3))[(pendingOf (SS κ ar3 pe3 g3)).size-2]? =pe3[pe3.size-2]? from rfl];cases pe3[pe3.size-2]? with
      |none=>exact wpS_pure ⟨_,_,_,rfl,rfl,pm3,R3,sg3⟩
      |some o=>
       obtain⟨o1,o2,o3⟩:=o;dsimp only;refine eX (wpS_pure ⟨_,_,_,rfl,rfl,pm3,R3,sg3⟩) ?_
       refine wpS_bind (hZ C (hP.perm pm3) R3 (by rw[pm3.size_eq];omega) (show pe3.size-2+1<pe3.size by omega) λar4 pe4 g4 ch4 R4 _=>?_);exact wpS_pure ⟨ar4,pe4,g4,rfl,rfl,ch4.perm.trans pm3,R4,lW sg3 λi h1 h2=>ch4.same i (.inr h1)⟩
     ·rw[if_neg (show¬(pendingOf (SS κ ar3 pe3 g3)).size>1 from q1)];exact wpS_pure ⟨_,_,_,rfl,rfl,pm3,R3,sg3⟩
    ·rintro c st' ⟨ar3,pe3,g3,rfl,rfl,pm3,R3,sg3⟩;dsimp only;refine wpS_bind (wpS_modify (wpS_bind (wpS_modify ?_)));refine wpS_pure ⟨lo+n,ar3,(pe3.modify (pe3.size-1) λx=>(x.fst,x.2.fst,power' a₀.size (2*s1+m1) (2*s1+m1+m1+n) a₀.size)).push (lo,n,0),g3,rfl,rfl,pm3,?_,by omega,by omega⟩;rw[Array.toList_push,Array.toList_modify];exact Rn.cat (by have:=wI (pw:=power' a₀.size (2*s1+m1) (2*s1+m1+m1+n) a₀.size) R3;simpa using this) ⟨rfl,hN,sg3,rfl⟩
end
set_option maxHeartbeats 1000000
open PySem PySem.W PySem.Calls PyProof.Rows
section
variable {prog:Program}{w:World}{A:Around}{E:Value->Shared->Prop}{s:Shared}{κ:SortKind}{P:Keyed->Prop}{L:Keyed->Keyed->Bool}
theorem Cmp.of(lt: ∀x y,P x->P y-> ∀Q:Bool->Shared->Prop,Q (L x y) s->wpAny (model prog w) A (keyLt' κ x.1 y.1) Q (λ_ _=>False) s)(tr: ∀x y z,P x->P y->P z->L y x=false->L z y=false->L z x=false)(as: ∀x y,L x y=true->L y x=false):Cmp prog w A E s κ P L:=by
 refine⟨λx y hx hy st Q hk h=>?_,tr,as⟩;rw[lt'_eq];refine wpS_bind (wpS_get ?_);rw[hk];refine wpS_bind (wpS_lift (wpAny_attempt (wpAny_mono (lt x y hx hy (λb s'=>s'=s/\b=L x y) ⟨rfl,rfl⟩) (λb s' hb=>?_) λ_ _ z=>z.elim)));obtain⟨rfl,rfl⟩:=hb;exact⟨rfl,wpS_pure h⟩
theorem wS {a:Addr}{us:List Value}{n:Nat}{P:PySem.Fin->Shared->Prop}(ho:s.heap.get? a=some (seqObj "list" us.toArray n))(hz:us.length<=100000)
 (few:us.length<2->P (.done (.ret .none)) {s with heap:=sortedHeap s.heap a us us.toArray})
 (many:2<=us.length-> ∀g:Heap,(∀c o,c≠a->s.heap.get? c=some o->g.get? c=some o)->wpAny (model prog w) A (keyKind' us.toArray) (λκ t=>t={s with heap:=g}/\
   ∃Pk L,Cmp prog w A E {s with heap:=g} κ Pk L/\AlP Pk (us.toArray.zip us.toArray)/\DsL L (us.toArray.zip us.toArray)/\ ∀ar:Array Keyed,ar.Perm (us.toArray.zip us.toArray)->iB L ar 0 us.length->P (.done (.ret .none)) {s with heap:=sortedHeap s.heap a us (ar.map (·.2))}) (λ_ _=>False) {s with heap:=g}):
 wpAny (model prog w) A (Builtin.«list.sort» ⟨[.ref a],[]⟩) P E s:=by
 have la:a<s.heap.objs.size:=Heap.lt_size ho;have z1:us.toArray.size<=sizeLine:=by rw[List.size_toArray,sizeLine_eq];omega
 obtain⟨c1,h1⟩: ∃c,(s.heap.update a (Obj.mapSeq λ_=> #[])).get? a=some (seqObj "list" #[] c):=⟨_,get?_update_seq ho (λ_=> #[])⟩
 have h2:(((s.heap.update a (Obj.mapSeq λ_=> #[])).push (seqObj "tuple" us.toArray 0)).push (seqObj "list" #[] 0)).get? a=some (seqObj "list" #[] c1):=Heap.get?_push_of_some _ (Heap.get?_push_of_some _ h1);have kp: ∀c o,c≠a->s.heap.get? c=some o->(((s.heap.update a (Obj.mapSeq λ_=> #[])).push (seqObj "tuple" us.toArray 0)).push (seqObj "list" #[] 0)).get? c=some o:=λc o nc e=>
  Heap.get?_push_of_some _ (Heap.get?_push_of_some _ (by rw[Heap.get?_update_ne _ _ _ _ nc];exact e))
 rw[list_sort_plain];refine wpAny_bind (listItems_at ho rfl (wpAny_bind (listUpdate_at ho rfl ?_ z1 (Nat.zero_le _))));refine wpAny_bind (seqEpoch_at h1 rfl (wpAny_bind (wpAny_newTuple ?_ (show us.length<=_ by rw[sizeLine_eq];omega))));refine wpAny_bind (wpAny_newList (wpAny_holding ?_) (Nat.zero_le _));show wpAny (model prog w) A _ P E {s with heap:=((s.heap.update a (Obj.mapSeq λ_=> #[])).push (seqObj "tuple" us.toArray 0)).push (seqObj "list" #[] 0)};dsimp only
 by_cases hs:us.toArray.size<2
 ·rw[if_pos hs,if_pos hs];refine wpAny_bind (wpAny_pure ?_);rw[StateT.run_pure];refine wpAny_bind (wpAny_pure ?_);dsimp only;have ea:Array.map (λx=>x.2) (us.toArray.zip us.toArray)=us.toArray:=by
   apply Array.toList_inj.mp;simp[List.map_snd_zip]
  refine wpAny_bind (seqEpoch_at h2 rfl (wpAny_bind (listUpdate_at h2 rfl ?_ (Nat.zero_le _) ?_)))
  ·simp only[bne_self_eq_false,Bool.false_eq_true,if_false];refine wpAny_pure ?_
   have:=few (by simpa using hs);show P _ {s with heap:=sortedHeap s.heap a us (Array.map (λx=>x.2) (us.toArray.zip us.toArray))};rw[ea];exact this
  ·show(Array.map (λx=>x.2) (us.toArray.zip us.toArray)).size<=_;rw[ea];exact Nat.le_succ_of_le z1
 ·rw[if_neg hs,if_neg hs];have h2':2<=us.length:=by simpa using hs
  have zp:(us.toArray.zip us.toArray).size=us.length:=by simp
  refine wpAny_bind (wpAny_mono (many h2' _ kp) (λκ t ht=>?_) λ_ _ x=>x.elim);obtain⟨et,Pk,L,C,hP,hD,fin⟩:=ht;subst et;refine wpAny_bind (wpAny_mono (rR C hP hD (by rw[zp];omega) (g:=7) (Q:=λ_ st=>failedOf st=none/\(arrOf st).Perm (us.toArray.zip us.toArray)/\iB L (arrOf st) 0 us.length) λst' a1 a2 a3=>⟨a2,a1,by rw[zp] at a3;exact a3⟩) (λr t' hr=>?_) λ_ _ x=>x);obtain⟨u,st⟩:=r;obtain⟨e1,hf,pm,sg⟩:=hr;subst e1;dsimp only at hf pm sg⊢;rw[hf];have zz:((arrOf st).map (·.2)).size<=sizeLine:=by rw[Array.size_map,pm.size_eq,zp,sizeLine_eq];omega
  refine wpAny_bind (seqEpoch_at h2 rfl (wpAny_bind (listUpdate_at h2 rfl ?_ (Nat.zero_le _) (Nat.le_succ_of_le zz))));simp only[bne_self_eq_false,Bool.false_eq_true,if_false];exact wpAny_pure (fin _ pm sg)
end
def rT(x:Keyed):Int:=match x.1 with
 | .int k _=>k
 |_=>0
section
variable {prog:Program}{w:World}{A:Around}{E:Value->Shared->Prop}{s:Shared}
theorem o5 {d:Addr}{ns:List Int}{vs:List (ba×Value)}{Q:Value->Shared->Prop}(hk:vs.map (·.1)=ns.map Sum.inl)(hd:s.heap.DictOf (aY prog w) d vs)(lo:(d==sysModules)=false)(hh:A.handled=none)(hz:ns.length<=100000)(nd:ns.Nodup)
 (fin: ∀(g:Heap) (tk a e:Nat) (us:List Value),(∀c o,s.heap.get? c=some o->g.get? c=some o)->s.heap.objs.size<=a->xg us (cz iH ns)->g.get? a=some (seqObj "list" us.toArray e)->Q (.ref a) {s with heap:=g,toks:=tk}):
 wpAny (model prog w) A (call (.builtin "sorted") [.ref d]) Q E s:=by
 obtain⟨ep,hd'⟩:=hd.dictAt;have lv:vs.length=ns.length:=by have:=congrArg List.length hk;simpa using this
 refine Calls.call_function_entry kind_sorted plain_sorted entry_sorted (args_sorted1 _) ?_
 unfold Builtin.«sorted»;refine wpAny_bind (m:=checkCount "sorted" 1 1 _) (wpAny_pure (wpAny_bind (tG (A:=A.in1) (kdl_dict lo) hh hd' (by rw[lv,sizeLine_eq];omega) λg tk acc kg sg0 hacc=>?_)));obtain⟨us,hus⟩: ∃us,us=acc.toList:=⟨_,rfl⟩
 rw[<-hus];have hl:us.length=ns.length:=by rw[hus,Array.length_toList,hacc.1,lv]
 have gi: ∀i,i<ns.length-> ∃t,us.getD i Value.none=Value.int (ns.getD i 0) t:=λi hi=>by
  have e2:us[i]? =some us[i]:=List.getElem?_eq_getElem (by omega);have e3:acc[i]? =some us[i]:=by rw[<-Array.getElem?_toList,<-hus];exact e2
  obtain⟨k,x,h1,h2⟩:=hacc.2 i _ e3;have h3:(vs.map (·.1))[i]? =some k:=by rw[List.getElem?_map,h1];rfl
  rw[hk,List.getElem?_map,List.getElem?_eq_getElem hi] at h3;cases h3;rw[rP] at h2;rcases bA h2 with⟨j,t,q1,q2⟩|⟨_,_,q1,_⟩
  ·cases q1;exact⟨t,by simp[List.getD,e2,q2,List.getElem?_eq_getElem hi]⟩
  ·cases q1
 have pickI: ∀(ix:List Nat) (ms:List Int),ix.map (λi=>ns.getD i 0)=ms->(∀i∈ix,i<ns.length)->xg (ix.map λi=>us.getD i Value.none) ms:=by
  intro ix
  induction ix with
  |nil=>intro ms e _;rw[<-e];exact .nil
  |cons i ix ih=>
   intro ms e hi;rw[<-e,List.map_cons,List.map_cons];exact .cons (gi i (hi i List.mem_cons_self)) (ih _ rfl λj hj=>hi j (List.mem_cons_of_mem _ hj))
 have sg:s.heap.objs.size<=g.objs.size:=Nat.le_of_lt sg0;refine wpAny_bind (wpAny_newList ?_ (by rw[sizeLine_eq];omega));have hL:(g.push (seqObj "list" us.toArray 0)).get? g.objs.size=some (seqObj "list" us.toArray 0):=Heap.get?_push_size _ rfl;show wpAny _ _ _ _ _ {s with heap:=g.push (seqObj "list" us.toArray 0),toks:=tk};have end_: ∀out:Array Value,xg out.toList (cz iH ns)->Q (.ref g.objs.size) {s with heap:=sortedHeap (g.push (seqObj "list" us.toArray 0)) g.objs.size us out,toks:=tk}:=λout hG=>by
  obtain⟨e,he⟩:=sortedHeap_at (out:=out) hL;refine fin _ tk g.objs.size e out.toList (λc u hu=>?_) sg hG he;have lt:=Heap.lt_size (kg c u hu);rw[sortedHeap_old (Nat.ne_of_lt lt) (by rw[size_push'];exact Nat.lt_succ_of_lt lt)];exact Heap.get?_push_of_some _ (kg c u hu)
 have full:xg us ns:=by
  have:=pickI (List.range us.length) ns (by rw[hl];exact sO _ _) λi hi=>by rw[List.mem_range] at hi;omega
  rw[show(List.range us.length).map (λi=>us.getD i Value.none)=us from List.ext_getElem? λi=>by
   by_cases hi:i<us.length
   ·simp[hi]
   ·simp[hi]] at this
  exact this
 refine wpAny_bind (wpAny_holding (wpAny_call_entry slot_list_sort ⟨_,hL,rfl⟩ entry_list_sort (wS (P:=λf t=> ∃v,f=.done (.ret v)/\wpAny (model prog w) A.in1 (pure (PySem.Fin.done (.ret (Value.ref g.objs.size)))) (λf t=> ∃v,f=.done (.ret v)/\Q v t) E t) hL (by omega) (λh=>?_) (λh g' kg'=>?_)) (args_list_sort _)))
 ·exact⟨_,rfl,wpAny_pure ⟨_,rfl,end_ us.toArray (by rw[pf (by omega)];exact full)⟩⟩
 ·refine kas_kind (T:=.type "int") h (λv hv'=>?_) (by rfl) (by rfl) ⟨rfl,?_⟩
  ·obtain⟨i,hi,rfl⟩:=List.getElem_of_mem hv';obtain⟨t,e⟩:=gi i (by omega);have:us[i]=us.getD i Value.none:=by simp[List.getD,List.getElem?_eq_getElem hi]
   rw[this,e];exact Looks.now
  ·have zl:(us.toArray.zip us.toArray).toList=us.map λv=>(v,v):=by simp[List.zip_eq_zipWith,List.zipWith_self]
   have itm: ∀x∈(us.toArray.zip us.toArray).toList,∃k t,x=(Value.int k t,Value.int k t):=λx hx=>by
    rw[zl] at hx;obtain⟨v,hv,rfl⟩:=List.mem_map.mp hx;obtain⟨i,hi,rfl⟩:=List.getElem_of_mem hv;obtain⟨t,e⟩:=gi i (by omega);have:us[i]=us.getD i Value.none:=by simp[List.getD,List.getElem?_eq_getElem hi]
    rw[this,e];exact⟨_,t,rfl⟩
   have fst:(us.toArray.zip us.toArray).toList.map rT=ns:=by
    rw[zl,List.map_map];refine List.ext_getElem? λi=>?_
    by_cases hi:i<ns.length
    ·obtain⟨t,e⟩:=gi i hi;have:us[i]? =some (us.getD i Value.none):=by simp[List.getD,List.getElem?_eq_getElem (show i<us.length by omega)]
     rw[List.getElem?_map,this,e,List.getElem?_eq_getElem hi];simp[rT,List.getD,List.getElem?_eq_getElem hi]
    ·rw[List.getElem?_eq_none (by rw[List.length_map];omega),List.getElem?_eq_none (by omega)]
   refine⟨λx=> ∃k t,x=(Value.int k t,Value.int k t),λx y=>iH (rT x) (rT y),Cmp.of (λx y hx hy Q' hQ=>?_) (λx y z _ _ _ h1 h2=>?_) (λx y h1=>?_),itm,?_,λar pm sg=>⟨_,rfl,wpAny_pure ⟨_,rfl,end_ _ ?_⟩⟩⟩
   ·obtain⟨k,t,rfl⟩:=hx;obtain⟨k',t',rfl⟩:=hy;exact kat_lt_int hQ
   ·simp only[iH,decide_eq_false_iff_not] at*;omega
   ·simp only[iH,decide_eq_false_iff_not,decide_eq_true_eq] at*;omega
   ·have:((us.toArray.zip us.toArray).toList.map rT).Pairwise λx y=>iH x y=true\/iH y x=true:=by
     rw[fst];refine List.Pairwise.imp (λ{x y} hxy=>?_) nd;simp only[iH,decide_eq_true_eq];omega
    rw[List.pairwise_map] at this;exact this
   ·have pl:=pm.toList
    have e1:ar.toList.map rT=cz iH ns:=vZ Dn (by rw[<-fst];exact pl.map rT) (by
     rw[List.pairwise_map,List.pairwise_iff_getElem];intro i j hi hj hij;have:=sg i j (Nat.zero_le _) (by omega) (by
      have:=pl.length_eq
      rw[zl,List.length_map] at this;omega)
     have hi':i<ar.size:=by simpa using hi
     have hj':j<ar.size:=by simpa using hj
     simpa [Array.getD,hi',hj'] using this)
    rw[<-e1,Array.toList_map];have al: ∀x∈ar.toList,∃k t,x=(Value.int k t,Value.int k t):=λx hx=>itm x (pl.mem_iff.mp hx)
    generalize ar.toList=l at al
    induction l with
    |nil=>exact .nil
    |cons x l ih=>
     rw[List.map_cons,List.map_cons];refine .cons ?_ (ih λy hy=>al y (List.mem_cons_of_mem _ hy))
     obtain⟨k,t,rfl⟩:=al x List.mem_cons_self;exact⟨t,rfl⟩
end
section
variable {X:Cx}{c:Ct}{pos p py:Pos}{x y:Str}
theorem mY(hc:X.calm=true):fO X (.builtin "sorted") (λxs H Q=> ∃a us ns,xs=[.ref a]/\H a=some (.dK us)/\us.map (·.1)=ns.map Sum.inl/\(ns.length<=100000/\ns.Nodup)/\ ∀l,H l=none->Q (.ref l) (cb H l (.lst ((cz iH ns).map V.int)))):=by
 intro aa s σ H xs us Q I r h;obtain⟨a,kvs,ns,rfl,ha,hk,hz,q⟩:=h;obtain⟨u,rfl,rx⟩:=iS r;cases rx;obtain⟨z,lo,vs,rel,dd⟩:=Ax I.hok ha;refine o5 (vs:=vs) (by rw[<-rel.keys,hk]) dd lo (I.ok.hd hc) hz.1 hz.2 λg tk a' e us kg sg hi hg=>?_
 have hn:H a'=none:=I.hok.fresh sg;refine⟨.ref a',_,I.laid (t':=tk) (o:=.lst ((cz iH ns).map V.int)) kg sg ?_,rfl,q a' hn⟩;have ll:(cz iH ns).length=ns.length:=(bB (lt:=iH) ns).length_eq;exact⟨by rw[List.length_map,ll,sizeLine_eq];omega,us,e,xX hi,hg⟩
def qX(i:Nat):FE:=λρ=>(oY i ρ).bind λkvs=>(hU kvs).bind λns=>if ns.length<=100000/\ns.Nodup then some (.lst ((cz iH ns).map D.int)) else none
theorem qF(i:Nat)(hcm:X.calm=true)(hm:X.mg "sorted"=none)(hN:X.N[i]? =some y:=by rfl)(hv':nB X.env.scope y:=by first|exact Or.inl rfl|exact Or.inr (Or.inl rfl)|exact Or.inr (Or.inr rfl))(hd:(y==("__debug__":Str))=false:=by decide)
 (hcd:(y==("__classdict__":Str))=false:=by decide) (hg:Gl X "sorted":=by rfl) (hv:bootBuiltins "sorted"=some (.builtin "sorted"):=by kernel_rfl)
 (he:starEach [.Name y py] X.env=(false,eval (.Name y py) X.env)::starEach [] X.env:=by rfl) (hpl:(backTo pos (starEach [] X.env)).any (·.1)=false:=by rfl):DP X c .n (.Call (.Name "sorted" p) [.Name y py] [] pos) (qX i):=λhid ρ=>
 PE.imp (iQ (mY hcm) hg hm hv (bV (pv i hN hv' hd hcd) fu he) (by decide) (by decide) he hpl) λσ H Q hq_=>by
  obtain⟨sr,d,hd,q⟩:=hq_;obtain⟨kvs,e0,hd⟩:=Option.bind_eq_some_iff.mp hd;obtain⟨ns,e1,hd⟩:=Option.bind_eq_some_iff.mp hd;split at hd
  ·rename_i hz
   cases hd;obtain⟨a,us,a1,a2,a3,a4,a5⟩:=sr.dict e0;refine⟨.ref a,a1,a,us,ns,rfl,a4,by rw[a5.1];exact mQ e1,hz,λl hl=>q _ _ (bq hl _) ⟨l,_,_,rfl,rfl,hl,aN,?_⟩⟩;exact nv _
  ·cases hd
end
def xi:FS:=λ_=>.no
theorem wz {X:Cx}{c:Ct}{k:Kd}{st:Stmt}:DS X c k st xi:=λρ aa s σ H D I ⟨hid,sr,q⟩=>q.elim
open PySem PySem.W PyProof.Rows
open PySem PySem.W PyProof.Rows PySem.Builtin
set_option maxHeartbeats 3200000
set_option maxHeartbeats 1000000
open PySem PySem.W PySem.Spec PyProof.Rows
open PySem PySem.Spec PyProof.Rows HT
section
variable {X:Cx}{c:Ct}{e o:Expr}{k k2:Kd}{f g:FE}{pos p p2 apos:Pos}
theorem qY(hu:X.A.units+64<cLine):EJ X "list.count" (λv vs H Q=> ∃a xs ds x y,v=.ref a/\vs=[x]/\SqL X.K H a xs/\Reps X.K H xs ds/\Rep X.K H x y/\ft ds<=32/\Q (.int ((ds.countP λz=>dN z y:Nat):Int)) H):=by
 intro aa s σ H v vs u us Q I rv rs h;obtain⟨a,xs,ds,x,y,rfl,rfl,h1,h2,h3,h4,q⟩:=h;cases rv;obtain⟨w,rfl,rw'⟩:=iS rs;obtain⟨its,r,pl,hz⟩:=I.list h1;have l1:=r.length;have l2:=h2.length;obtain⟨e,g1,g2⟩:=ub (A:=X.A.in1.in1) I h3 rw' h2 r (by rw[fN,fN];omega);obtain⟨⟨cls,dd,data,sl⟩,n,ho,hc,hd0,hd⟩:=id pl;simp only at hc hd;subst hc hd;have em:its.map e=ds.map λz=>dN z y:=List.ext_getElem (by simp;omega) λm h1 h2=>by
  rw[List.getElem_map,List.getElem_map];exact g2 m (by simpa using h1) _ (List.getElem?_eq_getElem (by simpa using h2))
 have ec:its.countP e=ds.countP λz=>dN z y:=by
  have e1:its.countP e=(its.map e).countP id:=by rw[List.countP_map];rfl
  rw[e1,em,List.countP_map];rfl
 refine call_meets PySem.F.slot_list_count ⟨_,ho,rfl⟩ PySem.F.entry_list_count (PySem.F.args_list_count_2 _ _) (SeqAt.list_countAt a its.toArray n dd sl w e) ⟨ho,?_,?_⟩
 ·intro z hz';exact SeqAt.EqAt.of_in1 (g1 z (by simpa using hz'))
 ·show EP X aa σ Q (.int ((its.countP e:Nat):Int) s.toks) _;rw[ec];exact⟨.int ((ds.countP λz=>dN z y:Nat):Int),H,I.tok _,⟨_,rfl⟩,q⟩
def wZ:D->D->Option D:=λt x=>match t with
 | .lst ds=>if ft ds<=32 then some (.int ((ds.countP λz=>dN z x:Nat):Int)) else none
 |_=>none
theorem rB(hu:X.A.units+64<cLine)(ho:DP X c k o f)(he:DP X c k2 e g)
 (hbase:attributeBase o "count" X.env (eval o X.env)=eval o X.env:=by rfl)
 (hfew:((backTo pos (starEach [e] X.env)).all (λx=> !x.1)&&(backToKw pos (keywordEach [] X.env)).all (λx=>x.1.isSome)
   &&decide (([e]:List Expr).length+([]:List Keyword).length+(if([]:List Keyword).isEmpty then 0 else 1)<30))=true:=by rfl)
 (hline:(apos.endLine==pos.line)=true:=by rfl) (hs:starEach [e] X.env=(false,eval e X.env)::starEach [] X.env:=by rfl) (hplain:(backTo pos (starEach [] X.env)).any (·.1)=false:=by rfl):
 DP X c .s (.Call (.Attribute o "count" apos) [e] [] pos) (ao wZ f g):=λhid ρ=>
 PE.imp (uw PySem.F.plainAttrs_list PySem.F.slot_list_count PySem.F.type_list_count (qY hu) (ho hid ρ) (bV (he hid ρ) fu hs) hbase hfew hline hs hplain) λσ H Q hq_=>by
  obtain⟨sr,d,hd,q⟩:=hq_;obtain⟨x,y,e1,e2,e3⟩:=mx hd;unfold wZ at e3;split at e3
  ·split at e3
   ·rename_i ds _
    cases e3;refine⟨sr,_,e1,λv H1 s1 r1=>?_⟩;have b1:=RK.b k r1 λa n=>sr.fresh n
    obtain⟨a,xs,rfl,t2,t3⟩:=b1.lst;refine⟨.inl ⟨rfl,xs,t2⟩,sr.ext s1,y,e2,λu H2 s2 r2=>?_⟩;have b2:=RK.b k2 r2 λa n=>(sr.ext s1).fresh n
    exact⟨a,xs,ds,u,y,rfl,rfl,s2.seq t2,(t3.mono (aM s2)).mono (di _ _),b2.full, ‹_›,q _ H2 (s1.trans s2) .int⟩
   ·cases e3
  ·cases e3
end
def pJ(p:FT)(t:FX):Nat->FX
 |0,_=>.ok .no
 |n+1,ρ=>match p ρ with
  |some true=>(match t ρ with
   | .error z=>.error z
   | .ok (.nx ρ2)=>pJ p t n ρ2
   | .ok (.ct ρ2)=>pJ p t n ρ2
   | .ok (.bk ρ2)=>.ok (.nx ρ2)
   | .ok (.rt d ρ2)=>.ok (.rt d ρ2)
   | .ok .no=>.ok .no)
  |some false=>.ok (.nx ρ)
  |none=>.ok .no
section
variable {X:Cx}{c:Ct}{e:Expr}{k:Kd}{pos:Pos}{body:List Stmt}
theorem vW(n:Nat){p:FT}{tb:FX}(hp:PassesOwn (model X.prog X.w) X.A X.env X.xe)(hc:DT X c e p)(hb:m5 X c k body tb):AY X c k (.While e body [] pos) (pJ p tb n):=λρ=>
 PS.imp (xQ hp (Cg λz:bw×aG=>hc z.1 z.2) (tZ λρ=>hb ρ)) λD σ H hq_=>by
  obtain⟨hid,sr,q⟩:=hq_;refine⟨λm σ H=> ∃hid2 ρ2,SR X.K c hid2 ρ2 σ H/\EndX X c k D (vw H hid2) (pJ p tb m ρ2),⟨n,hid,ρ,sr,q⟩,?_⟩;rintro m σ2 H2 ⟨hid2,ρ2,s2,q2⟩;cases m with
  |zero=>exact q2.elim
  |succ m=>
   unfold pJ at q2;cases e1:p ρ2 with
   |none=>rw[e1] at q2;exact q2.elim
   |some b=>
    rw[e1] at q2;refine⟨(hid2,ρ2),s2,b,e1,λH3 s3=>?_⟩;cases b with
    |false=>exact sQ (q2 σ2 H3 hid2 (s2.ext s3) (aM s3))
    |true=>
     refine ss ⟨λσ' H'=> ∃hid3 ρ3,SR X.K c hid3 ρ3 σ' H'/\EndX X c k D (vw H' hid3) (pJ p tb m ρ3),λσ' H' n3=>⟨m,Nat.lt_succ_self _,n3⟩,ρ2,hid2,s2.ext s3,?_⟩;have w3:Same (vw H2 hid2) (vw H3 hid2):=aM s3;dsimp only at q2;cases e4:tb ρ2 with
     |error z=>rw[e4] at q2;exact λσ' H' hid' C z w=>q2 σ' H' hid' C z (w3.trans w)
     |ok o=>
      cases o with
      |nx ρ5=>rw[e4] at q2;exact λσ' H' hid' z w=>⟨hid',ρ5,z,EndX.mono q2 (w3.trans w)⟩
      |ct ρ5=>rw[e4] at q2;exact λσ' H' hid' z w=>⟨hid',ρ5,z,EndX.mono q2 (w3.trans w)⟩
      |bk ρ5=>rw[e4] at q2;exact λσ' H' hid' z w=>q2 σ' H' hid' z (w3.trans w)
      |rt d ρ5=>rw[e4] at q2;exact q2
      |no=>rw[e4] at q2;exact q2.elim
end
section
variable {X:Cx}{c:Ct}{a b:Expr}{pos:Pos}{f g:FE}
def iq:D->D->Option D:=i2 (λ_ j=>decide (j≠0)) λi j=>.int (i.fmod j)
def gm:D->D->Option D:=i2 (λ_ j=>decide (j≠0)&&decide (j.natAbs<1000000)) λi j=>.int (i.fdiv j)
theorem zR {K:W.Frag}:mX K .s (rI (λ_ j=>j≠0) λi j=>.int (i.fmod j)) iq:=vx λi j h=>by simpa using h
theorem zc {K:W.Frag}:mX K .s (rI AC λi j=>.int (i.fdiv j)) gm:=vx λi j h=>by
 simp only[Bool.and_eq_true,decide_eq_true_eq] at h;exact⟨h.1,by omega⟩
theorem uC {k1 k2:Kd}(ha:DP X c k1 a f)(hb:DP X c k2 b g):DP X c .s (.BinOp a .Mod b pos) (ao iq f g):=jS y9 zR ha hb
theorem oW {k1 k2:Kd}(ha:DP X c k1 a f)(hb:DP X c k2 b g):DP X c .s (.BinOp a .FloorDiv b pos) (ao gm f g):=jS ya zc ha hb
end
set_option maxHeartbeats 3200000
theorem sJ:typeLookup (.type "list") "keys"=pure none:=am_miss_of_fast (by decide+kernel)
theorem p6:entryFor table "dict.update.loop"=some Builtin.«dict.update.loop»:=entryFor_of_tree (by kernel_rfl)
theorem jI:plainId "dict.update.loop"=true:=by decide+kernel
section
variable {prog:Program}{w:World}{A:Around}{E:Value->Shared->Prop}{s:Shared}
theorem zP {a:Addr}{o:Obj}{xs:Array Value}{k:Nat}{Q:Option Value->Shared->Prop}
 (hx:s.heap.get? a=some o) (hc:o.cls=.type "list") (hdat:o.data=.seq xs k) (hd:o.dict=none) (hA:A.handled=none)
 (h: ∀h' tk e,Heap.NewExcOf s.heap h' e "AttributeError"->Q none {s with heap:=h',toks:=tk}):
 wpAny (model prog w) A (getAttr? (.ref a) "keys") Q E s:=by
 obtain⟨c,dct,dat,sl⟩:=o;simp only at hc hdat hd;subst hc hdat hd;obtain⟨hp,g,d,tk,os⟩:=s;have hT: ∀tk',(⟨hp,g,d,tk',os⟩:Shared).TypeIs (.ref a) "list":=λ_=>⟨_,hx,rfl⟩
 have f1:=sub_AttributeError;have f3:=F.slot_list_getattribute.lookup;have f4:=F.slot_list_getattribute.bind (.ref a);have f5:=am_list_getattr_none;unfold getAttr? getAttrBy? getAttrBy
 repeat (any_goals (first|assumption|exact hT _|((with_reducible show wpAny _ _ (call (Value.builtin "list.__getattribute__") _ _) _ _ _);refine call_meets F.slot_list_getattribute (hT _) am_entry_list_getattribute (F.args_list_getattribute_2 _ _) (meets_getattribute_miss_list a xs k sl "keys" _ sJ (by decide+kernel) (by size_fits)) ⟨hx,hA,λh' tk' e hx'=>?_⟩)|wp_step))
 obtain⟨t',u',he⟩:=hx'.there;show wpAny _ _ (getattributeRaised _ _ _ _ _ _ _) _ _ _;unfold getattributeRaised
 repeat (any_goals (first|assumption|wp_step))
 exact h _ _ _ hx'.of
def PrA(prog:Program)(w:World)(h:Heap)(z:ba×Value×Addr):Prop:= ∃o key n,h.get? z.2.2=some o/\o.cls=.type "tuple"/\o.data=.seq #[key,z.2.1] n/\(aY prog w).is z.1 key=true
theorem PrA.to {h h':Heap}{z:ba×Value×Addr}(x:PrA prog w h z)(k: ∀o,h.get? z.2.2=some o->h'.get? z.2.2=some o):PrA prog w h' z:=
 let⟨o,key,n,e,r⟩:=x;⟨o,key,n,k _ e,r⟩
end
section
variable {prog:Program}{w:World}{A:Around}{R:Result->Shared->Prop}{I:Addr}{fp wr:List Addr}{G:Array GenState->Array GenState->Prop}{n:Nat}{P:Nat->Value->Prop}{St:Nat->Shared->Prop}
abbrev yN(ks:List (ba×Value×Addr)):List (ba×Value):=ks.map λz=>(z.1,z.2.1)
theorem rS {kvs:List (ba×Value)}{k:ba}{v:Value}(h:k∉kvs.map (·.1)):stored kvs k v=kvs++[(k,v)]:=by
 unfold stored;rw[if_neg];intro q;obtain⟨z,hz,e⟩:=List.any_eq_true.mp q;exact h (List.mem_map.mpr ⟨z,hz,by simpa using e⟩)
theorem An(W:WalksS prog w A.in1 I fp wr G n P St)(S:Addr)(hSf:S∉fp)(ks:List (ba×Value×Addr))(hk:ks.length=n)(nd:(ks.map (·.1)).Nodup)(hn:n<=1000)
 (hval: ∀i v,P i v-> ∃z,ks[i]? =some z/\v=.ref z.2.2) (hw: ∀z∈ks,z.2.2∉S::wr):
 ∀(k i:Nat) (s:Shared),n-i=k->i<=n->St i s->
  (∀z∈ks,PrA prog w s.heap z)->s.heap.DictOf (aY prog w) S (yN (ks.take i))-> ∀(j:Int),
  (∀s',Moved (S::wr) G s s'->s'.heap.DictOf (aY prog w) S (yN ks)->R (.ok (.ret .none)) s')->
  codeAny (model prog w) A (.builtin "dict.update.loop" ⟨[.ref S,.ref I,.int j 0,.none],[]⟩) R s:=by
 have hSw:S∉wr:=λh=>hSf (W.sub _ h)
 have hsub: ∀b∈wr,b∈S::wr:=λb hb=>List.mem_cons_of_mem _ hb
 intro k
 induction k with
 |zero=>
  intro i s hk0 hi hst hE hS j hR;have hin:i=n:=by omega
  subst hin;refine codeAny_builtin p6 ?_
  rw[Around.under_plainId jI _];show wpAny _ A.in1 (pyNext (.ref I)>>=_) _ _ s;refine wpAny_bind (W.done s _ _ hst λs' hm=>?_);show wpAny _ A.in1 (Dict.addKeywords S []>>=_) _ _ s';refine wpAny_bind (wpAny_pure (wpAny_pure (hR s' (hm.mono hsub) ?_)));rw[List.take_of_length_le (by omega)] at hS;obtain⟨o,es,ep,ho,r⟩:=hS;exact⟨o,es,ep,hm.heap S _ hSw ho,r⟩
 |succ k ih=>
  intro i s hk0 hi hst hE hS j hR;have hlt:i<n:=by omega
  refine codeAny_builtin p6 ?_
  rw[Around.under_plainId jI _];show wpAny _ A.in1 (pyNext (.ref I)>>=_) _ _ s;refine wpAny_bind (W.item i s _ _ hlt hst λv s' hP hst' hm=>?_);obtain⟨z,hgi,hv⟩:=hval i v hP;subst hv;have hz:z∈ks:=List.mem_of_getElem? hgi;have hE': ∀z∈ks,PrA prog w s'.heap z:=λy hy=>(hE y hy).to λo2 e=>hm.heap _ _ (λq=>hw y hy (hsub _ q)) e
  have hS':s'.heap.DictOf (aY prog w) S (yN (ks.take i)):=by
   obtain⟨o,es,ep,ho,r⟩:=hS;exact⟨o,es,ep,hm.heap S _ hSw ho,r⟩
  have hfr:z.1∉(yN (ks.take i)).map (·.1):=λhq=>by
   rw[List.map_map] at hq;obtain⟨y,hy,e⟩:=List.mem_map.mp hq;obtain⟨q,hq1,hq2⟩:=List.getElem_of_mem hy;rw[List.getElem_take] at hq2;have hj2:q<i:=by simp at hq1;omega
   have e1:(ks.map (·.1))[q]? =some z.1:=by
    rw[List.getElem?_map,List.getElem?_eq_getElem (by omega),hq2];exact congrArg some e
   have e2:(ks.map (·.1))[i]? =some z.1:=by rw[List.getElem?_map,hgi];rfl
   obtain⟨l1,e1⟩:=List.getElem?_eq_some_iff.mp e1;obtain⟨l2,e2⟩:=List.getElem?_eq_some_iff.mp e2;exact List.pairwise_iff_getElem.mp nd q i l1 l2 hj2 (e1.trans e2.symm)
  obtain⟨o,key,nn,ho,hc,hd,hkey⟩:=hE' z hz;show wpAny _ A.in1 (holding [Value.ref z.2.2] _>>=_) _ _ s';refine wpAny_bind (wpAny_holding ?_);refine wpAny_bind (wpAny_tryCatch ?_);unfold Dict.pairItems;refine wpAny_bind (wpAny_typeOf (T:="tuple") ⟨o,ho,hc⟩ ?_);rw[if_pos (by decide)];refine wpAny_bind (wpAny_seqItems ho hd (wpAny_pure ?_));show wpAny _ A.in1 (holding [key,z.2.1] (dictSet S key z.2.1)) _ _ s';refine wpAny_holding ?_
  refine wpAny_dictSet_pairs hkey hS' (λh' hS2 hs2=>?_) (by
   have:(yN (ks.take i)).length<=1000:=by rw[List.length_map,List.length_take];omega
   exact Nat.le_trans this (by decide))
  rw[rS hfr] at hS2;refine wpAny_pure ⟨plainId_quiet jI _,ih (i+1) _ (by omega) hlt (W.frame _ s' _ _ hst' (Nat.le_add_right _ _) λb hb o2 e=>?_) (λy hy=>?_) ?_ _ λs'' hm2 hd2=>?_⟩
  ·rw[hs2.2 b (λh:b=S=>hSf (by rw[<-h];exact hb))];exact e
  ·exact(hE' y hy).to λo2 e=>(hs2.2 _ (λh=>hw y hy (by rw[h];exact List.mem_cons_self))).trans e
  ·rw[List.take_succ,hgi];simpa [yN] using hS2
  ·refine hR s'' (Moved.trans W.gtrans ((hm.mono hsub).then_heap (Nat.le_add_right _ _) λb o3 hb e=>?_) hm2) hd2;rw[hs2.2 b (λh:b=S=>hb (by rw[h];exact List.mem_cons_self))];exact e
end
section
variable {prog:Program}{w:World}{A:Around}{E:Value->Shared->Prop}{s:Shared}
theorem zI {l:Addr}{o:Obj}{items:Array Value}{nn:Nat}{ks:List (ba×Value×Addr)}{Q:Value->Shared->Prop}(hh:A.handled=none)(hx:s.heap.get? l=some o)(hc:o.cls=.type "list")(hdat:o.data=.seq items nn)(hd:o.dict=none)
 (hi:items.toList=ks.map λz=>Value.ref z.2.2) (nd:(ks.map (·.1)).Nodup) (hn:ks.length<=1000) (hE: ∀z∈ks,PrA prog w s.heap z)
 (h: ∀(h':Heap) (tk:Nat),h'.DictOf (aY prog w) s.heap.objs.size (yN ks)->(∀b o,s.heap.get? b=some o->h'.get? b=some o)->Q (.ref s.heap.objs.size) {s with heap:=h',toks:=tk}):
 wpAny (model prog w) A (call (.type "dict") [.ref l]) Q E s:=by
 refine callType_codes (Q₁:=λobj s₁=>obj=.ref s.heap.objs.size/\s₁={s with heap:=s.heap.push {cls:=.type "dict",data:=.dict #[]}}) F.kt_called_dict (F.kt_typeCall_dict_1 _) F.entry_dict_init (kt_code_dict_new _ ⟨rfl,rfl⟩) ?_
 rintro obj s₁ ⟨rfl,rfl⟩;have hnew:(s.heap.push {cls:=.type "dict",data:=.dict #[]}).DictOf (aY prog w) s.heap.objs.size []:=Heap.DictOf.new s.heap;have hx':(s.heap.push {cls:=.type "dict",data:=.dict #[]}).get? l=some o:=Heap.get?_push_of_some _ hx;refine⟨hnew.typeIs,F.args_dict_init_2 _ _,?_⟩;unfold Builtin.«dict.__init__»;refine wpAny_bind ?_
 unfold Builtin.Dict.selfAndRest;refine wpAny_bind (wpAny_notOrdered_dict hnew.typeIs ?_);show wpAny _ _ (pure (s.heap.objs.size,[Value.ref l])) _ _ _;refine wpAny_pure ?_
 show wpAny _ _ (Builtin.Dict.updateFrom "dict.__init__" s.heap.objs.size (.ref l) [] .none) _ _ _;unfold Builtin.Dict.updateFrom;refine wpAny_bind (wpAny_typeOf (T:="list") ⟨o,hx',hc⟩ ?_);rw[if_pos (by decide)];refine wpAny_bind (zP hx' hc hdat hd (by simp[hh]) λh1 tk1 e hx1=>?_);show wpAny _ _ (rule _>>=_) _ _ _;refine wpAny_bind (wpAny_rule ?_);have hl1:h1.IsList l items:=⟨o,hx1.keeps _ _ hx',hc,nn,hdat⟩
 refine wpAny_bind (wpAny_pyIter_list hl1 (wpAny_pure ⟨plainId_quiet jI _,?_⟩));have hS0:s.heap.objs.size<h1.objs.size:=by
  obtain⟨o1,_,_,e1,_⟩:=hnew;exact Heap.lt_size (hx1.keeps _ _ e1)
 have hlS:l<s.heap.objs.size:=Heap.lt_size hx;have hneI:l≠h1.objs.size:=Nat.ne_of_lt (Nat.lt_trans hlS hS0);have hSf:s.heap.objs.size∉ [h1.objs.size,l]:=by
  simp only[List.mem_cons,List.mem_singleton,List.not_mem_nil,or_false,not_or];exact⟨Nat.ne_of_lt hS0,Nat.ne_of_gt hlS⟩
 have zi:ks.length=items.size:=by
  have:=congrArg List.length hi;rw[List.length_map,Array.length_toList] at this;exact this.symm
 have hlt: ∀z∈ks,z.2.2<s.heap.objs.size:=λz hz=>by
  obtain⟨o,_,_,e,_⟩:=hE z hz;exact Heap.lt_size e
 refine An ((Walks.list (by simp[hh]) _ l hneI items).toS) s.heap.objs.size hSf ks zi nd (by omega) (λi v hv=>?_) (λz hz=>?_) (items.size-0) 0 _ (by omega) (Nat.zero_le _)
  ⟨⟨_,Heap.get?_push_size _ rfl,rfl,rfl⟩,(hl1.push _)⟩ (λz hz=>(hE z hz).to λo e=>Heap.get?_push_of_some _ (hx1.keeps _ _ (Heap.get?_push_of_some _ e))) ?_ 0 ?hR
 ·have:items.toList[i]? =some v:=by rw[Array.getElem?_toList];exact hv
  rw[hi,List.getElem?_map] at this;obtain⟨z,hz,rfl⟩:=Option.map_eq_some_iff.mp this;exact⟨z,hz,rfl⟩
 ·have:=hlt z hz;simp only[List.mem_cons,List.mem_singleton,List.not_mem_nil,or_false,not_or];exact⟨Nat.ne_of_lt this,Nat.ne_of_lt (Nat.lt_trans this hS0)⟩
 ·obtain⟨o1,es1,ep1,e1,r1⟩:=hnew;exact⟨o1,es1,ep1,Heap.get?_push_of_some _ (hx1.keeps _ _ e1),r1⟩
 case hR=>
  intro s' hm hd';obtain⟨h',g',d',tk',os'⟩:=s';have eg:g'=s.gens:=hm.gens;have ed:d'=s.drawn:=hm.drawn;have eo:os'=s.os:=hm.os;subst eg;subst ed;subst eo;refine⟨rfl,h h' tk' hd' λb o e=>?_⟩;have hb:=Heap.lt_size e;refine hm.heap b o ?_ (Heap.get?_push_of_some _ (hx1.keeps _ _ (Heap.get?_push_of_some _ e)))
  simp only[List.mem_cons,List.mem_singleton,List.not_mem_nil,or_false,not_or];exact⟨Nat.ne_of_lt hb,Nat.ne_of_lt (Nat.lt_trans hb hS0)⟩
end
def Ci:List D->Option (List (ba×D))
 | []=>some []
 | .tup [.int k,d]::ds=>(Ci ds).map ((.inl k,d):: ·)
 |_=>none
section
variable {K:W.Frag}{W:Hp}
theorem wA: ∀ {xs:List V} {ds:List D} {kvs:List (ba×D)},Reps K W xs ds->Ci ds=some kvs-> ∃zs:List (ba×V×Addr),xs=zs.map (λz=>V.ref z.2.2)/\(∀z∈zs,SqT K W z.2.2 [kV z.1,z.2.1])/\zs.map (·.1)=kvs.map (·.1)/\Reps K W (zs.map (·.2.1)) (kvs.map (·.2)):=by
 intro xs
 induction xs with
 |nil=>
  intro ds kvs r h;cases r;cases h;exact⟨[],rfl,λ_ h=>(nomatch h),rfl,.nil⟩
 |cons x xs ih=>
  intro ds kvs r h;cases r with
  | @cons _ d _ ds r rs=>
    unfold Ci at h;split at h
    ·rename_i e;cases e
    ·rename_i k d' ds' e
     cases e;obtain⟨kvs',e1,rfl⟩:=Option.map_eq_some_iff.mp h;obtain⟨zs,h1,h2,h3,h4⟩:=ih rs e1;cases r with
     |tup sq rr=>
      cases rr with
      |cons r1 rr=>
       cases rr with
       |cons r2 rr=>
        cases rr;cases r1;refine⟨(.inl k,_,_)::zs,by rw[h1];rfl,λz hz=>?_,by rw[List.map_cons,List.map_cons,h3],.cons r2 h4⟩;rcases List.mem_cons.mp hz with rfl|hz
        ·exact sq
        ·exact h2 z hz
    ·cases h
end
section
variable {X:Cx}{aa:List (Addr×Obj)}{σ:St}{H:Hp}{s:Shared}
theorem uc(I:Inv X aa σ H s): ∀zs:List (ba×V×Addr),(∀z∈zs,SqT X.K H z.2.2 [kV z.1,z.2.1])-> ∃ks:List (ba×Value×Addr),ks.map (·.1)=zs.map (·.1)/\ks.map (·.2.2)=zs.map (·.2.2)/\(∀z∈ks,PrA X.prog X.w s.heap z)/\KV (zs.map λz=>(z.1,z.2.1)) (yN ks)
 | [],_=>⟨[],rfl,rfl,λ_ h=>(nomatch h),.nil⟩
 |z::zs,h=>by
  obtain⟨ks,h1,h2,h3,h4⟩:=uc I zs λy hy=>h y (List.mem_cons_of_mem _ hy)
  obtain⟨its,r,⟨o,ho,hc,n,hd⟩,_⟩:=I.tuple (h z List.mem_cons_self);cases r with
  |cons r1 r=>
   cases r with
   |cons r2 r=>
    cases r;refine⟨(z.1,_,z.2.2)::ks,by rw[List.map_cons,List.map_cons,h1],by rw[List.map_cons,List.map_cons,h2],λy hy=>?_,.cons ⟨rfl,r2⟩ h4⟩;rcases List.mem_cons.mp hy with rfl|hy
    ·exact⟨o,_,n,ho,hc,hd,rA r1⟩
    ·exact h3 y hy
def C1(K:W.Frag):List V->Hp->VK->Prop:=λxs H Q=> ∃(p:Addr) (zs:List (ba×V×Addr)),xs=[.ref p]/\SqL K H p (zs.map λz=>V.ref z.2.2)/\(∀z∈zs,SqT K H z.2.2 [kV z.1,z.2.1])/\(zs.map (·.1)).Nodup/\zs.length<=1000/\
 ∀a,H a=none->Q (.ref a) (cb H a (.dK (zs.map λz=>(z.1,z.2.1))))
theorem sj(hc:X.calm=true):fO X (.type "dict") (C1 X.K):=by
 intro aa s σ H xs us Q I r h;obtain⟨p,zs,rfl,hp,hz,nd,hl,q⟩:=h;obtain⟨u,rfl,rx⟩:=iS r;cases rx;obtain⟨its,rv,⟨o,n,e1,e2,e3,e4⟩,_⟩:=I.list hp;obtain⟨ks,h1,h2,h3,h4⟩:=uc I zs hz;have hi:its=ks.map λz=>Value.ref z.2.2:=by
  have e:zs.map (λz=>V.ref z.2.2)=(ks.map (·.2.2)).map V.ref:=by rw[h2,List.map_map];rfl
  rw[e] at rv;rw[j4 rv,List.map_map];rfl
 have lz:ks.length=zs.length:=by have:=congrArg List.length h1;simpa using this
 refine zI (I.ok.hd hc) e1 e2 (by first|exact e3|exact e4) (by first|exact e4|exact e3) (by simpa using hi) (by rw[h1];exact nd) (by omega) h3 λh' tk hd kp=>?_
 refine⟨.ref s.heap.objs.size,_,I.laid (t':=tk) kp (Nat.le_refl _) (show ObjOk X.prog X.w _ h' _ (.dK _) from⟨?_,?_,yN ks,h4,hd⟩),rfl,q _ (I.hok.fresh (Nat.le_refl _))⟩
 ·rw[List.length_map];exact Nat.le_trans hl (by decide)
 ·exact beq_eq_false_iff_ne.mpr (Nat.ne_of_gt I.big)
end
section
variable {X:Cx}{c:Ct}{k k1:Kd}{e:Expr}{f:FE}{pos pos' cpos p:Pos}{x:Str}
def Dt(i:Nat)(f:FE):FS:=λρ=>match f ρ with
 |some (.lst ds)=>(match Ci ds with
  |some kvs=>if(decide ((kvs.map (·.1)).Nodup)&&decide (kvs.length<=1000))=true then .nx (ρ.set i (.ob (.dK kvs))) else .no
  |none=>.no)
 |_=>.no
theorem x8: ∀(zs:List (ba×V×Addr)),(zs.map λz=>(z.1,z.2.1)).map (·.1)=zs.map (·.1)/\(zs.map λz=>(z.1,z.2.1)).map (·.2)=zs.map (·.2.1):=λzs=>by
 rw[List.map_map,List.map_map];exact⟨rfl,rfl⟩
theorem Cq(i:Nat)(hn:X.N.Nodup)(hcm:X.calm=true)(hm:X.mg "dict"=none)(he:DP X c k1 e f)(hi:X.N[i]? =some x:=by rfl)(hx:xI X.env.scope x:=by first|exact Or.inl rfl|exact Or.inr rfl)(hs:swapsWith (.Call (.Name "dict" p) [e] [] cpos) (some (.Name x pos')) pos.line X.env=pure false:=by rfl)
 (hf:X.fn x=true\/X.env.scope.names.lookup x=some .local:=by first|exact .inl rfl|exact .inr rfl|assumption) (hg:Gl X "dict":=by rfl) (hv:bootBuiltins "dict"=some (.type "dict"):=by kernel_rfl)
 (he1:starEach [e] X.env=(false,eval e X.env)::starEach [] X.env:=by rfl) (hpl: ∀q,(backTo q (starEach [] X.env)).any (·.1)=false:=by intro _;rfl):
 DS X c k (.Assign [.Name x pos'] (.Call (.Name "dict" p) [e] [] cpos) pos) (Dt i f):=λρ=>PS.imp (kD hn hi hx (nL (sj hcm) hg hm hv (bV (jW λhid=>he hid ρ) fu he1) (by decide) (by decide) he1 (hpl _)) hs hf) λD σ H hq_=>by
 obtain⟨hid,sr,q⟩:=hq_;unfold Dt at q;split at q
 ·rename_i ds e1
  split at q
  ·rename_i kvs e2
   split at q
   ·rename_i hb
    rw[Bool.and_eq_true,decide_eq_true_eq,decide_eq_true_eq] at hb;refine⟨hid,sr,_,e1,λv H1 s1 r1=>?_⟩;obtain⟨a,xs,rfl,hsq,rp⟩:=(RK.b k1 r1 λa n=>sr.fresh n).lst;obtain⟨zs,z1,z2,z3,z4⟩:=wA rp e2;subst z1;have lz:zs.length=kvs.length:=by have:=congrArg List.length z3;simpa using this
    refine⟨a,zs,rfl,hsq,λz hz=>Same.seqT (di _ _) (z2 z hz),by rw[z3];exact hb.1,by omega,λa ha=>?_⟩;have sr1:=sr.ext s1;have sm:=bq ha (.dK (zs.map λz=>(z.1,z.2.1)));have nf:=sr1.fresh ha;have zb:=x8 zs;refine q _ _ (bY hid a) (SR.setD (a:=a) (b:=.dK kvs) (sr1.hide sm ha aN) ⟨⟨fM,sr1.fresh0 ha⟩,_,aN,by rw[zb.1];exact z3,by rw[zb.2,oZ ha];exact z4⟩ (sr1.notOw nf) i) λb o w=>?_
    obtain⟨w1,w2⟩:=vw_some.mp w;refine vw_some.mpr ⟨?_,sm b o (s1 b o w2)⟩;unfold bY;rw[w1];have:b≠a:=bo (s1 b o w2) ha;simp[this]
   ·exact q.elim
  ·exact q.elim
 ·exact q.elim
end
section
variable {X:Cx}{c:Ct}{k:Kd}{a b t:Expr}{st:Stmt}{M1 M2:FS}{pos:Pos}{p:FT}{f g:GE}
def yw(M1 M2:FS):FS:=λρ=>match M1 ρ with
 | .no=>M2 ρ
 |o=>o
theorem Dk(h1:DS X c k st M1)(h2:DS X c k st M2):DS X c k st (yw M1 M2):=λρ=>by
 cases e:M1 ρ with
 |no=>
  have z:yw M1 M2 ρ=M2 ρ:=by unfold yw;rw[e]
  exact PS.imp (h2 ρ) λD σ H ⟨hid,sr,q⟩=>⟨hid,sr,by rw[z] at q;exact q⟩
 |_=>
  have z:yw M1 M2 ρ=M1 ρ:=by unfold yw;rw[e]
  exact PS.imp (h1 ρ) λD σ H ⟨hid,sr,q⟩=>⟨hid,sr,by rw[z] at q;exact q⟩
def AJ(p:FT)(f g:GE):GE:=λρ=>match p ρ with
 |some true=>f ρ
 |some false=>g ρ
 |none=>none
theorem Dv(ht:DT X c t p)(ha:DE X c k a f)(hb:DE X c k b g):DE X c k (.IfExp t a b pos) (AJ p f g):=λhid ρ=>
 PE.imp (ym (ht hid ρ) (ha hid ρ) (hb hid ρ)) λσ H Q hq_=>by
  obtain⟨sr,d,ρ',hd,q⟩:=hq_;unfold AJ at hd;cases e:p ρ with
  |none=>rw[e] at hd;cases hd
  |some z=>
   rw[e] at hd;refine⟨sr,z,e,λH1 s1=>?_⟩;cases z with
   |true=>exact ss ⟨sr.ext s1,d,ρ',hd,λv H' p=>q v H' (PostE.left (.of s1) p)⟩
   |false=>exact sQ ⟨sr.ext s1,d,ρ',hd,λv H' p=>q v H' (PostE.left (.of s1) p)⟩
end
def zu(i:Nat)(t:FS):FS:=λρ=>match oY i ρ with
 |some kvs=>t (ρ.set i (.ob (.dR kvs)))
 |none=>.no
section
variable {X:Cx}{c:Ct}{k:Kd}{st:Stmt}{t:FS}
theorem zd(i:Nat)(h:DS X c k st t):DS X c k st (zu i t):=λρ aa s σ H D I hq_=>by
 obtain⟨hid,sr,q⟩:=hq_;unfold zu at q;split at q
 ·rename_i kvs e
  obtain⟨a,us,a1,a2,a3,a4,a5⟩:=sr.dict e;obtain⟨z,y,xs,r,o,es,ep,g1,g2⟩:=(show ObjOk X.prog X.w H s.heap a (.dK us) from I.hok a _ a4)
  have new:ObjOk X.prog X.w (cb H a (.frz o (.dK us))) s.heap a (.frz o (.dK us)):=⟨g1,z,y,xs,r,o,es,ep,g1,g2⟩
  have I2:Inv X aa σ (cb H a (.frz o (.dK us))) {s with heap:=s.heap,toks:=s.toks}:=I.write (x:=a) (e:=a) (by rw[a4];trivial) (.inl rfl) (λb u _ hu=>hu) ⟨o,g1⟩ new;have sr0:SR X.K c hid (ρ.set i .no) σ H:=sr.forget (by simp) λj s' q=>by
   by_cases ej:j=i
   ·subst ej;rw[List.getElem?_set_self (List.getElem?_eq_some_iff.mp (gR e)).1] at q;cases q;exact .inl rfl
   ·rw[List.getElem?_set_ne (Ne.symm ej)] at q;exact .inr q
  have sr2:=sr0.reveal (u':=.frz o (.dK us)) a2 a3 λj a' ow w hat=>by
   have ej:j≠i:=λz=>by
    subst z;rw[List.getElem?_set_self (List.getElem?_eq_some_iff.mp (gR e)).1] at ow;exact ow
   rw[List.getElem?_set_ne (Ne.symm ej)] at ow;rcases hat with z|⟨w',hw'⟩
   ·subst z;exact sr.ap j i _ ej ow (by rw[gR e];trivial) w a1
   ·rw[a4] at hw';cases hw'
  have sr3:=sr2.mark (i:=i) (s:=.ob (.dR kvs)) ⟨a,a1,o,us,C5,a5.1,a5.2.mono (kL a2)⟩ id;rw[set_set] at sr3;exact h _ aa s σ _ D I2 ⟨gC hid a,sr3,q.mono (kL a2)⟩
 ·exact q.elim
end
def EZ(a:Addr)(o:Obj)(us:List (ba×V))(ys:List V):It:=⟨λi H=>H a=some (.frz o (.dK us))/\i<ys.length,λi H x H'=>H'=H/\ys[i]? =some x,λi H=>H a=some (.frz o (.dK us))/\i=ys.length⟩
theorem Ae {P:Program}{w:World}{K:W.Frag}{tg:Expr}(a it:Addr){o:Obj}{us:List (ba×V)}{es:Array DictEntry}{ep:Nat}{ys:List V}(hex:o.ExactDict)(hd:o.data=.dict es ep)(rv:Vals ys (es.toList.map (·.key))):
 Turn P w K tg (EZ a o us ys) [it] it (λi h=>h.IsKeyIter it a i es.size ep) where
 mem:=by simp
 obj:=λi h st b hb=>by
  have e:b=it:=by simpa using hb
  subst e;obtain⟨o,e,c,d⟩:=st;exact⟨o,e,λv z=>by rw[d] at z;cases z⟩
 keep:=λi h h' st k=>st.at λo e=>k it (by simp) o e
 item:=by
  intro X hP hw hK hc i aa s σ H E I hf st hg;subst hP hw hK;obtain⟨hH,hlt⟩:=hg;have hl:=rv.length;rw[List.length_map,Array.length_toList (xs:=es)] at hl;have hi:i<es.size:=by omega
  obtain⟨ho,_⟩:=(show ObjOk X.prog X.w H s.heap a (.frz o (.dK us)) from I.hok a _ hH)
  obtain⟨f0,f1,f2,f3,f4,f5⟩:=hf it (by simp);obtain⟨u,hu,ru⟩:=rv.get (i:=i) (x:=ys[i]) (List.getElem?_eq_getElem hlt);have hu':u=es[i].key:=by
   rw[List.getElem?_map,Array.getElem?_toList,Array.getElem?_eq_getElem hi] at hu;exact(Option.some.inj hu).symm
  refine wm st ⟨o,ho,hex,hd⟩ hi λh' st' sb=>?_
  have I1:Inv X aa σ H {s with heap:=h'}:=I.turned (t':=s.toks) (λb o hb e=>(sb.2 b hb).trans e) f0 f1 f3 f4 f5;obtain⟨o',e,c,d⟩:=id st';exact⟨_,rfl,tX (s:={s with heap:=h'}) e c d (by decide) ⟨ys[i],H,I1,by rw[<-hu'];exact ru,⟨rfl,List.getElem?_eq_getElem hlt⟩,st',λb hb=>(hf b hb).1⟩⟩
 done:=by
  intro X hP hw hK hc i aa s σ H E I hf st hg;subst hP hw hK;obtain⟨hH,rfl⟩:=hg;obtain⟨ho,_⟩:=(show ObjOk X.prog X.w H s.heap a (.frz o (.dK us)) from I.hok a _ hH)
  obtain⟨f0,f1,f2,f3,f4,f5⟩:=hf it (by simp);have hl:=rv.length;rw[List.length_map,Array.length_toList (xs:=es)] at hl;rw[hl] at st;exact zO (I.ok.hd hc) st ⟨o,ho,hex,hd⟩ λh' eb=>⟨rfl,I.turned (t':=s.toks) (λb o hb e=>eb b o hb e) f0 f1 f3 f4 f5⟩
 self:=λ_ _ _ _ _ st h=>wpAny_pyIter_keyiter st h
theorem mV {prog:Program}{w:World}: ∀ {es:List DictEntry} {us:List (ba×V)} {vs:List (ba×Value)},PySem.Pairs (aY prog w) es vs->KV us vs->Vals (us.map λu=>kV u.1) (es.map (·.key))
 |_,_,_,.nil,r=>by cases r;exact .nil
 |_,_,_,.cons h1 h2 hp,r=>by
  cases r with
  |cons r rs=>
   refine .cons ?_ (mV hp rs)
   dsimp only;rw[r.1];rcases bA h1 with⟨i,t,e1,e2⟩|⟨x,t,e1,e2⟩
   ·rw[e1,e2];exact⟨t,rfl⟩
   ·rw[e1,e2];exact⟨t,rfl⟩
def EK(td:TE):TI:=λσ H R=>td σ H λx H1=> ∃a o us,x=.ref a/\H1 a=some (.frz o (.dK us))/\R (EZ a o us (us.map λu=>kV u.1)) H1
theorem Bh {X:Cx}{tg l:Expr}{tl:TE}(hl:PE X l tl):PI X tg l (EK tl):=by
 intro aa s σ H R I h;refine cq (hl aa s σ H _ I h) λv s1 hq_=>?_
 obtain⟨x,H1,I1,r1,q1⟩:=hq_;obtain⟨a,o,us,e,hq,q⟩:=q1;subst e;cases r1;obtain⟨g0,z,lo,xs,r,o',es,ep,g1,g2,g3,g4,g5,g6⟩:=(show ObjOk X.prog X.w H1 s1.heap a (.frz o (.dK us)) from I1.hok a _ hq)
 rw[g0] at g1;cases g1;have rv:Vals (us.map λu=>kV u.1) (es.toList.map (·.key)):=mV g5 r;refine yd lo ⟨o,g0,g2,g3⟩ ?_
 refine⟨s1.heap.objs.size,[s1.heap.objs.size],_,_,H1,rfl,I1.kept (t':=s1.toks) λb o e=>Heap.get?_push_of_some _ e,Ae a _ g2 g3 rv,⟨_,Heap.get?_push_size _ rfl,rfl,rfl⟩,λb hb=>?_,q⟩;have e:b=s1.heap.objs.size:=by simpa using hb
 subst e;exact I1.fpOk (Nat.le_refl _) (I1.hok.fresh (Nat.le_refl _))
def nP:List (ba×D)->Option (List D)
 | []=>some []
 |(.inl k,_)::r=>(nP r).map (.int k:: ·)
 |_=>none
def nl(i:Nat):FA:=λρ=>(yS i ρ).bind nP
theorem my {K:W.Frag}{W:Hp}: ∀ {us:List (ba×V)} {kvs:List (ba×D)} {ds:List D},us.map (·.1)=kvs.map (·.1)->nP kvs=some ds->Reps K W (us.map λu=>kV u.1) ds
 | [],[],_,_,e=>by cases e;exact .nil
 |_::_,[],_,h,_=>by cases h
 | [],_::_,_,h,_=>by cases h
 |(k',v)::us,(k,d)::kvs,ds,h,e=>by
  rw[List.map_cons,List.map_cons] at h;injection h with h1 h2
  have h1:k'=k:=h1;subst h1;cases k' with
  |inr x=>cases e
  |inl n=>
   obtain⟨ds',e1,rfl⟩:=Option.map_eq_some_iff.mp (show(nP kvs).map (D.int n:: ·)=some ds from e);exact .cons .int (my h2 e1)
section
variable {X:Cx}{c:Ct}{py:Pos}{y:Str}{tg:Expr}
theorem zK(i:Nat)(hN:X.N[i]? =some y:=by rfl)(hv':nB X.env.scope y:=by first|exact Or.inl rfl|exact Or.inr (Or.inl rfl)|exact Or.inr (Or.inr rfl))(hd:(y==("__debug__":Str))=false:=by decide)(hcd:(y==("__classdict__":Str))=false:=by decide):
 Cn X c tg (.Name y py) (nl i):=λhid ρ=>PI.imp (Bh (pv i hN hv' hd hcd)) λσ H R hq_=>by
 obtain⟨sr,ds,e,q⟩:=hq_;obtain⟨kvs,e0,e1⟩:=Option.bind_eq_some_iff.mp e;obtain⟨a,a1,o,us,a2,a3,a4⟩:=sr.sl i _ (nQ e0);have hh:H a=some (.frz o (.dK us)):=di _ _ _ _ a2;refine⟨.ref a,a1,a,o,us,rfl,hh,?_⟩;have rr:=my (K:=X.K) (W:=vw H hid) a3 e1;have ll:=rr.length;refine q _ H (Same.refl _) ⟨λj d H2 hj s w=>?_,λH2 s w=>⟨s _ _ hh,ll.symm⟩⟩;obtain⟨v,h1,h2⟩:=rr.get hj;have hlt:j<(us.map λu=>kV u.1).length:=(List.getElem?_eq_some_iff.mp h1).1;refine⟨⟨s _ _ hh,hlt⟩,λx H' ⟨g1,g2⟩=>?_⟩;subst g1;rw[h1] at g2;cases g2;exact⟨Same.refl _,λhid' _ sw=>h2.mono sw⟩
end
section
variable {X:Cx}
def ju:List D->Option (List Bool)
 | []=>some []
 | .int b::r=>(ju r).map ((!decide (b=0)):: ·)
 |_=>none
theorem rC: ∀ {ds:List D} {bs:List Bool} {i:Nat} {d:D},ju ds=some bs->ds[i]? =some d-> ∃b:Int,d=.int b/\bs[i]? =some (!decide (b=0))
 | [],_,_,_,_,h=>by simp at h
 |x::r,bs,i,d,h,e=>by
  cases x with
  |int b=>
   unfold ju at h;cases e1:ju r with
   |none=>rw[e1] at h;cases h
   |some rs=>
    rw[e1] at h;cases h;cases i with
    |zero=>simp at e;subst e;exact⟨b,rfl,rfl⟩
    |succ i=>
     obtain⟨b',h1,h2⟩:=rC (i:=i) e1 (by simpa using e);exact⟨b',h1,by simpa using h2⟩
  |_=>cases h
theorem qU: ∀ {ds:List D} {bs:List Bool},ju ds=some bs->ds.length=bs.length
 | [],_,h=>by cases h;rfl
 |x::r,bs,h=>by
  cases x with
  |int b=>
   unfold ju at h;cases e1:ju r with
   |none=>rw[e1] at h;cases h
   |some rs=>rw[e1] at h;cases h;simp[qU e1]
  |_=>cases h
theorem vt {aa:List (Addr×Obj)}{σ:St}{H:Hp}{s:Shared}{a:Addr}{xs:List V}{ds:List D}{bs:List Bool}(I:Inv X aa σ H s)(h1:SqL X.K H a xs)(h2:Reps X.K H xs ds)(hb:ju ds=some bs)(hc:X.calm=true){E:Value->Shared->Prop}{R:Value->Shared->Prop}
 (hR: ∀(J:Addr) (s2:Shared) (its:Array Value) (hl:its.size=bs.length),Walks X.prog X.w X.A.in1 J [J,a] [J] its.size (λi v=>its[i]? =some v) (λi h=>h.IsListIter J a i/\h.IsList a its)->s2.heap.IsListIter J a 0->s2.heap.IsList a its->TruthOf X.prog X.w X.A.in1 (λi v=>its[i]? =some v) (λi=>bs.getD i false)->
   (∀h' tk,(∀b o,b∉ [J]->s2.heap.get? b=some o->h'.get? b=some o)->Inv X aa σ H {s2 with heap:=h',toks:=tk})->R (.ref J) s2):wpAny (model X.prog X.w) X.A.in1 (pyIter (.ref a)) R E s:=by
 obtain⟨its,rv,pl,hz⟩:=I.list h1;have l1:=rv.length;have l2:=h2.length;have l3:=qU hb;have hlt:a<s.heap.objs.size:=by obtain⟨o,n,e,_⟩:=pl;exact Heap.lt_size e
 refine wpAny_pyIter_list pl.isList (hR s.heap.objs.size _ its.toArray (by simp;omega) (Walks.list (A:=X.A.in1) (I.ok.hd hc) _ a (Nat.ne_of_lt hlt) its.toArray) ⟨_,Heap.get?_push_size _ rfl,rfl,rfl⟩ ?_ ?_ ?_)
 ·obtain⟨o,ho,q⟩:=pl.isList;exact⟨o,Heap.get?_push_of_some _ ho,q⟩
 ·intro i v s' Q E hv hq;have hv':its[i]? =some v:=by simpa using hv
  have hi:=(List.getElem?_eq_some_iff.mp hv').1;have ex:xs[i]? =some xs[i]:=List.getElem?_eq_getElem (by omega);obtain⟨u,e1,r1⟩:=rv.get ex;rw[hv'] at e1;cases e1;obtain⟨d,e2,r2⟩:=h2.get' ex;obtain⟨b,rfl,e3⟩:=rC hb e2;rcases hx:xs[i] with _|_|_|_|_|_|_|_<;>rw[hx] at r1 r2<;>cases r2
  obtain⟨tt,rfl⟩:=r1;have:bs.getD i false=(!decide (b=0)):=by simp[List.getD,e3]
  dsimp only at hq;rw[this] at hq;have e9:(b !=0)= !decide (b=0):=rfl;exact PySem.P.truthy_int (by rw[e9];exact hq)
 ·intro h' tk hk;refine I.kept λb o e=>hk b o (λhm=>?_) (Heap.get?_push_of_some _ e)
  have:b=s.heap.objs.size:=by simpa using hm
  exact absurd (this▸Heap.lt_size e) (Nat.lt_irrefl _)
theorem vE(hc:X.calm=true):fO X (.builtin "any") (λxs H Q=> ∃a ys ds bs,xs=[.ref a]/\SqL X.K H a ys/\Reps X.K H ys ds/\ju ds=some bs/\Q (.bl (bs.any id)) H):=by
 intro aa s σ H xs us Q I r h;obtain⟨a,ys,ds,bs,rfl,h1,h2,h3,q⟩:=h;obtain⟨u,rfl,rx⟩:=iS r;cases rx;refine call_any_walk (vt I h1 h2 h3 hc λJ s2 its hl W st1 st2 tr kp=>?_);refine⟨J,_,_,_,_,_,_,rfl,W,⟨st1,st2⟩,tr,λh' tk hk=>⟨.bl _,H,kp h' tk hk,rfl,?_⟩⟩;rw[hl,vT];exact q
def vA:List D->Option D
 | [.lst ds]=>(ju ds).map λbs=>.bl (bs.any id)
 |_=>none
theorem yQ:jl X.K .s (λxs H Q=> ∃a ys ds bs,xs=[.ref a]/\SqL X.K H a ys/\Reps X.K H ys ds/\ju ds=some bs/\Q (.bl (bs.any id)) H) vA:=by
 intro H hid vs ds d Q hf h r q;unfold vA at h;split at h
 ·rename_i zs
  cases e1:ju zs with
  |none=>rw[e1] at h;cases h
  |some bs=>
   rw[e1] at h;cases h;obtain⟨x,rfl,r1⟩:=Reps1.one r;obtain⟨a,xs,rfl,h1,h2⟩:=r1.lst;exact⟨a,xs,zs,bs,rfl,h1,h2.mono (di _ _),e1,q _ H (Same.refl _) .bl⟩
 ·cases h
end
set_option maxHeartbeats 4000000
def top(i:Nat):Stmt:=PySem.Challenge.pw_rookborders_k61_sums_parted.main.body.getD i (.Pass ⟨0,0,0,0⟩)
structure Bt(mg:Str->Option Value):Prop where
 b_ValueError:mg "ValueError"=none
 b_abs:mg "abs"=none
 b_all:mg "all"=none
 b_any:mg "any"=none
 b_bool:mg "bool"=none
 b_dict:mg "dict"=none
 b_int:mg "int"=none
 b_isinstance:mg "isinstance"=none
 b_len:mg "len"=none
 b_list:mg "list"=none
 b_min:mg "min"=none
 b_range:mg "range"=none
 b_sorted:mg "sorted"=none
 b_tuple:mg "tuple"=none
 b_zip:mg "zip"=none
def exN:List Str:=["RookError","NoSquare","NoMove","TooMany","NoPart","NotOne","NoPaper","NoText","NoRow","NoStep"]
structure Et(K:W.Frag)(mg:Str->Option Value)(kx0 kx1 kx2 kx3 kx4 kx5 kx6 kx7 kx8 kx9:Addr):Prop where
 t:ExTab K mg kx0 [("RookError",kx0),("NoSquare",kx1),("NoMove",kx2),("TooMany",kx3),("NoPart",kx4),("NotOne",kx5),("NoPaper",kx6),("NoText",kx7),("NoRow",kx8),("NoStep",kx9)]
 o_NoPart:W.excIn K kx4 pN "ValueError.__new__"=true
theorem D5:(["tuples","found","?power","many","power"]:List Str).Nodup:=by decide+kernel
theorem CH:(["one","other","power","many"]:List Str).Nodup:=by decide+kernel
theorem yI:(["one","other","power","many","raised","often"]:List Str).Nodup:=by decide+kernel
theorem ED:(["_law_found","?_law_one","_law_one"]:List Str).Nodup:=by decide+kernel
theorem CI:(["_law_found","?_law_one","_law_one","_law_two"]:List Str).Nodup:=by decide+kernel
theorem Ei:(["_law_tuples","_law_many_here","?_law_power","_law_number","_law_power"]:List Str).Nodup:=by decide+kernel
theorem CA:(["_law_one","_law_other","_law_found","_law_power","_law_number","_law_more","_law_often"]:List Str).Nodup:=by decide+kernel
theorem En:(["_law_one","_law_other","_law_left","_law_low","_law_first","_law_found","_law_shift","_law_number","?_law_power","_law_often","_law_power"]:List Str).Nodup:=by decide+kernel
theorem yP:(["_law_bag_here","_law_found","?_law_power","_law_k","_law_low","_law_far","_law_number","_law_one","_law_power","_law_many_here"]:List Str).Nodup:=by decide+kernel
section
variable {P:Program}{w:World}{K:W.Frag}{mg:Str->Option Value}{base:Heap}{kx0 kx1 kx2 kx3 kx4 kx5 kx6 kx7 kx8 kx9:Addr}
abbrev jx:Stmt:=top 12
abbrev ii:Stmt:=top 13
abbrev g8:Stmt:=top 14
abbrev fY:Stmt:=top 15
abbrev dC:Stmt:=top 17
abbrev eM:Stmt:=top 18
abbrev dD:Stmt:=top 19
abbrev cT:Stmt:=top 20
abbrev cH:Stmt:=top 21
abbrev cE:Stmt:=top 22
abbrev ck:Stmt:=top 23
abbrev dJ:Stmt:=top 24
abbrev dL:Stmt:=top 25
abbrev cI:Stmt:=top 26
abbrev cU:Stmt:=top 27
abbrev cV:Stmt:=top 28
abbrev bP:Stmt:=top 29
abbrev dG:Stmt:=top 30
abbrev jh:Stmt:=top 31
theorem sc_tidy:FnScope ["tuples","found","power","many"] ["tuples"] (au jx):=⟨rfl,rfl,rfl,by decide+kernel,rfl,by decide+kernel,by decide+kernel⟩
def rQ:FS:=
 aJ (uv 1)
 (aJ (fE (bi (df (ai 0))) (gT 2 (cj (gN 2) (cj (gN 3) (fz)))) (iE 1 (ai 2) (ao aO (fy 1 (ai 2) (am (.int 0))) (ai 3))))
 (aV (bL 1 (df (qX 1)) (gN 4) (bH (ao jf (rn 1 (ai 4)) (am (.int 0)))) (bZ (ae (ai 4) (ae (rn 1 (ai 4)) (ag)))))))
def kG:List D->Option D:=j2 .n 4 rQ
theorem Bd(B:Bt mg)(F:Df K mg "tidy" jx ["tuples"])(ET:Et K mg kx0 kx1 kx2 kx3 kx4 kx5 kx6 kx7 kx8 kx9):Cl P w K mg base 1 "tidy" ["tuples"] (gy K .n 1 kG):=by
 refine da (k:=0) F sc_tidy (by decide) rfl λ_ cdv A outer s H hid E hr=>?_
 exact(av (tQ 1 sc_tidy.nd)
  (av (fZ PassesOwn.never rfl (DIp.e (dA (aj 0))) (cs (n:=2) rfl (aL (aC 2 sc_tidy.nd) (aL (aC 3 sc_tidy.nd) cr))) (aB (o7 1 (il hr) (aj 2) (cB (lw 1 (il hr) (aj 2) ah ⟨rfl,rfl,rfl,rfl⟩) (aj 3)))))
  (aB (aZ (gh (N':=["tuples","found","?power","many","power"]) rfl (cP (Nat.le_of_ble_eq_true rfl)) (DIp.b (dA (DP.toS (qF 1 rfl B.b_sorted)))) (λ_ _ _ _=>(aC 4 D5)) (λ_ _ _ _=>(uL (bO (fw hr.units) iu (pz 1 (il hr) (aj 4) (λ_ _=>rfl)) ah (bF _)))) (λ_ _ _ _=>(cW (af (aj 4) (af (pz 1 (il hr) (aj 4) (λ_ _=>rfl)) ak)))))))))
theorem yp:FnScope ["one","other"] ["one","other"] (au ii):=⟨rfl,rfl,rfl,by decide+kernel,rfl,by decide+kernel,by decide+kernel⟩
def oN:FS:=
 aV (aA (nF 1 kG) (ae (ao ip (ai 0) (bL 2 (df (ai 1)) (gT 2 (cj (gN 2) (cj (gN 3) (fz)))) (dP) (bZ (ae (ai 2) (ae (cZ (ai 3)) (ag)))))) (ag)))
def jb:List D->Option D:=j2 .n 2 oN
theorem zW(B:Bt mg)(F:Df K mg "minus" ii ["one","other"])(ET:Et K mg kx0 kx1 kx2 kx3 kx4 kx5 kx6 kx7 kx8 kx9)(j5:Cl P w K mg base 1 "tidy" ["tuples"] (gy K .n 1 kG)):Cl P w K mg base 2 "minus" ["one","other"] (gy K .n 2 jb):=by
 refine da (k:=1) F yp (by decide) rfl λ_ cdv A outer s H hid E hr=>?_
 exact(aB (aZ (eK j5 (hr.mono (by decide)) (af (DP.toS (jF (aj 0) (gh (N':=["one","other","power","many"]) rfl (jr (bg (cP (Nat.le_of_ble_eq_true rfl)) (bg (cP (Nat.le_of_ble_eq_true rfl)) eT))) (DIp.b (dA (aj 1))) (λ_ _ _ _=>(cs (n:=2) rfl (aL (aC 2 CH) (aL (aC 3 CH) cr)))) (λ_ _ _ _=>fA) (λ_ _ _ _=>(cW (af (aj 2) (af (dB (aj 3)) ak))))))) ak))))
theorem wX:FnScope ["one","other"] ["one","other"] (au g8):=⟨rfl,rfl,rfl,by decide+kernel,rfl,by decide+kernel,by decide+kernel⟩
def oz:FS:=
 aV (aA (nF 1 kG) (ae (vP 4 (df (ai 0)) (gT 2 (cj (gN 2) (cj (gN 3) (fz)))) (dP) (df (ai 1)) (gT 2 (cj (gN 4) (cj (gN 5) (fz)))) (dP) (bZ (ae (ao aO (ai 2) (ai 4)) (ae (ao be (ai 3) (ai 5)) (ag))))) (ag)))
def eW:List D->Option D:=j2 .n 2 oz
theorem yU(B:Bt mg)(F:Df K mg "times" g8 ["one","other"])(ET:Et K mg kx0 kx1 kx2 kx3 kx4 kx5 kx6 kx7 kx8 kx9)(j5:Cl P w K mg base 1 "tidy" ["tuples"] (gy K .n 1 kG)):Cl P w K mg base 2 "times" ["one","other"] (gy K .n 2 eW):=by
 refine da (k:=1) F wX (by decide) rfl λ_ cdv A outer s H hid E hr=>?_
 exact(aB (aZ (eK j5 (hr.mono (by decide)) (af (DP.toS (yb (N':=["one","other","power","many","raised","often"]) rfl 4 (jr (bg (cP (Nat.le_of_ble_eq_true rfl)) (bg (cP (Nat.le_of_ble_eq_true rfl)) eT))) (DN (rL (C3 (Nat.le_of_ble_eq_true rfl)) (rL (C3 (Nat.le_of_ble_eq_true rfl)) yD))) (jr (bg (cP (Nat.le_of_ble_eq_true rfl)) (bg (cP (Nat.le_of_ble_eq_true rfl)) eT))) (DIp.b (dA (aj 0))) (λ_ _ _ _=>(cs (n:=2) rfl (aL (aC 2 yI) (aL (aC 3 yI) cr)))) (λ_ _ _ _=>fA) (λ_ _ _ _=>(dA (aj 1))) (λ_ _ _ _=>(cs (n:=2) rfl (aL (aC 4 yI) (aL (aC 5 yI) cr)))) (λ_ _ _ _=>fA) (λ_ _ _ _=>(cW (af (cB (aj 2) (aj 4)) (af (eA (aj 3) (aj 5)) ak)))))) ak))))
theorem sc_parted:FnScope ["one","other","power","many","left","found","top","often","piece"] ["one","other"] (au fY):=⟨rfl,rfl,rfl,by decide+kernel,rfl,by decide+kernel,by decide+kernel⟩
def fo:FX:=
 jE (qQ (fq (gT 2 (cj (gN 2) (cj (gN 3) (fz)))) (pu (ao aW (ai 1) (cZ (am (.int 1)))))))
 (jE (qQ (bK 4 (ai 0)))
 (jE (qQ (fG 5 (aX (ag))))
 (jE (pJ (eJ (ai 4)) (jE (qQ (fq (gT 2 (cj (gN 6) (cj (gN 7) (fz)))) (pu (ao aW (ai 4) (cZ (am (.int 1)))))))
 (jE (Ar (lj (bH (ao yv (ao bD (ai 6) (ai 2)) (ao bD (ao aW (ao aW (ai 0) (am (.int 0))) (am (.int 0))) (ao aW (ao aW (ai 1) (am (.int 0))) (am (.int 0)))))) (bH (ao jf (ao iq (ai 7) (ai 3)) (am (.int 0))))) (xb ⟨"NoPart",0⟩ (ae (am (.str "no sum times the other one is the one")) (ag))) (qQ skip))
 (qQ (aJ (bK 8 (aX (ae (bZ (ae (ao bD (ai 6) (ai 2)) (ae (ao gm (ai 7) (ai 3)) (ag)))) (ag))))
 (aJ (fG 5 (ao ip (ai 8) (iz 5)))
 (bK 4 (aA (nF 2 jb) (ae (ai 4) (ae (aA (nF 2 eW) (ae (ai 8) (ae (ai 1) (ag)))) (ag)))))))))) 250)
 (qQ (vX 5)))))
def cA:List D->Option (Except Ex D):=Cb .n 9 fo
theorem wB(B:Bt mg)(F:Df K mg "parted" fY ["one","other"])(ET:Et K mg kx0 kx1 kx2 kx3 kx4 kx5 kx6 kx7 kx8 kx9)(pE:Cl P w K mg base 2 "minus" ["one","other"] (gy K .n 2 jb))(i4:Cl P w K mg base 2 "times" ["one","other"] (gy K .n 2 eW)):ClX P w K mg base 3 "parted" ["one","other"] (CJ K .n 2 cA):=by
 refine yo (k:=2) F sc_parted (by decide) rfl λ_ cdv A outer s H hid E hr=>?_
 exact(fJ (jV (mD (DP.ef (bC aQ bn (aj 1) (dB ah) (λ_ _=>rfl))) (cs (n:=2) rfl (aL (aC 2 sc_parted.nd) (aL (aC 3 sc_parted.nd) cr)))))
  (fJ (jV (cw 4 sc_parted.nd (aj 0)))
  (fJ (jV (gq 5 sc_parted.nd (br ak)))
  (fJ (vW 250 PassesOwn.leaving (DT.nox (gb (aj 4))) (fJ (jV (mD (DP.ef (bC aQ bn (aj 4) (dB ah) (λ_ _=>rfl))) (cs (n:=2) rfl (aL (aC 6 sc_parted.nd) (aL (aC 7 sc_parted.nd) cr)))))
  (fJ (A4 (DT.nox (DW.dt (jM (bO xD lV (gE (aj 6) (aj 2)) (gE (bC aQ bn (bC aQ bn (aj 0) ah (λ_ _=>rfl)) ah (λ_ _=>rfl)) (bC aQ bn (bC aQ bn (aj 1) ah (λ_ _=>rfl)) ah (λ_ _=>rfl))) (bF _)) (kf (bO (fw hr.units) iu (uC (aj 7) (aj 3)) ah (bF _)))))) (mG (vq (n:=0) (ET.t.row _ (List.Mem.tail _ (List.Mem.tail _ (List.Mem.tail _ (List.Mem.tail _ (List.Mem.head _)))))).mg (ET.t.row _ (List.Mem.tail _ (List.Mem.tail _ (List.Mem.tail _ (List.Mem.tail _ (List.Mem.head _)))))).ns ET.o_NoPart hr.hd (DA.nox (af A7 ak)))) wW)
  (nz (av (cw 8 sc_parted.nd (DP.toS (br (af (cW (af (gE (aj 6) (aj 2)) (af (oW (aj 7) (aj 3)) ak))) ak iT))))
  (av (gq 5 sc_parted.nd (jF (aj 8) (fQ 5)))
  (aB (cw 4 sc_parted.nd (DP.toS (eK pE (hr.mono (by decide)) (af (aj 4) (af (DP.toS (eK i4 (hr.mono (by decide)) (af (aj 8) (af (aj 1) ak)))) ak))))))))))))
  (nz (aB (uF 5)))))))
theorem qk:FnScope ["_law_script","_law_k"] ["_law_script","_law_k"] (au dC):=⟨rfl,rfl,rfl,by decide+kernel,rfl,by decide+kernel,by decide+kernel⟩
def tE:FS:=
 aJ (fI (bH (ao yv (ai 1) (aA j9 (ae (ai 0) (ag))))) (aV (ao aW (ai 0) (ai 1))) (skip))
 (aV (am (.int 0)))
def jC:List D->Option D:=j2 .s 2 tE
theorem sx(B:Bt mg)(F:Df K mg "_law_cell" dC ["_law_script","_law_k"])(ET:Et K mg kx0 kx1 kx2 kx3 kx4 kx5 kx6 kx7 kx8 kx9):Cl P w K mg base 1 "_law_cell" ["_law_script","_law_k"] (gy K .s 2 jC):=by
 refine da (k:=0) F qk (by decide) rfl λ_ cdv A outer s H hid E hr=>?_
 exact(av (dW (bO xD lV (aj 1) (fm h8 tm B.b_len (cu (aj 0) dZ) (hv:=by kernel_rfl)) (bF _)) (aB (aZ (bC aQ bn (aj 0) (aj 1) (λ_ _=>rfl)))) ci)
  (aB (aZ ah)))
theorem sc_law_bag:FnScope ["_law_script","_law_at","_law_cell_here","_law_mix","_law_k"] ["_law_script","_law_at"] (au eM):=⟨rfl,rfl,rfl,by decide+kernel,rfl,by decide+kernel,by decide+kernel⟩
def vy:FS:=
 aJ (bK 2 (ao cO (aA qI (ae (aA (nF 2 jC) (ae (ai 0) (ae (ai 1) (ag)))) (ag))) (ao be (ao be (ao eC (am (.int 10)) (am (.int 60))) (ao eC (am (.int 10)) (am (.int 60)))) (ao eC (am (.int 10)) (am (.int 60))))))
 (aJ (fI (bH (ao DK (ai 2) (ao eC (am (.int 10)) (am (.int 18))))) (aV (aX (ae (ai 2) (ae (am (.int 0)) (ag))))) (skip))
 (aJ (bK 3 (ao cO (ao aO (ao aO (ai 2) (ao be (am (.int 7919)) (ai 1))) (am (.int 17))) (am (.int 2147483647))))
 (aJ (fE (bi (ji (ae (aA mz (ae (aA j9 (ae (ai 0) (ag))) (ae (am (.int 9)) (ag)))) (ag)))) (gN 4) (bK 3 (ao cO (ao aO (ao aO (ao eC (ai 3) (am (.int 5))) (ao cO (ao aW (ai 0) (ai 4)) (am (.int 2147483629)))) (ao be (am (.int 31)) (ai 4))) (am (.int 2147483647)))))
 (aV (aX (ae (ai 3) (ae (am (.int 1)) (ag))))))))
def i9:List D->Option D:=j2 .n 5 vy
theorem vK(B:Bt mg)(F:Df K mg "_law_bag" eM ["_law_script","_law_at"])(ET:Et K mg kx0 kx1 kx2 kx3 kx4 kx5 kx6 kx7 kx8 kx9)(jB:Cl P w K mg base 1 "_law_cell" ["_law_script","_law_k"] (gy K .s 2 jC)):Cl P w K mg base 2 "_law_bag" ["_law_script","_law_at"] (gy K .n 2 i9):=by
 refine da (k:=1) F sc_law_bag (by decide) rfl λ_ cdv A outer s H hid E hr=>?_
 exact(av (cw 2 sc_law_bag.nd (hW (fm xO BK B.b_abs (cu (eK jB (hr.mono (by decide)) (af (aj 0) (af (aj 1) ak))) dZ) (hv:=by kernel_rfl)) (eA (eA (j7 ah ah) (j7 ah ah)) (j7 ah ah))))
  (av (dW (bO Cv lV (aj 2) (j7 ah ah) (bF _)) (aB (aZ (br (af (aj 2) (af ah ak))))) ci)
  (av (cw 3 sc_law_bag.nd (hW (cB (cB (aj 2) (eA ah (aj 1))) ah) ah))
  (av (fZ PassesOwn.never rfl (DIp.e (jn B.b_range (af (fm (vb rfl) Ab B.b_min (cu (fm h8 tm B.b_len (cu (aj 0) dZ) (hv:=by kernel_rfl)) (cu ah dZ)) (hv:=by kernel_rfl)) ak))) (aC 4 sc_law_bag.nd) (aB (cw 3 sc_law_bag.nd (hW (cB (cB (j7 (aj 3) ah) (hW (bC aQ bn (aj 0) (aj 4) (λ_ _=>rfl)) ah)) (eA ah (aj 4))) ah))))
  (aB (aZ (br (af (aj 3) (af ah ak)))))))))
theorem sc_law_take:FnScope ["_law_bag_here","_law_many_here","_law_digit"] ["_law_bag_here","_law_many_here"] (au dD):=⟨rfl,rfl,rfl,by decide+kernel,rfl,by decide+kernel,by decide+kernel⟩
def tw:FS:=
 aJ (fI (bH (ao nZ (ao aW (iz 0) (am (.int 1))) (am (.int 0)))) (aJ (bK 2 (ao cO (ao aW (iz 0) (am (.int 0))) (ai 1)))
 (aJ (fq (iL 0 (am (.int 0))) (pu (ao im (ao aW (iz 0) (am (.int 0))) (ai 1))))
 (aV (ai 2)))) (skip))
 (aJ (fq (iL 0 (am (.int 0))) (pu (ao cO (ao aO (ao aO (ao eC (ao aW (iz 0) (am (.int 0))) (am (.int 5))) (ao be (am (.int 48271)) (ao aW (iz 0) (am (.int 1))))) (am (.int 11))) (am (.int 2147483647)))))
 (aJ (fq (iL 0 (am (.int 1))) (pu (ao aO (ao aW (iz 0) (am (.int 1))) (am (.int 1)))))
 (aV (ao cO (ao im (ao cO (ao be (ao aW (iz 0) (am (.int 0))) (am (.int 69621))) (am (.int 2147483629))) (am (.int 8))) (ai 1)))))
def aq:List D->List D->Option (D×List D):=v9 .s 3 tw
theorem tq(B:Bt mg)(F:Df K mg "_law_take" dD ["_law_bag_here","_law_many_here"])(ET:Et K mg kx0 kx1 kx2 kx3 kx4 kx5 kx6 kx7 kx8 kx9):Cl P w K mg base 1 "_law_take" ["_law_bag_here","_law_many_here"] (rO K .s 1 aq):=by
 refine o6 (k:=0) F sc_law_take (by decide) rfl λ_ cdv A outer s H hid a E hr=>?_
 exact(av (dW (bO (mk hr.units) p9 (bC aQ bn (fQ 0) ah (λ_ _=>rfl)) ah (bF _)) (av (cw 2 sc_law_take.nd (hW (bC aQ bn (fQ 0) ah (λ_ _=>rfl)) (aj 1)))
  (av (rY (DP.ef (og (bC aQ bn (fQ 0) ah (λ_ _=>rfl)) (aj 1))) (oD 0 ah))
  (aB (aZ (aj 2))))) ci)
  (av (rY (DP.ef (hW (cB (cB (j7 (bC aQ bn (fQ 0) ah (λ_ _=>rfl)) ah) (eA ah (bC aQ bn (fQ 0) ah (λ_ _=>rfl)))) ah) ah)) (oD 0 ah))
  (av (rY (DP.ef (cB (bC aQ bn (fQ 0) ah (λ_ _=>rfl)) ah)) (oD 0 ah))
  (aB (aZ (hW (og (hW (eA (bC aQ bn (fQ 0) ah (λ_ _=>rfl)) ah) ah) ah) (aj 1)))))))
theorem oj:FnScope ["_law_thing"] ["_law_thing"] (au cT):=⟨rfl,rfl,rfl,by decide+kernel,rfl,by decide+kernel,by decide+kernel⟩
def qq:FS:=
 aV (tz (jL (bH (m8 "int" (ai 0))) (bH (tz (eD (bH (m8 "bool" (ai 0))))))))
def gj:List D->Option D:=j2 .s 1 qq
theorem pX(B:Bt mg)(F:Df K mg "_law_whole" cT ["_law_thing"])(ET:Et K mg kx0 kx1 kx2 kx3 kx4 kx5 kx6 kx7 kx8 kx9):Cl P w K mg base 1 "_law_whole" ["_law_thing"] (gy K .s 1 gj):=by
 refine da (k:=0) F oj (by decide) rfl λ_ cdv A outer s H hid E hr=>?_
 exact(aB (aZ (yg (pq "int" A2 (aj 0) B.b_isinstance B.b_int) (xf (xG (pq "bool" zH (aj 0) B.b_isinstance B.b_bool))))))
theorem sc_law_is_sum:FnScope ["_law_found","_law_one"] ["_law_found"] (au cH):=⟨rfl,rfl,rfl,by decide+kernel,rfl,by decide+kernel,by decide+kernel⟩
def oF:FS:=
 aJ (fI (eD (eJ (m8 "list" (ai 0)))) (aV (am (.bl false))) (skip))
 (aJ (fE (bi (df (ai 0))) (gN 1) (fI (lj (eD (eJ (m8 "tuple" (ai 1)))) (lj (bH (ao jf (aA j9 (ae (ai 1) (ag))) (am (.int 2)))) (lj (eD (eJ (aA (nF 1 gj) (ae (ao aW (ai 1) (am (.int 0))) (ag))))) (eD (eJ (aA (nF 1 gj) (ae (ao aW (ai 1) (am (.int 1))) (ag)))))))) (aV (am (.bl false))) (skip)))
 (aV (tz (jL (bH (aA tH (ae (bL 1 (df (ai 0)) (gN 2) (dP) (ao jf (ao aW (ai 2) (am (.int 1))) (am (.int 0)))) (ag)))) (bH (aA tH (ae (bL 2 (sV (ai 0) (mP (ai 0) (xW (am (.int 1))) yy)) (gT 2 (cj (gN 2) (cj (gN 3) (fz)))) (dP) (ao yv (ao aW (ai 2) (am (.int 0))) (ao aW (ai 3) (am (.int 0))))) (ag))))))))
def dU:List D->Option D:=j2 .s 2 oF
theorem ou(B:Bt mg)(F:Df K mg "_law_is_sum" cH ["_law_found"])(ET:Et K mg kx0 kx1 kx2 kx3 kx4 kx5 kx6 kx7 kx8 kx9)(gp:Cl P w K mg base 1 "_law_whole" ["_law_thing"] (gy K .s 1 gj)):Cl P w K mg base 2 "_law_is_sum" ["_law_found"] (gy K .s 1 dU):=by
 refine da (k:=1) F sc_law_is_sum (by decide) rfl λ_ cdv A outer s H hid E hr=>?_
 exact(av (dW (gw (gb (pq "list" zS (aj 0) B.b_isinstance B.b_list))) (aB (aZ iV)) ci)
  (av (fZ PassesOwn.never rfl (DIp.e (dA (aj 0))) (aC 1 sc_law_is_sum.nd) (aB (dW (DW.dt (jM (gw (gb (pq "tuple" wN (aj 1) B.b_isinstance B.b_tuple))) (jM (bO (fw hr.units) iu (fm h8 tm B.b_len (cu (aj 1) dZ) (hv:=by kernel_rfl)) ah (bF _)) (jM (gw (gb (eK gp (hr.mono (by decide)) (af (bC aQ bn (aj 1) ah (λ_ _=>rfl)) ak)))) (kf (gw (gb (eK gp (hr.mono (by decide)) (af (bC aQ bn (aj 1) ah (λ_ _=>rfl)) ak))))))))) (aB (aZ iV)) ci)))
  (aB (aZ (yg (fm (pZ rfl) xM B.b_all (cu (gh (N':=["_law_found","?_law_one","_law_one"]) rfl (cP (Nat.le_of_ble_eq_true rfl)) (DIp.b (dA (aj 0))) (λ_ _ _ _=>(aC 2 ED)) (λ_ _ _ _=>fA) (λ_ _ _ _=>(xB (fw hr.units) iu (bC aQ bn (aj 2) ah (λ_ _=>rfl)) ah (bF _)))) dZ) (hv:=by kernel_rfl)) (xf (fm (pZ rfl) xM B.b_all (cu (gh (N':=["_law_found","?_law_one","_law_one","_law_two"]) rfl (jr (bg (cP (Nat.le_of_ble_eq_true rfl)) (bg (cP (Nat.le_of_ble_eq_true rfl)) eT))) (DIp.b (yA (aj 0) (DP.toS (wu (aj 0) (tW ah) tL)) B.b_zip)) (λ_ _ _ _=>(cs (n:=2) rfl (aL (aC 2 CI) (aL (aC 3 CI) cr)))) (λ_ _ _ _=>fA) (λ_ _ _ _=>(xB xD lV (bC aQ bn (aj 2) ah (λ_ _=>rfl)) (bC aQ bn (aj 3) ah (λ_ _=>rfl)) (bF _)))) dZ) (hv:=by kernel_rfl))))))))
theorem sc_law_summed:FnScope ["_law_tuples","_law_many_here","_law_power","_law_number"] ["_law_tuples"] (au cE):=⟨rfl,rfl,rfl,by decide+kernel,rfl,by decide+kernel,by decide+kernel⟩
def pk:FS:=
 aJ (uv 1)
 (aJ (fE (bi (df (ai 0))) (gT 2 (cj (gN 2) (cj (gN 3) (fz)))) (iE 1 (ai 2) (ao aO (fy 1 (ai 2) (am (.int 0))) (ai 3))))
 (aV (bL 1 (df (qX 1)) (gN 4) (bH (ao jf (rn 1 (ai 4)) (am (.int 0)))) (bZ (ae (ai 4) (ae (rn 1 (ai 4)) (ag)))))))
def bh:List D->Option D:=j2 .n 4 pk
theorem n9(B:Bt mg)(F:Df K mg "_law_summed" cE ["_law_tuples"])(ET:Et K mg kx0 kx1 kx2 kx3 kx4 kx5 kx6 kx7 kx8 kx9):Cl P w K mg base 1 "_law_summed" ["_law_tuples"] (gy K .n 1 bh):=by
 refine da (k:=0) F sc_law_summed (by decide) rfl λ_ cdv A outer s H hid E hr=>?_
 exact(av (tQ 1 sc_law_summed.nd)
  (av (fZ PassesOwn.never rfl (DIp.e (dA (aj 0))) (cs (n:=2) rfl (aL (aC 2 sc_law_summed.nd) (aL (aC 3 sc_law_summed.nd) cr))) (aB (o7 1 (il hr) (aj 2) (cB (lw 1 (il hr) (aj 2) ah ⟨rfl,rfl,rfl,rfl⟩) (aj 3)))))
  (aB (aZ (gh (N':=["_law_tuples","_law_many_here","?_law_power","_law_number","_law_power"]) rfl (cP (Nat.le_of_ble_eq_true rfl)) (DIp.b (dA (DP.toS (qF 1 rfl B.b_sorted)))) (λ_ _ _ _=>(aC 4 Ei)) (λ_ _ _ _=>(uL (bO (fw hr.units) iu (pz 1 (il hr) (aj 4) (λ_ _=>rfl)) ah (bF _)))) (λ_ _ _ _=>(cW (af (aj 4) (af (pz 1 (il hr) (aj 4) (λ_ _=>rfl)) ak)))))))))
theorem sc_law_product:FnScope ["_law_one","_law_other","_law_found","_law_power","_law_number"] ["_law_one","_law_other"] (au ck):=⟨rfl,rfl,rfl,by decide+kernel,rfl,by decide+kernel,by decide+kernel⟩
def gx:FS:=
 aJ (fG 2 (aX (ag)))
 (aJ (fE (bi (df (ai 0))) (gT 2 (cj (gN 3) (cj (gN 4) (fz)))) (de (se 2 (bL 2 (df (ai 1)) (gT 2 (cj (gN 5) (cj (gN 6) (fz)))) (dP) (bZ (ae (ao aO (ai 3) (ai 5)) (ae (ao be (ai 4) (ai 6)) (ag))))))))
 ((λρ=>(aV (aA (nF 1 bh) (ae (ai 2) (ag)))) (ku 2 ρ))))
def cL:List D->Option D:=j2 .n 5 gx
theorem ng(B:Bt mg)(F:Df K mg "_law_product" ck ["_law_one","_law_other"])(ET:Et K mg kx0 kx1 kx2 kx3 kx4 kx5 kx6 kx7 kx8 kx9)(bJ:Cl P w K mg base 1 "_law_summed" ["_law_tuples"] (gy K .n 1 bh)):Cl P w K mg base 2 "_law_product" ["_law_one","_law_other"] (gy K .n 2 cL):=by
 refine da (k:=1) F sc_law_product (by decide) rfl λ_ cdv A outer s H hid E hr=>?_
 exact(av (gq 2 sc_law_product.nd (br ak))
  (av (fZ PassesOwn.never rfl (DIp.e (dA (aj 0))) (cs (n:=2) rfl (aL (aC 3 sc_law_product.nd) (aL (aC 4 sc_law_product.nd) cr))) (aB (jG (Ak 2 (gh (N':=["_law_one","_law_other","_law_found","_law_power","_law_number","_law_more","_law_often"]) rfl (jr (bg (cP (Nat.le_of_ble_eq_true rfl)) (bg (cP (Nat.le_of_ble_eq_true rfl)) eT))) (DIp.b (dA (aj 1))) (λ_ _ _ _=>(cs (n:=2) rfl (aL (aC 5 CA) (aL (aC 6 CA) cr)))) (λ_ _ _ _=>fA) (λ_ _ _ _=>(cW (af (cB (aj 3) (aj 5)) (af (eA (aj 4) (aj 6)) ak)))))))))
  (aB (pB 2 (aZ (eK bJ (hr.mono (by decide)) (af (aj 2) ak)))))))
theorem sc_law_kind:FnScope ["_law_e","_law_marks"] ["_law_e"] (au dJ):=⟨rfl,rfl,rfl,by decide+kernel,rfl,by decide+kernel,by decide+kernel⟩
def sE:FS:=
 aJ (bK 1 (aX (ae (lQ 0 exN ["NoSquare"]) (ae (lQ 0 exN ["NoMove"]) (ae (lQ 0 exN ["TooMany"]) (ae (lQ 0 exN ["NoPart"]) (ag)))))))
 (aJ (bK 1 (ao ip (ai 1) (aX (ae (lQ 0 exN ["NotOne"]) (ae (lQ 0 exN ["NoPaper"]) (ae (lQ 0 exN ["NoText"]) (ae (lQ 0 exN ["NoRow"]) (ag))))))))
 (aJ (bK 1 (ao ip (ai 1) (aX (ae (lQ 0 exN ["NoStep"]) (ag)))))
 (aJ (fI (lj (bH (ao jf (ao wZ (ai 1) (am (.bl true))) (am (.int 1)))) (eD (eJ (BH 0 exN)))) (aV (cZ (am (.int 1)))) (skip))
 (aV (ao xS (ai 1) (am (.bl true)))))))
def dH:Ex->Option D:=Ez 2 sE
theorem sZ(B:Bt mg)(F:Df K mg "_law_kind" dJ ["_law_e"])(ET:Et K mg kx0 kx1 kx2 kx3 kx4 kx5 kx6 kx7 kx8 kx9):ClU P w K mg base 1 "_law_kind" ["_law_e"] (Cp K .s dH):=by
 refine Aa (k:=0) F sc_law_kind λ_ cdv A outer s H hid E hr=>?_
 exact(av (cw 1 sc_law_kind.nd (DP.toS (br (af (fF ET.t 0 rfl (List.Mem.tail _ (List.Mem.head _)) B.b_isinstance) (af (fF ET.t 0 rfl (List.Mem.tail _ (List.Mem.tail _ (List.Mem.head _))) B.b_isinstance) (af (fF ET.t 0 rfl (List.Mem.tail _ (List.Mem.tail _ (List.Mem.tail _ (List.Mem.head _)))) B.b_isinstance) (af (fF ET.t 0 rfl (List.Mem.tail _ (List.Mem.tail _ (List.Mem.tail _ (List.Mem.tail _ (List.Mem.head _))))) B.b_isinstance) ak)))))))
  (av (cw 1 sc_law_kind.nd (DP.toS (jF (aj 1) (br (af (fF ET.t 0 rfl (List.Mem.tail _ (List.Mem.tail _ (List.Mem.tail _ (List.Mem.tail _ (List.Mem.tail _ (List.Mem.head _)))))) B.b_isinstance) (af (fF ET.t 0 rfl (List.Mem.tail _ (List.Mem.tail _ (List.Mem.tail _ (List.Mem.tail _ (List.Mem.tail _ (List.Mem.tail _ (List.Mem.head _))))))) B.b_isinstance) (af (fF ET.t 0 rfl (List.Mem.tail _ (List.Mem.tail _ (List.Mem.tail _ (List.Mem.tail _ (List.Mem.tail _ (List.Mem.tail _ (List.Mem.tail _ (List.Mem.head _)))))))) B.b_isinstance) (af (fF ET.t 0 rfl (List.Mem.tail _ (List.Mem.tail _ (List.Mem.tail _ (List.Mem.tail _ (List.Mem.tail _ (List.Mem.tail _ (List.Mem.tail _ (List.Mem.tail _ (List.Mem.head _))))))))) B.b_isinstance) ak))))))))
  (av (cw 1 sc_law_kind.nd (DP.toS (jF (aj 1) (br (af (fF ET.t 0 rfl (List.Mem.tail _ (List.Mem.tail _ (List.Mem.tail _ (List.Mem.tail _ (List.Mem.tail _ (List.Mem.tail _ (List.Mem.tail _ (List.Mem.tail _ (List.Mem.tail _ (List.Mem.head _)))))))))) B.b_isinstance) ak)))))
  (av (dW (DW.dt (jM (bO (fw hr.units) iu (rB hr.units (aj 1) iV) ah (bF _)) (kf (gw (gb (zv ET.t 0 rfl B.b_isinstance B.b_ValueError)))))) (aB (aZ (dB ah))) ci)
  (aB (aZ (qp hr.units (aj 1) iV)))))))
theorem sc_law_some:FnScope ["_law_bag_here","_law_least","_law_wide","_law_found","_law_k"] ["_law_bag_here","_law_least"] (au dL):=⟨rfl,rfl,rfl,by decide+kernel,rfl,by decide+kernel,by decide+kernel⟩
def fS:FS:=
 aJ (dc 2 (aF 0 1 aq (bi (ae (am (.int 2)) (ag)))))
 (aJ (fG 3 (aX (ag)))
 (aJ (fE (qK (bb (bu aO (pu (ai 1)) (aF 0 1 aq (bi (ae (ao bD (am (.int 5)) (ai 1)) (ag))))) (bi (ag)))) (gN 4) (de (aF 3 1 iK (bb (je (bb (bu bD (aF 0 1 aq (bi (ae (ao aW (aX (ae (am (.int 7)) (ae (am (.int 61)) (ag)))) (ai 2)) (ag)))) (pu (ao aW (aX (ae (am (.int 3)) (ae (am (.int 30)) (ag)))) (ai 2)))) (bb (bu be (pu (ao aW (aX (ae (am (.int 1)) (ae (cZ (am (.int 1))) (ag)))) (ao cO (ai 4) (am (.int 2))))) (bu aO (pu (am (.int 1))) (aF 0 1 aq (bi (ae (am (.int 9)) (ag)))))) (bi (ag))))) (bi (ag))))))
 (aJ ((λρ=>(fG 3 (aA (nF 1 bh) (ae (ai 3) (ag)))) (ku 3 ρ)))
 (aJ (fI (jL (bH (ao nZ (iz 3) (aX (ag)))) (bH (ao zJ (ai 1) (am (.int 0))))) (aV (aX (ae (bZ (ae (am (.int 2)) (ae (cZ (am (.int 1))) (ag)))) (ag)))) (skip))
 (vX 3)))))
def cG:List D->List D->Option (D×List D):=v9 .n 5 fS
theorem rV(B:Bt mg)(F:Df K mg "_law_some" dL ["_law_bag_here","_law_least"])(ET:Et K mg kx0 kx1 kx2 kx3 kx4 kx5 kx6 kx7 kx8 kx9)(aD:Cl P w K mg base 1 "_law_take" ["_law_bag_here","_law_many_here"] (rO K .s 1 aq))(bJ:Cl P w K mg base 1 "_law_summed" ["_law_tuples"] (gy K .n 1 bh)):Cl P w K mg base 2 "_law_some" ["_law_bag_here","_law_least"] (rO K .n 1 cG):=by
 refine o6 (k:=1) F sc_law_some (by decide) rfl λ_ cdv A outer s H hid a E hr=>?_
 exact(av (cR 2 sc_law_some.nd (ce 0 aD (hr.mono (by decide)) (DA.gf (af ah ak))))
  (av (gq 3 sc_law_some.nd (br ak))
  (av (fZ PassesOwn.never rfl (nG B.b_range (cy (fU (DP.ef (aj 1)) (ce 0 aD (hr.mono (by decide)) (DA.gf (af (gE ah (aj 1)) ak)))) (DA.gf ak))) (aC 4 sc_law_some.nd) (aB (jG (lI 3 i7 fH PySem.F.slot_list_append PySem.F.type_list_append (cy (mw (cy (ki (ce 0 aD (hr.mono (by decide)) (DA.gf (af (bC aQ bn (br (af ah (af ah ak))) (aj 2) (λ_ _=>rfl)) ak))) (DP.ef (bC aQ bn (br (af ah (af ah ak))) (aj 2) (λ_ _=>rfl)))) (cy (mv (DP.ef (bC aQ bn (br (af ah (af (dB ah) ak))) (hW (aj 4) ah) (λ_ _=>rfl))) (fU (DP.ef ah) (ce 0 aD (hr.mono (by decide)) (DA.gf (af ah ak))))) (DA.gf ak)))) (DA.gf ak))))))
  (av (pB 3 (gq 3 sc_law_some.nd (eK bJ (hr.mono (by decide)) (af (aj 3) ak))))
  (av (dW (DW.dt (BZ (bO (mk hr.units) p9 (fQ 3) (br ak) (bF _)) (yG (bO yh lV (aj 1) ah (bF _))))) (aB (aZ (br (af (cW (af ah (af (dB ah) ak))) ak iT)))) ci)
  (aB (uF 3)))))))
theorem sc_law_upward:FnScope ["_law_one","_law_other","_law_left","_law_low","_law_first","_law_found","_law_shift","_law_number","_law_power","_law_often"] ["_law_one","_law_other"] (au cI):=⟨rfl,rfl,rfl,by decide+kernel,rfl,by decide+kernel,by decide+kernel⟩
def cD:FS:=
 aJ (Dt 2 (ai 0))
 (aJ (fq (gT 2 (cj (gN 3) (cj (gN 4) (fz)))) (pu (ao aW (ai 1) (am (.int 0)))))
 (aJ (fG 5 (aX (ag)))
 (aJ (fI (bH (ao nZ (ai 0) (aX (ag)))) ((λρ=>aV (ai 5) (ku 5 ρ))) (skip))
 (aJ (fE (bi (mE (ae (ao bD (ao aW (ao aW (ai 0) (am (.int 0))) (am (.int 0))) (ai 3)) (ae (ao aO (ao bD (ao aW (ao aW (ai 0) (cZ (am (.int 1)))) (am (.int 0))) (ao aW (ao aW (ai 1) (cZ (am (.int 1)))) (am (.int 0)))) (am (.int 1))) (ag))))) (gN 6) (aJ (bK 7 (fy 2 (ao aO (ai 6) (ai 3)) (am (.int 0))))
 (aJ (fI (bH (ao jf (ao iq (ai 7) (ai 4)) (am (.int 0)))) (aV (am .non)) (skip))
 (fI (bH (ao jf (ai 7) (am (.int 0)))) (aJ (de (aF 5 1 iK (bi (ae (bZ (ae (ai 6) (ae (ao gm (ai 7) (ai 4)) (ag)))) (ag)))))
 (fE (bi (df (ai 1))) (gT 2 (cj (gN 8) (cj (gN 9) (fz)))) (iE 2 (ao aO (ai 6) (ai 8)) (ao bD (fy 2 (ao aO (ai 6) (ai 8)) (am (.int 0))) (ao be (ao gm (ai 7) (ai 4)) (ai 9)))))) (skip)))))
 (zu 2 ((λρ=>(aV (ao aW (aX (ae (am .non) (ae (ai 5) (ag)))) (aA wD (ae (tz (eD (bH (aA vA (ae (bL 1 (nl 2) (gN 10) (dP) (vj 2 (ai 10))) (ag)))))) (ag))))) (ku 5 ρ))))))))
def cJ:List D->Option D:=j2 .s 10 cD
theorem oe(B:Bt mg)(F:Df K mg "_law_upward" cI ["_law_one","_law_other"])(ET:Et K mg kx0 kx1 kx2 kx3 kx4 kx5 kx6 kx7 kx8 kx9):Cl P w K mg base 1 "_law_upward" ["_law_one","_law_other"] (gy K .s 2 cJ):=by
 refine da (k:=0) F sc_law_upward (by decide) rfl λ_ cdv A outer s H hid E hr=>?_
 exact(av (Cq 2 sc_law_upward.nd rfl B.b_dict (aj 0))
  (av (mD (DP.ef (bC aQ bn (aj 1) ah (λ_ _=>rfl))) (cs (n:=2) rfl (aL (aC 3 sc_law_upward.nd) (aL (aC 4 sc_law_upward.nd) cr))))
  (av (gq 5 sc_law_upward.nd (br ak))
  (av (dW (bO (mk hr.units) p9 (aj 0) (br ak) (bF _)) (aB (pB 5 (aZ (aj 5)))) ci)
  (av (fZ PassesOwn.never rfl (DIp.e (rX B.b_range (af (gE (bC aQ bn (bC aQ bn (aj 0) ah (λ_ _=>rfl)) ah (λ_ _=>rfl)) (aj 3)) (af (cB (gE (bC aQ bn (bC aQ bn (aj 0) (dB ah) (λ_ _=>rfl)) ah (λ_ _=>rfl)) (bC aQ bn (bC aQ bn (aj 1) (dB ah) (λ_ _=>rfl)) ah (λ_ _=>rfl))) ah) ak)))) (aC 6 sc_law_upward.nd) (av (cw 7 sc_law_upward.nd (lw 2 (il hr) (cB (aj 6) (aj 3)) ah ⟨rfl,rfl,rfl,rfl⟩))
  (av (dW (bO (fw hr.units) iu (uC (aj 7) (aj 4)) ah (bF _)) (aB (aZ sY)) ci)
  (aB (dW (bO (fw hr.units) iu (aj 7) ah (bF _)) (av (jG (lI 5 i7 fH PySem.F.slot_list_append PySem.F.type_list_append (DA.gf (af (cW (af (aj 6) (af (oW (aj 7) (aj 4)) ak))) ak iT))))
  (aB (fZ PassesOwn.never rfl (DIp.e (dA (aj 1))) (cs (n:=2) rfl (aL (aC 8 sc_law_upward.nd) (aL (aC 9 sc_law_upward.nd) cr))) (aB (o7 2 (il hr) (cB (aj 6) (aj 8)) (gE (lw 2 (il hr) (cB (aj 6) (aj 8)) ah ⟨rfl,rfl,rfl,rfl⟩) (eA (oW (aj 7) (aj 4)) (aj 9)))))))) ci)))))
  (aB (zd 2 (pB 5 (aZ (bC aQ bn (br (af sY (af (aj 5) ak))) (ja va AW B.b_int (cu (xG (fm (vE rfl) yQ B.b_any (cu (gh (N':=["_law_one","_law_other","_law_left","_law_low","_law_first","_law_found","_law_shift","_law_number","?_law_power","_law_often","_law_power"]) rfl (cP (Nat.le_of_ble_eq_true rfl)) (zK 2) (λ_ _ _ _=>(aC 10 En)) (λ_ _ _ _=>fA) (λ_ _ _ _=>(zn 2 (il hr) (aj 10) (λ_ _=>rfl)))) dZ) (hv:=by kernel_rfl))) dZ) (hv:=by kernel_rfl)) (λ_ _=>rfl)))))))))))
theorem sc_law_said:FnScope ["_law_one","_law_other","_law_e"] ["_law_one","_law_other"] (au cU):=⟨rfl,rfl,rfl,by decide+kernel,rfl,by decide+kernel,by decide+kernel⟩
def fB:FS:=
 sW 2 exN ["RookError"] (qt (kZ 2 cA (qZ (ae (ai 0) (ae (ai 1) (ag)))))) (xi)
def bI:List D->Option D:=j2 .n 3 fB
theorem oQ(B:Bt mg)(F:Df K mg "_law_said" cU ["_law_one","_law_other"])(ET:Et K mg kx0 kx1 kx2 kx3 kx4 kx5 kx6 kx7 kx8 kx9)(gK:ClX P w K mg base 3 "parted" ["one","other"] (CJ K .n 2 cA))(fR:ClU P w K mg base 1 "_law_kind" ["_law_e"] (Cp K .s dH)):Cl P w K mg base 4 "_law_said" ["_law_one","_law_other"] (gy K .n 2 bI):=by
 refine da (k:=3) F sc_law_said (by decide) rfl λ_ cdv A outer s H hid E hr=>?_
 exact(aB (pV 2 sc_law_said.nd ⟨rfl,rfl⟩ (λ_ _=>(mG (uq (AH gK (hr.mono (by decide)) (DA.rr (DA.nox (af (aj 0) (af (aj 1) ak)))))))) (tV ET.t rfl (List.Mem.head _)) (λ_=>(aB wz))))
def jw:FS:=
 sW 2 exN ["RookError"] (qt (kZ 2 cA (qZ (ae (ai 0) (ae (ai 1) (ag)))))) (aV (AB 2 dH))
def fP:List D->Option D:=j2 .s 3 jw
theorem tB(B:Bt mg)(F:Df K mg "_law_said" cU ["_law_one","_law_other"])(ET:Et K mg kx0 kx1 kx2 kx3 kx4 kx5 kx6 kx7 kx8 kx9)(gK:ClX P w K mg base 3 "parted" ["one","other"] (CJ K .n 2 cA))(fR:ClU P w K mg base 1 "_law_kind" ["_law_e"] (Cp K .s dH)):Cl P w K mg base 4 "_law_said" ["_law_one","_law_other"] (gy K .s 2 fP):=by
 refine da (k:=3) F sc_law_said (by decide) rfl λ_ cdv A outer s H hid E hr=>?_
 exact(aB (pV 2 sc_law_said.nd ⟨rfl,rfl⟩ (λ_ _=>(mG (uq (DR.toS (AH gK (hr.mono (by decide)) (DA.rr (DA.nox (af (aj 0) (af (aj 1) ak))))))))) (tV ET.t rfl (List.Mem.head _)) (λ_=>(aB (aZ (AV 2 fR ((hr.u.mono (by decide)).mark _)))))))
theorem sc_law_right:FnScope ["_law_one","_law_other","_law_due","_law_handed","_law_turn","_law_found"] ["_law_one","_law_other"] (au cV):=⟨rfl,rfl,rfl,by decide+kernel,rfl,by decide+kernel,by decide+kernel⟩
def iD:FS:=
 aJ (bK 2 (aA (nF 2 cJ) (ae (ai 0) (ae (ai 1) (ag)))))
 (aJ (bK 3 (aX (ae (aA kW (ae (ai 0) (ag))) (ae (aA kW (ae (ai 1) (ag))) (ag)))))
 (aJ (fE (bi (ji (ae (am (.int 2)) (ag)))) (gN 4) (aJ (yw (fG 5 (aA (nF 2 bI) (ae (ao aW (ai 3) (am (.int 0))) (ae (ao aW (ai 3) (am (.int 1))) (ag))))) (bK 5 (aA (nF 2 fP) (ae (ao aW (ai 3) (am (.int 0))) (ae (ao aW (ai 3) (am (.int 1))) (ag))))))
 (aJ (fI (bH (ao jf (ai 3) (aX (ae (ai 0) (ae (ai 1) (ag)))))) (aV (am (.bl false))) (skip))
 (fI (bH (ao (Dg false) (ai 2) (am .non))) (fI (bH (ao jf (iz 5) (am (.int 3)))) (aV (am (.bl false))) (skip)) (fI (lj (eD (eJ (DD (aA (nF 1 dU) (ae (iz 5) (ag)))))) (lj (bH (ao jf (iz 5) (ai 2))) (bH (ao jf (CQ (aA (nF 2 eW) (ae (iz 5) (ae (aA kW (ae (ai 1) (ag))) (ag))))) (ai 0))))) (aV (am (.bl false))) (de (aF 5 1 iK (bi (ae (bZ (ae (am (.int 99)) (ae (am (.int 1)) (ag)))) (ag))))))))))
 (aV (am (.bl true)))))
def bM:List D->Option D:=j2 .s 6 iD
theorem rq(B:Bt mg)(F:Df K mg "_law_right" cV ["_law_one","_law_other"])(ET:Et K mg kx0 kx1 kx2 kx3 kx4 kx5 kx6 kx7 kx8 kx9)(gY:Cl P w K mg base 1 "_law_upward" ["_law_one","_law_other"] (gy K .s 2 cJ))(jA:Cl P w K mg base 4 "_law_said" ["_law_one","_law_other"] (gy K .s 2 fP))(ie:Cl P w K mg base 4 "_law_said" ["_law_one","_law_other"] (gy K .n 2 bI))(hV:Cl P w K mg base 2 "_law_is_sum" ["_law_found"] (gy K .s 1 dU))(i4:Cl P w K mg base 2 "times" ["one","other"] (gy K .n 2 eW)):Cl P w K mg base 5 "_law_right" ["_law_one","_law_other"] (gy K .s 2 bM):=by
 refine da (k:=4) F sc_law_right (by decide) rfl λ_ cdv A outer s H hid E hr=>?_
 exact(av (cw 2 sc_law_right.nd (eK gY (hr.mono (by decide)) (af (aj 0) (af (aj 1) ak))))
  (av (cw 3 sc_law_right.nd (DP.toS (br (af (DP.toS (ja ig oo B.b_list (cu (aj 0) dZ) (hv:=by kernel_rfl))) (af (DP.toS (ja ig oo B.b_list (cu (aj 1) dZ) (hv:=by kernel_rfl))) ak)))))
  (av (fZ PassesOwn.never rfl (DIp.e (jn B.b_range (af ah ak))) (aC 4 sc_law_right.nd) (av (Dk (gq 5 sc_law_right.nd (eK ie (hr.mono (by decide)) (af (bC aQ bn (aj 3) ah (λ_ _=>rfl)) (af (bC aQ bn (aj 3) ah (λ_ _=>rfl)) ak)))) (cw 5 sc_law_right.nd (eK jA (hr.mono (by decide)) (af (bC aQ bn (aj 3) ah (λ_ _=>rfl)) (af (bC aQ bn (aj 3) ah (λ_ _=>rfl)) ak)))))
  (av (dW (bO (fw hr.units) iu (aj 3) (br (af (aj 0) (af (aj 1) ak))) (bF _)) (aB (aZ iV)) ci)
  (aB (dW (bO Ds (Du false) (aj 2) sY (bF _)) (aB (dW (bO (fw hr.units) iu (fQ 5) ah (bF _)) (aB (aZ iV)) ci)) (aB (dW (DW.dt (jM (gw (gb (zQ hV (hr.mono (by decide)) (cu (fQ 5) dZ)))) (jM (bO (fw hr.units) iu (fQ 5) (aj 2) (bF _)) (kf (bO (fw hr.units) iu (zZ i4 (hr.mono (by decide)) (cu (fQ 5) (cu (ja ig oo B.b_list (cu (aj 1) dZ) (hv:=by kernel_rfl)) dZ))) (aj 0) (bF _)))))) (aB (aZ iV)) (aB (jG (lI 5 i7 fH PySem.F.slot_list_append PySem.F.type_list_append (DA.gf (af (cW (af ah (af ah ak))) ak iT))))))))))))
  (aB (aZ iV)))))
theorem sc_law_long_row:FnScope ["_law_bag_here","_law_step","_law_count","_law_low","_law_by","_law_number","_law_near"] ["_law_bag_here"] (au bP):=⟨rfl,rfl,rfl,by decide+kernel,rfl,by decide+kernel,by decide+kernel⟩
def fV:FS:=
 aJ (dc 1 (bu aO (pu (am (.int 1))) (aF 0 1 aq (bi (ae (am (.int 3)) (ag))))))
 (aJ (dc 2 (bu aO (pu (am (.int 1))) (aF 0 1 aq (bi (ae (ao im (am (.int 120)) (ai 1)) (ag))))))
 (aJ (dc 3 (bu bD (aF 0 1 aq (bi (ae (ao bD (am (.int 121)) (ao be (ai 1) (ai 2))) (ag)))) (pu (am (.int 60)))))
 (aJ (dc 4 (bu be (bu aW (pu (aX (ae (am (.int 1)) (ae (cZ (am (.int 1))) (ag))))) (aF 0 1 aq (bi (ae (am (.int 2)) (ag))))) (bu aO (pu (am (.int 1))) (aF 0 1 aq (bi (ae (am (.int 9)) (ag)))))))
 (aJ (dc 5 (bu aO (pu (am (.int 1))) (aF 0 1 aq (bi (ae (am (.int 9)) (ag))))))
 (aJ (dc 6 (bu bD (aF 0 1 aq (bi (ae (am (.int 5)) (ag)))) (pu (am (.int 2)))))
 (aV (bZ (ae (aX (ae (bZ (ae (ai 3) (ae (ao bD (am (.int 0)) (ao be (ai 4) (ai 5))) (ag)))) (ae (bZ (ae (ao aO (ai 3) (ao be (ai 1) (ai 2))) (ae (ao be (ai 4) (ai 5)) (ag)))) (ag)))) (ae (aX (ae (bZ (ae (ai 6) (ae (ao bD (am (.int 0)) (ai 4)) (ag)))) (ae (bZ (ae (ao aO (ai 6) (ai 1)) (ae (ai 4) (ag)))) (ag)))) (ag))))))))))
def bQ:List D->List D->Option (D×List D):=v9 .s 7 fV
theorem md(B:Bt mg)(F:Df K mg "_law_long_row" bP ["_law_bag_here"])(ET:Et K mg kx0 kx1 kx2 kx3 kx4 kx5 kx6 kx7 kx8 kx9)(aD:Cl P w K mg base 1 "_law_take" ["_law_bag_here","_law_many_here"] (rO K .s 1 aq)):Cl P w K mg base 2 "_law_long_row" ["_law_bag_here"] (rO K .s 0 bQ):=by
 refine o6 (k:=1) F sc_law_long_row (by decide) rfl λ_ cdv A outer s H hid a E hr=>?_
 exact(av (cR 1 sc_law_long_row.nd (fU (DP.ef ah) (ce 0 aD (hr.mono (by decide)) (DA.gf (af ah ak)))))
  (av (cR 2 sc_law_long_row.nd (fU (DP.ef ah) (ce 0 aD (hr.mono (by decide)) (DA.gf (af (og ah (aj 1)) ak)))))
  (av (cR 3 sc_law_long_row.nd (ki (ce 0 aD (hr.mono (by decide)) (DA.gf (af (gE ah (eA (aj 1) (aj 2))) ak))) (DP.ef ah)))
  (av (cR 4 sc_law_long_row.nd (mv (ua aQ bn (DE.toS (DP.ef (br (af ah (af (dB ah) ak))))) (ce 0 aD (hr.mono (by decide)) (DA.gf (af ah ak))) (λ_ _=>rfl)) (fU (DP.ef ah) (ce 0 aD (hr.mono (by decide)) (DA.gf (af ah ak))))))
  (av (cR 5 sc_law_long_row.nd (fU (DP.ef ah) (ce 0 aD (hr.mono (by decide)) (DA.gf (af ah ak)))))
  (av (cR 6 sc_law_long_row.nd (ki (ce 0 aD (hr.mono (by decide)) (DA.gf (af ah ak))) (DP.ef ah)))
  (aB (aZ (cW (af (DP.toS (br (af (cW (af (aj 3) (af (gE ah (eA (aj 4) (aj 5))) ak))) (af (cW (af (cB (aj 3) (eA (aj 1) (aj 2))) (af (eA (aj 4) (aj 5)) ak))) ak iT) iT))) (af (DP.toS (br (af (cW (af (aj 6) (af (gE ah (aj 4)) ak))) (af (cW (af (cB (aj 6) (aj 1)) (af (aj 4) ak))) ak iT) iT))) ak)))))))))))
theorem sc_law_many:FnScope ["_law_bag_here","_law_found","_law_power","_law_k","_law_low","_law_far","_law_number","_law_one"] ["_law_bag_here"] (au dG):=⟨rfl,rfl,rfl,by decide+kernel,rfl,by decide+kernel,by decide+kernel⟩
def jq:FS:=
 aJ (vo 1 (tF (bb (je (bb (pu (am (.int 0))) (bb (bu aO (pu (am (.int 1))) (aF 0 1 aq (bi (ae (am (.int 9)) (ag))))) (bi (ag))))) (bi (ag)))))
 (aJ (bK 2 (am (.int 0)))
 (aJ (fE (qK (bb (aF 0 1 aq (bi (ae (am (.int 20)) (ag)))) (bi (ag)))) (gN 3) (aJ (dc 2 (bu aO (pu (ao aO (ai 2) (am (.int 1)))) (aF 0 1 aq (bi (ae (am (.int 3)) (ag))))))
 (de (aF 1 1 iK (bb (je (bb (pu (ai 2)) (bb (bu be (bu aW (pu (aX (ae (am (.int 1)) (ae (cZ (am (.int 1))) (ag))))) (aF 0 1 aq (bi (ae (am (.int 2)) (ag))))) (bu aO (pu (am (.int 1))) (aF 0 1 aq (bi (ae (am (.int 9)) (ag)))))) (bi (ag))))) (bi (ag)))))))
 (aJ (fq (gT 2 (cj (gN 4) (cj (gN 5) (fz)))) (je (bb (bu bD (aF 0 1 aq (bi (ae (am (.int 31)) (ag)))) (pu (am (.int 30)))) (bb (bu bD (aF 0 1 aq (bi (ae (am (.int 31)) (ag)))) (pu (am (.int 30)))) (bi (ag))))))
 (aJ (dc 6 (bu be (bu aW (pu (aX (ae (am (.int 1)) (ae (cZ (am (.int 1))) (ag))))) (aF 0 1 aq (bi (ae (am (.int 2)) (ag))))) (bu aO (pu (am (.int 1))) (aF 0 1 aq (bi (ae (am (.int 9)) (ag)))))))
 (aJ (bK 7 (bL 2 (pg (iz 1)) (gT 2 (cj (gN 8) (cj (gN 9) (fz)))) (dP) (bZ (ae (ao aO (ai 8) (ai 5)) (ae (ao be (ai 9) (ai 6)) (ag))))))
 (aV (bZ (ae (ai 7) (ae (bL 2 (pg (iz 1)) (gT 2 (cj (gN 8) (cj (gN 9) (fz)))) (dP) (bZ (ae (ao aO (ai 8) (ai 4)) (ae (ai 9) (ag))))) (ag))))))))))
def dE:List D->List D->Option (D×List D):=v9 .s 8 jq
theorem sS(B:Bt mg)(F:Df K mg "_law_many" dG ["_law_bag_here"])(ET:Et K mg kx0 kx1 kx2 kx3 kx4 kx5 kx6 kx7 kx8 kx9)(aD:Cl P w K mg base 1 "_law_take" ["_law_bag_here","_law_many_here"] (rO K .s 1 aq)):Cl P w K mg base 2 "_law_many" ["_law_bag_here"] (rO K .s 0 dE):=by
 refine o6 (k:=1) F sc_law_many (by decide) rfl λ_ cdv A outer s H hid a E hr=>?_
 exact(QSs.to (gJ (QS.of (zY 1 sc_law_many.nd (Bi (cy (mw (cy (DP.ef ah) (cy (fU (DP.ef ah) (ce 0 aD (hr.mono (by decide)) (DA.gf (af ah ak)))) (DA.gf ak)))) (DA.gf ak)))))
  (gJ (QS.of (cw 2 sc_law_many.nd ah))
  (gJ (QS.of (fZ PassesOwn.never rfl (nG B.b_range (cy (ce 0 aD (hr.mono (by decide)) (DA.gf (af ah ak))) (DA.gf ak))) (aC 3 sc_law_many.nd) (av (cR 2 sc_law_many.nd (fU (DP.ef (cB (aj 2) ah)) (ce 0 aD (hr.mono (by decide)) (DA.gf (af ah ak)))))
  (aB (jG (lI 1 i7 fH PySem.F.slot_list_append PySem.F.type_list_append (cy (mw (cy (DP.ef (aj 2)) (cy (mv (ua aQ bn (DE.toS (DP.ef (br (af ah (af (dB ah) ak))))) (ce 0 aD (hr.mono (by decide)) (DA.gf (af ah ak))) (λ_ _=>rfl)) (fU (DP.ef ah) (ce 0 aD (hr.mono (by decide)) (DA.gf (af ah ak))))) (DA.gf ak)))) (DA.gf ak))))))))
  (gJ (QS.of (mD (mw (cy (ki (ce 0 aD (hr.mono (by decide)) (DA.gf (af ah ak))) (DP.ef ah)) (cy (ki (ce 0 aD (hr.mono (by decide)) (DA.gf (af ah ak))) (DP.ef ah)) (DA.gf ak)))) (cs (n:=2) rfl (aL (aC 4 sc_law_many.nd) (aL (aC 5 sc_law_many.nd) cr)))))
  (gJ (QS.of (cR 6 sc_law_many.nd (mv (ua aQ bn (DE.toS (DP.ef (br (af ah (af (dB ah) ak))))) (ce 0 aD (hr.mono (by decide)) (DA.gf (af ah ak))) (λ_ _=>rfl)) (fU (DP.ef ah) (ce 0 aD (hr.mono (by decide)) (DA.gf (af ah ak)))))))
  (gJ (QS.of (yK 7 (N':=["_law_bag_here","_law_found","?_law_power","_law_k","_law_low","_law_far","_law_number","_law_one","_law_power","_law_many_here"]) rfl sc_law_many.nd (jr (bg (cP (Nat.le_of_ble_eq_true rfl)) (bg (cP (Nat.le_of_ble_eq_true rfl)) eT))) (qj (fQ 1)) (λ_ _ _ _=>(cs (n:=2) rfl (aL (aC 8 yP) (aL (aC 9 yP) cr)))) (λ_ _ _ _=>fA) (λ_ _ _ _=>(cW (af (cB (aj 8) (aj 5)) (af (eA (aj 9) (aj 6)) ak))))))
  (zT (QS.of (aZ (cW (af (aj 7) (af (DP.toS (gh (N':=["_law_bag_here","_law_found","?_law_power","_law_k","_law_low","_law_far","_law_number","_law_one","_law_power","_law_many_here"]) rfl (jr (bg (cP (Nat.le_of_ble_eq_true rfl)) (bg (cP (Nat.le_of_ble_eq_true rfl)) eT))) (qj (fQ 1)) (λ_ _ _ _=>(cs (n:=2) rfl (aL (aC 8 yP) (aL (aC 9 yP) cr)))) (λ_ _ _ _=>fA) (λ_ _ _ _=>(cW (af (cB (aj 8) (aj 4)) (af (aj 9) ak)))))) ak)))))))))))))
theorem sc_law:FnScope ["_law_script","_law_k","_law_bag_here","_law_way","_law_one","_law_other","_law_more"] ["_law_script"] (au jh):=⟨rfl,rfl,rfl,by decide+kernel,rfl,by decide+kernel,by decide+kernel⟩
def wF:FS:=
 aJ (fE (bi (ji (ae (am (.int 3)) (ag)))) (gN 1) (aJ (fG 2 (aA (nF 2 i9) (ae (ai 0) (ae (ai 1) (ag)))))
 (aJ (dc 3 (aF 2 1 aq (bi (ae (am (.int 6)) (ag)))))
 (aJ (fI (bH (ao zJ (ai 3) (am (.int 3)))) (aJ (fq (gT 2 (cj (gN 4) (cj (gN 5) (fz)))) (AJ (bH (ao nZ (ai 3) (am (.int 4)))) (aF 2 0 bQ (bi (ag))) (aF 2 0 dE (bi (ag)))))
 (aJ (fI (lj (eD (eJ (aA (nF 2 bM) (ae (ai 4) (ae (ai 5) (ag)))))) (eD (eJ (aA (nF 2 bM) (ae (mP (ai 4) (xW (am (.int 1))) yy) (ae (ai 5) (ag))))))) (aV (am (.bl false))) (skip))
 (zf))) (skip))
 (aJ (dc 6 (je (bb (bu bD (aF 2 1 aq (bi (ae (am (.int 121)) (ag)))) (pu (am (.int 60)))) (bb (bu be (bu aW (pu (aX (ae (am (.int 1)) (ae (cZ (am (.int 1))) (ag))))) (aF 2 1 aq (bi (ae (am (.int 2)) (ag))))) (bu aO (pu (am (.int 1))) (aF 2 1 aq (bi (ae (am (.int 9)) (ag)))))) (bi (ag))))))
 (aJ (dc 5 (aF 2 1 cG (bi (ae (am (.int 1)) (ag)))))
 (aJ (dc 4 (kU (nF 2 cL) (bb (aF 2 1 cG (bi (ae (am (.int 0)) (ag)))) (bi (ae (ai 5) (ag))))))
 (aJ (fI (bH (ao zJ (ai 3) (am (.int 1)))) (bK 4 (aA (nF 1 bh) (ae (ao ip (ai 4) (aX (ae (ai 6) (ag)))) (ag)))) (skip))
 (aJ (fI (bH (ao nZ (ai 3) (am (.int 1)))) (dc 5 (aF 2 1 cG (bi (ae (am (.int 1)) (ag))))) (skip))
 (fI (lj (eD (eJ (aA (nF 2 bM) (ae (ai 4) (ae (ai 5) (ag)))))) (eD (eJ (aA (nF 2 bM) (ae (aX (ag)) (ae (ai 5) (ag))))))) (aV (am (.bl false))) (skip)))))))))))
 (aV (am (.bl true)))
def AD:List D->Option D:=j2 .s 7 wF
theorem BJ {f:Addr}{fd:FuncData}(B:Bt mg)(F:Fun K "law" "law" jh f fd)(ET:Et K mg kx0 kx1 kx2 kx3 kx4 kx5 kx6 kx7 kx8 kx9)(kI:Cl P w K mg base 2 "_law_bag" ["_law_script","_law_at"] (gy K .n 2 i9))(aD:Cl P w K mg base 1 "_law_take" ["_law_bag_here","_law_many_here"] (rO K .s 1 aq))(gc:Cl P w K mg base 2 "_law_some" ["_law_bag_here","_law_least"] (rO K .n 1 cG))(gv:Cl P w K mg base 2 "_law_product" ["_law_one","_law_other"] (gy K .n 2 cL))(bJ:Cl P w K mg base 1 "_law_summed" ["_law_tuples"] (gy K .n 1 bh))(fT:Cl P w K mg base 2 "_law_long_row" ["_law_bag_here"] (rO K .s 0 bQ))(jv:Cl P w K mg base 2 "_law_many" ["_law_bag_here"] (rO K .s 0 dE))(dM:Cl P w K mg base 5 "_law_right" ["_law_one","_law_other"] (gy K .s 2 bM)):FnOk P w K mg base nU 6 f fd ["_law_script"] (gy K .s 1 AD):=by
 refine uP (k:=5) F sc_law (by decide) λcdv A outer s H hid E hr=>?_
 exact(av (fZ PassesOwn.never rfl (DIp.e (jn B.b_range (af ah ak))) (aC 1 sc_law.nd) (av (gq 2 sc_law.nd (eK kI (hr.mono (by decide)) (af (aj 0) (af (aj 1) ak))))
  (av (cR 3 sc_law.nd (ce 2 aD (hr.mono (by decide)) (DA.gf (af ah ak))))
  (av (dW (bO yh lV (aj 3) ah (bF _)) (av (mD (Dv (bO (mk hr.units) p9 (aj 3) ah (bF _)) (ce 2 fT (hr.mono (by decide)) (DA.gf ak)) (ce 2 jv (hr.mono (by decide)) (DA.gf ak))) (cs (n:=2) rfl (aL (aC 4 sc_law.nd) (aL (aC 5 sc_law.nd) cr))))
  (av (dW (DW.dt (jM (gw (gb (eK dM (hr.mono (by decide)) (af (aj 4) (af (aj 5) ak))))) (kf (gw (gb (eK dM (hr.mono (by decide)) (af (DP.toS (wu (aj 4) (tW ah) tL)) (af (aj 5) ak)))))))) (aB (aZ iV)) ci)
  (aB yX))) ci)
  (av (cR 6 sc_law.nd (mw (cy (ki (ce 2 aD (hr.mono (by decide)) (DA.gf (af ah ak))) (DP.ef ah)) (cy (mv (ua aQ bn (DE.toS (DP.ef (br (af ah (af (dB ah) ak))))) (ce 2 aD (hr.mono (by decide)) (DA.gf (af ah ak))) (λ_ _=>rfl)) (fU (DP.ef ah) (ce 2 aD (hr.mono (by decide)) (DA.gf (af ah ak))))) (DA.gf ak)))))
  (av (cR 5 sc_law.nd (DE.toS (ce 2 gc (hr.mono (by decide)) (DA.gf (af ah ak)))))
  (av (cR 4 sc_law.nd (DE.toS (Ca gv (hr.mono (by decide)) (cy (DE.toS (ce 2 gc (hr.mono (by decide)) (DA.gf (af ah ak)))) (DA.gf (af (aj 5) ak))))))
  (av (dW (bO yh lV (aj 3) ah (bF _)) (aB (cw 4 sc_law.nd (DP.toS (eK bJ (hr.mono (by decide)) (af (DP.toS (jF (aj 4) (br (af (aj 6) ak)))) ak))))) ci)
  (av (dW (bO (mk hr.units) p9 (aj 3) ah (bF _)) (aB (cR 5 sc_law.nd (DE.toS (ce 2 gc (hr.mono (by decide)) (DA.gf (af ah ak)))))) ci)
  (aB (dW (DW.dt (jM (gw (gb (eK dM (hr.mono (by decide)) (af (aj 4) (af (aj 5) ak))))) (kf (gw (gb (eK dM (hr.mono (by decide)) (af (DP.toS (br ak)) (af (aj 5) ak)))))))) (aB (aZ iV)) ci)))))))))))
  (aB (aZ iV)))
end
theorem fc {t u:FX}{ρ ρ':aG}(h:t ρ=.ok (.nx ρ')):jE t u ρ=u ρ':=by unfold jE;rw[h]
theorem t9 {t u:FX}{ρ:aG}{z:Ex×aG}(h:t ρ=.error z):jE t u ρ=.error z:=by unfold jE;rw[h]
theorem g7 {t:FS}{ρ:aG}{o:Out}(h:t ρ=o):qQ t ρ=.ok o:=by unfold qQ;rw[h]
theorem AS {kd:Kd}{n:Nat}{t:FX}{ds:List D}{z:Ex×aG}(h:t (cS n ds)=.error z):Cb kd n t ds=some (.error z.1):=by unfold Cb;rw[h]
theorem eE {p:FT}{t:FS}{ρ:aG}(h:p ρ=some false):fI p t skip ρ=.nx ρ:=(wE h).trans rfl
theorem iU {p q:FT}{ρ:aG}{a b:Bool}(h1:p ρ=some a)(h2:q ρ=some b):lj p q ρ=some (a||b):=by
 cases a with
 |true=>exact Dy h1
 |false=>exact Bq h1 h2
theorem gA {f:FE}{ρ:aG}{ds:List D}(h:f ρ=some (.lst ds)):df f ρ=some ds:=by unfold df;rw[h];rfl
theorem zw {g:FG}{b:FS}{d e:D}{r:List D}{ρ ρ1 ρ2:aG}(h1:g d ρ=some ρ1)(h2:b ρ1=.rt e ρ2):eN g b (d::r) ρ=.rt e ρ2:=by
 show(match g d ρ with
  |none=>Out.no
  |some ρ1=>match b ρ1 with
   | .nx ρ2=>eN g b r ρ2
   | .ct ρ2=>eN g b r ρ2
   | .bk ρ2=>.nx ρ2
   | .rt d ρ2=>.rt d ρ2
   | .no=>.no)=_
 rw[h1];dsimp only;rw[h2]
set_option maxHeartbeats 1000000
theorem pp {kd:Kd}{n:Nat}{t:FS}{bs ds b':List D}{d:D}{ρ:aG}(h:t (js n bs ds)=.rt d ρ)(h2:m9 ρ=some b'):v9 kd n t bs ds=some (d,b'):=by unfold v9;rw[h];dsimp only;rw[h2];rfl
theorem lR {g:FG}{b:FS}{P:Nat->aG->Prop}: ∀(l:List D) (j:Nat),(∀d∈l,∀i ρ,i<j+l.length->P i ρ-> ∃ρ1 ρ2,g d ρ=some ρ1/\b ρ1=.nx ρ2/\P (i+1) ρ2)-> ∀ρ,P j ρ-> ∃ρ',eN g b l ρ=.nx ρ'/\P (j+l.length) ρ'
 | [],j,_,ρ,p=>⟨ρ,rfl,p⟩
 |d::l,j,h,ρ,p=>by
  obtain⟨ρ1,ρ2,h1,h2,p2⟩:=h d (List.mem_cons_self ..) j ρ (by rw[List.length_cons];omega) p;obtain⟨ρ',e,p'⟩:=lR l (j+1) (λd' hd i ρ hi=>h d' (List.mem_cons_of_mem _ hd) i ρ (by rw[List.length_cons];omega)) ρ2 p2;exact⟨ρ',(eV h1 h2).trans e,by rw[List.length_cons,Nat.add_comm l.length 1,<-Nat.add_assoc];exact p'⟩
set_option maxHeartbeats 4000000
def wk:FS:=
 aV (tz (jL (bH (m8 "int" (ai 0))) (bH (tz (eD (bH (m8 "bool" (ai 0))))))))
def qu:List D->Option D:=j2 .s 1 wk
def kC:FS:=
 aJ (fI (eD (eJ (m8 "list" (ai 0)))) (aV (am (.bl false))) (skip))
 (aJ (fE (bi (df (ai 0))) (gN 1) (fI (lj (eD (eJ (m8 "tuple" (ai 1)))) (lj (bH (ao jf (aA j9 (ae (ai 1) (ag))) (am (.int 2)))) (lj (eD (eJ (aA (nF 1 qu) (ae (ao aW (ai 1) (am (.int 0))) (ag))))) (eD (eJ (aA (nF 1 qu) (ae (ao aW (ai 1) (am (.int 1))) (ag)))))))) (aV (am (.bl false))) (skip)))
 (aV (tz (jL (bH (aA tH (ae (bL 1 (df (ai 0)) (gN 2) (dP) (ao jf (ao aW (ai 2) (am (.int 1))) (am (.int 0)))) (ag)))) (bH (aA tH (ae (bL 2 (sV (ai 0) (mP (ai 0) (xW (am (.int 1))) yy)) (gT 2 (cj (gN 2) (cj (gN 3) (fz)))) (dP) (ao yv (ao aW (ai 2) (am (.int 0))) (ao aW (ai 3) (am (.int 0))))) (ag))))))))
def vf:List D->Option D:=j2 .s 2 kC
abbrev pD(p:Int×Int):D:=.tup [.int p.1,.int p.2]
def vI(kvs:List (Int×Int))(k:Int):Int:=((kvs.find? λq=>decide (q.1=k)).map (·.2)).getD 0
def jK(kvs:List (Int×Int))(k v:Int):List (Int×Int):=if(kvs.any λq=>decide (q.1=k))=true then kvs.map (λq=>if q.1=k then(q.1,v) else q) else kvs++[(k,v)]
def ir(kvs:List (Int×Int))(p:Int×Int):List (Int×Int):=jK kvs p.1 (vI kvs p.1+p.2)
def mT(L:List (Int×Int)):List (Int×Int):=L.foldl ir []
abbrev gF(kvs:List (Int×Int)):List (ba×D):=kvs.map λq=>(Sum.inl q.1,D.int q.2)
theorem tO(a b:Int):decide ((Sum.inl a:ba)=Sum.inl b)=decide (a=b):=by
 by_cases h:a=b
 ·subst h;simp
 ·rw[decide_eq_false h,decide_eq_false λe=>h (Sum.inl.inj e)]
theorem iX(k:Int): ∀kvs:List (Int×Int),jg (gF kvs) (.inl k)=(kvs.find? λq=>decide (q.1=k)).map λq=>D.int q.2
 | []=>rfl
 |q::r=>by
  have ih:=iX k r;unfold jg at ih⊢;rw[show gF (q::r)=(Sum.inl q.1,D.int q.2)::gF r from rfl,List.find?_cons,List.find?_cons];dsimp only;rw[tO]
  by_cases h:q.1=k
  ·rw[decide_eq_true h];rfl
  ·rw[decide_eq_false h];exact ih
theorem Bv(k:Int)(kvs:List (Int×Int)):((gF kvs).any λkv=>decide (kv.1=Sum.inl k))=kvs.any λq=>decide (q.1=k):=by
 rw[List.any_map];congr 1;funext q;exact tO _ _
theorem uD(k v:Int)(kvs:List (Int×Int)):putD (gF kvs) (.inl k) (.int v)=gF (jK kvs k v):=by
 unfold putD jK;rw[Bv];split
 ·show List.map _ (List.map _ kvs)=List.map _ (List.map _ kvs);rw[List.map_map,List.map_map];refine List.map_congr_left λq _=>?_
  show(if(Sum.inl q.1:ba)=Sum.inl k then _ else _)=_
  by_cases h:q.1=k
  ·rw[if_pos (by rw[h])];show _=((λq=>(Sum.inl q.1,D.int q.2)) (if q.1=k then(q.1,v) else q):ba×D);rw[if_pos h]
  ·rw[if_neg λe=>h (Sum.inl.inj e)];show _=((λq=>(Sum.inl q.1,D.int q.2)) (if q.1=k then(q.1,v) else q):ba×D);rw[if_neg h]
 ·show _=List.map _ (kvs++[(k,v)]);rw[List.map_append];rfl
theorem uR: ∀kvs:List (Int×Int),hU (gF kvs)=some (kvs.map (·.1))
 | []=>rfl
 |q::r=>by show(hU (gF r)).map (q.1:: ·)=_;rw[uR r];rfl
theorem xu(kvs:List (Int×Int))(k v:Int):(jK kvs k v).length<=kvs.length+1:=by
 unfold jK;split
 ·rw[List.length_map];omega
 ·rw[List.length_append];simp
theorem qr: ∀(L kvs:List (Int×Int)),(L.foldl ir kvs).length<=kvs.length+L.length
 | [],kvs=>by simp
 |p::L,kvs=>by
  rw[List.foldl_cons];have h1:=qr L (ir kvs p);have h2:=xu kvs p.1 (vI kvs p.1+p.2);have h3:(ir kvs p).length<=kvs.length+1:=h2;rw[List.length_cons];omega
theorem kP(kvs:List (Int×Int))(k v:Int):(jK kvs k v).map (·.1)=if k∈kvs.map (·.1) then kvs.map (·.1) else kvs.map (·.1)++[k]:=by
 have e:(kvs.any λq=>decide (q.1=k))=decide (k∈kvs.map (·.1)):=by
  rw[Bool.eq_iff_iff,List.any_eq_true,decide_eq_true_eq,List.mem_map];constructor
  ·rintro⟨q,h1,h2⟩;exact⟨q,h1,by simpa using h2⟩
  ·rintro⟨q,h1,h2⟩;exact⟨q,h1,by simpa using h2⟩
 unfold jK;rw[e]
 by_cases h:k∈kvs.map (·.1)
 ·rw[if_pos (decide_eq_true h),if_pos h,List.map_map];refine List.map_congr_left λq _=>?_
  show(if q.1=k then(q.1,v) else q).1=q.1;split<;>rfl
 ·rw[if_neg (by rw[decide_eq_false h];simp),if_neg h,List.map_append];rfl
theorem lA: ∀(L kvs:List (Int×Int)),(kvs.map (·.1)).Nodup->((L.foldl ir kvs).map (·.1)).Nodup
 | [],kvs,h=>h
 |p::L,kvs,h=>by
  rw[List.foldl_cons];refine lA L _ ?_
  show((jK kvs p.1 (vI kvs p.1+p.2)).map (·.1)).Nodup;rw[kP];split
  ·exact h
  ·rename_i hn
   rw[List.nodup_append];exact⟨h,by simp,λa ha b hb e=>by rw[List.mem_singleton.mp hb] at e;exact hn (e▸ha)⟩
theorem iG {k:Int}: ∀ {kvs:List (Int×Int)},k∈kvs.map (·.1)->(kvs.find? λq=>decide (q.1=k)).map (λq=>D.int q.2)=some (.int (vI kvs k))
 | [],h=>nomatch h
 |q::r,h=>by
  unfold vI;rw[List.find?_cons]
  by_cases e:q.1=k
  ·rw[decide_eq_true e];rfl
  ·rw[decide_eq_false e];have:k∈r.map (·.1):=by
    rw[List.map_cons] at h;rcases List.mem_cons.mp h with h|h
    ·exact absurd h.symm e
    ·exact h
   exact iG this
def bj(L:List (Int×Int)):List (Int×Int):=((cz iH ((mT L).map (·.1))).filter λp=> !decide (vI (mT L) p=0)).map λp=>(p,vI (mT L) p)
def SumI(S:List (Int×Int)):Prop:=(∀p∈S,p.2≠0)/\S.Pairwise λp q=>p.1<q.1
theorem rj {l:List Int}(nd:l.Nodup):(cz iH l).Pairwise (·< ·):=by
 have h1:=kc Dn l;have h2:(cz iH l).Nodup:=(bB (lt:=iH) l).nodup_iff.mpr nd;have:=List.pairwise_and_iff.mpr ⟨h1,h2⟩;refine this.imp λ{a b} ⟨q1,q2⟩=>?_
 simp only[iH,decide_eq_false_iff_not] at q1;have q2:a≠b:=q2;omega
theorem dY(L:List (Int×Int)):SumI (bj L):=by
 refine⟨λp hp=>?_,?_⟩
 ·obtain⟨k,hk,rfl⟩:=List.mem_map.mp hp;have:=(List.mem_filter.mp hk).2;simpa using this
 ·unfold bj;rw[List.pairwise_map];exact(rj (lA L [] List.nodup_nil)).filter _
theorem qW(L:List (Int×Int)):(bj L).length<=L.length:=by
 unfold bj;rw[List.length_map];refine Nat.le_trans (List.length_filter_le _ _) ?_
 rw[(bB (lt:=iH) _).length_eq,List.length_map];have:=qr L [];simpa [mT] using this
theorem Av(ds:List D):qS ds (some 1) none=ds.drop 1:=by
 unfold qS;rw[HT.sIx_none,show(some (1:Int))=some ((1:Nat):Int) from rfl,HT.sIx_nat];cases ds with
 |nil=>rfl
 |cons x r=>
  rw[show min 1 (x::r).length=1 by simp,List.drop_succ_cons,List.drop_zero];rw[List.take_of_length_le (by simp)]
theorem yr {S:List (Int×Int)}(h:SumI S)(hl:S.length<=900):vf [.lst (S.map pD)]=some (.bl true):=by
 apply fX (kd:=.s) (n:=2) (t:=kC);unfold kC;rw[aE (eE (iO (b:=true) (ke rfl)))];refine oi (λρ=> ∃s1,ρ=[.v (.lst (S.map pD)),s1]) (lu (ds:=S.map pD) (dS (gA rfl)) (lC _ (λd hd ρ hρ=>?_) _ ⟨_,rfl⟩)) λρ' hρ'=>?_
 ·obtain⟨p,hp,rfl⟩:=List.mem_map.mp hd;obtain⟨s1,rfl⟩:=hρ;refine⟨_,[.v (.lst (S.map pD)),.v (pD p)],rfl,eE (iU (a:=false) (b:=false) (iO (b:=true) (ke rfl)) (iU (a:=false) (b:=false) (cC ?_) (iU (a:=false) (b:=false) (iO (b:=true) (ke rfl)) (iO (b:=true) (ke rfl))))),⟨_,rfl⟩⟩;exact(az (x:=.int 2) (y:=.int 2) rfl rfl).trans (j0 (by rw[db];omega))
 ·obtain⟨s1,rfl⟩:=hρ';refine⟨_,cx (sD (yz (cC ?_) (cC ?_)))⟩
  ·refine(gG (ds:=[.lst ((S.map λ_=>true).map D.bl)]) (ay (fj (ds:=S.map pD) (gA rfl) (by rw[List.length_map];omega) ?_) rfl)).trans ((uy _).trans (by simp));refine(dO (h:=pD) (o:=λ_=>.bl true) S λp hp=>⟨_,rfl,?_⟩).trans (by rw[List.map_map];rfl);refine(az (x:=.int p.2) (y:=.int 0) rfl rfl).trans ?_
   rw[j6 (by rw[db];omega),fC,decide_eq_false (h.1 p hp)];rfl
  ·have z:sV (ai 0) (mP (ai 0) (xW (am (.int 1))) yy) [.v (.lst (S.map pD)),s1]=some ((List.range (S.length-1)).map λ(i:Nat)=>D.tup [pD (S.getD i (0,0)),pD (S.getD (i+1) (0,0))]):=by
    have cut:mP (ai 0) (xW (am (.int 1))) yy [.v (.lst (S.map pD)),s1]=some (.lst ((S.map pD).drop 1)):=by
     have:mP (ai 0) (xW (am (.int 1))) yy [.v (.lst (S.map pD)),s1]=some (.lst (qS (S.map pD) (some 1) none)):=rfl;rw[this,Av]
    unfold sV;rw[cut];show some (rJ (S.map pD) ((S.map pD).drop 1))=_;unfold rJ;rw[List.length_drop,List.length_map,show min S.length (S.length-1)=S.length-1 by omega];congr 1;refine List.map_congr_left λi hi=>?_
    rw[List.mem_range] at hi;have g: ∀j,j<S.length->(S.map pD)[j]? =some (pD (S.getD j (0,0))):=λj hj=>by rw[List.getElem?_map,List.getElem?_eq_getElem hj,List.getD_eq_getElem?_getD,List.getElem?_eq_getElem hj];rfl
    congr 2
    ·rw[List.getD_eq_getElem?_getD,g i (by omega)];rfl
    ·congr 1;rw[List.getD_eq_getElem?_getD,List.getElem?_drop,Nat.add_comm 1 i,g (i+1) (by omega)];rfl
   refine(gG (ds:=[.lst (((List.range (S.length-1)).map λ_=>true).map D.bl)]) (ay (fj z (by rw[List.length_map,List.length_range];omega) ?_) rfl)).trans ((uy _).trans (by simp));refine(dO (h:=λ(i:Nat)=>D.tup [pD (S.getD i (0,0)),pD (S.getD (i+1) (0,0))]) (o:=λ_=>.bl true) (List.range (S.length-1)) λi hi=>⟨_,rfl,?_⟩).trans (by rw[List.map_map];rfl);rw[List.mem_range] at hi;refine(az (x:=.int (S.getD i (0,0)).1) (y:=.int (S.getD (i+1) (0,0)).1) rfl rfl).trans ?_
   have lt:(S.getD i (0,0)).1<(S.getD (i+1) (0,0)).1:=by
    have:=(List.pairwise_iff_getElem.mp h.2) i (i+1) (by omega) (by omega) (by omega);rw[List.getD_eq_getElem?_getD,List.getD_eq_getElem?_getD,List.getElem?_eq_getElem (show i<S.length by omega),List.getElem?_eq_getElem (show i+1<S.length by omega)];exact this
   rw[lB,decide_eq_true lt]
theorem Bag.mono {N M:Nat}{a b:Int}(B:Bag N a b)(h:N<=M):Bag M a b:=⟨B.1,B.2,B.3,by have:=B.4;omega,B.5⟩
def sg(L:List (Int×Int))(p:Int):Int:=((L.filter λq=>decide (q.1=p)).map (·.2)).sum
theorem er(q:Int×Int)(L:List (Int×Int))(p:Int):sg (q::L) p=(if q.1=p then q.2 else 0)+sg L p:=by
 unfold sg;rw[List.filter_cons]
 by_cases h:q.1=p
 ·rw[if_pos (by simpa using h),if_pos h];simp
 ·rw[if_neg (by simpa using h),if_neg h];simp
theorem A1(p:Int):vI [] p=0:=rfl
theorem hX(q:Int×Int)(r:List (Int×Int))(p:Int):vI (q::r) p=if q.1=p then q.2 else vI r p:=by
 unfold vI;rw[List.find?_cons]
 by_cases h:q.1=p
 ·rw[decide_eq_true h,if_pos h];rfl
 ·rw[decide_eq_false h,if_neg h]
theorem sK(k v p:Int): ∀kvs:List (Int×Int),(k∈kvs.map (·.1))->vI (kvs.map (λq=>if q.1=k then(q.1,v) else q)) p=if p=k then v else vI kvs p
 | [],h=>nomatch h
 |q::r,h=>by
  rw[List.map_cons,hX,hX]
  by_cases h1:q.1=k
  ·rw[if_pos h1]
   by_cases h2:p=k
   ·rw[if_pos h2,if_pos (by show q.1=p;rw[h1,h2])]
   ·rw[if_neg h2,if_neg (by show¬q.1=p;rw[h1];exact λe=>h2 e.symm),if_neg (by rw[h1];exact λe=>h2 e.symm)]
    by_cases h3:k∈r.map (·.1)
    ·rw[sK k v p r h3,if_neg h2]
    ·have:r.map (λq=>if q.1=k then(q.1,v) else q)=r:=by
      conv=>rhs;rw[<-List.map_id r]
      refine List.map_congr_left λx hx=>?_
      rw[if_neg];rfl;exact λe=>h3 (List.mem_map.mpr ⟨x,hx,e⟩)
     rw[this]
  ·rw[if_neg h1];have h3:k∈r.map (·.1):=by
    rw[List.map_cons] at h;rcases List.mem_cons.mp h with h|h
    ·exact absurd h.symm h1
    ·exact h
   rw[sK k v p r h3]
   by_cases h2:q.1=p
   ·rw[if_pos h2,if_pos h2,if_neg];intro e;exact h1 (h2.trans e)
   ·rw[if_neg h2,if_neg h2]
theorem uQ(k v p:Int): ∀kvs:List (Int×Int),(k∉kvs.map (·.1))->vI (kvs++[(k,v)]) p=if p=k then v else vI kvs p
 | [],_=>by
   rw[List.nil_append,hX]
   by_cases h:p=k
   ·rw[if_pos h,if_pos h.symm]
   ·rw[if_neg h,if_neg λe=>h e.symm]
 |q::r,h=>by
  rw[List.map_cons,List.mem_cons,not_or] at h;rw[List.cons_append,hX,hX,uQ k v p r h.2]
  by_cases h2:q.1=p
  ·rw[if_pos h2,if_pos h2,if_neg];intro e;exact h.1 (e▸h2.symm)
  ·rw[if_neg h2,if_neg h2]
theorem wV(kvs:List (Int×Int))(k v p:Int):vI (jK kvs k v) p=if p=k then v else vI kvs p:=by
 have e:(kvs.any λq=>decide (q.1=k))=true↔k∈kvs.map (·.1):=by
  rw[List.any_eq_true,List.mem_map];constructor
  ·rintro⟨q,h1,h2⟩;exact⟨q,h1,by simpa using h2⟩
  ·rintro⟨q,h1,h2⟩;exact⟨q,h1,by simpa using h2⟩
 unfold jK;split
 ·rename_i h;exact sK k v p kvs (e.mp h)
 ·rename_i h;exact uQ k v p kvs λz=>h (e.mpr z)
theorem uB(p:Int): ∀(L kvs:List (Int×Int)),vI (L.foldl ir kvs) p=vI kvs p+sg L p
 | [],kvs=>by rw[List.foldl_nil];show _=_+0;rw[Int.add_zero]
 |q::L,kvs=>by
  rw[List.foldl_cons,uB p L,er];show vI (jK kvs q.1 (vI kvs q.1+q.2)) p+_=_;rw[wV]
  by_cases h:p=q.1
  ·rw[if_pos h,if_pos h.symm,h];omega
  ·rw[if_neg h,if_neg λe=>h e.symm];omega
theorem gQ(p:Int): ∀(L kvs:List (Int×Int)),p∈(L.foldl ir kvs).map (·.1)↔p∈kvs.map (·.1)\/p∈L.map (·.1)
 | [],kvs=>by simp
 |q::L,kvs=>by
  rw[List.foldl_cons,gQ p L];show p∈(jK kvs q.1 (vI kvs q.1+q.2)).map (·.1)\/_↔_;rw[kP,List.map_cons,List.mem_cons];split
  ·rename_i h
   constructor
   ·rintro(h1|h1)
    ·exact .inl h1
    ·exact .inr (.inr h1)
   ·rintro(h1|h1|h1)
    ·exact .inl h1
    ·exact .inl (h1▸h)
    ·exact .inr h1
  ·rw[List.mem_append,List.mem_singleton];constructor
   ·rintro((h1|h1)|h1)
    ·exact .inl h1
    ·exact .inr (.inl h1)
    ·exact .inr (.inr h1)
   ·rintro(h1|h1|h1)
    ·exact .inl (.inl h1)
    ·exact .inl (.inr h1)
    ·exact .inr h1
theorem yu(L:List (Int×Int))(p:Int):vI (mT L) p=sg L p:=by unfold mT;rw[uB,A1,Int.zero_add]
def xv(M:List Int)(s:Int->Int)(S:List (Int×Int)):Prop:=(S.Pairwise λp q=>p.1<q.1)/\ ∀x,x∈S↔x.1∈M/\s x.1≠0/\x.2=s x.1
theorem tj {M:List Int}{s:Int->Int}{S T:List (Int×Int)}(h:xv M s S)(h':xv M s T):S=T:=by
 have nd: ∀ {U:List (Int×Int)},(U.Pairwise λp q=>p.1<q.1)->U.Nodup:=λh=>h.imp λq e=>by subst e;omega
 refine List.Perm.eq_of_pairwise (λa b _ _ h1 h2=>?_) h.1 h'.1 ((List.perm_ext_iff_of_nodup (nd h.1) (nd h'.1)).mpr λx=>by rw[h.2,h'.2]);omega
theorem lN(L:List (Int×Int)):xv (L.map (·.1)) (sg L) (bj L):=by
 refine⟨(dY L).2,λx=>?_⟩;unfold bj;rw[List.mem_map];constructor
 ·rintro⟨p,hp,rfl⟩;obtain⟨h1,h2⟩:=List.mem_filter.mp hp;have h3:=(bB (lt:=iH) _).mem_iff.mp h1;have h4:=(gQ p L []).mp h3;rw[yu] at h2⊢;refine⟨?_,by simpa using h2,rfl⟩;rcases h4 with h4|h4
  ·exact nomatch h4
  ·exact h4
 ·rintro⟨h1,h2,h3⟩;refine⟨x.1,List.mem_filter.mpr ⟨(bB (lt:=iH) _).mem_iff.mpr ((gQ x.1 L []).mpr (.inr h1)),by rw[yu];simpa using h2⟩,?_⟩;rw[yu,<-h3]
theorem uz: ∀M:List (Int×Int),ft (M.map pD)<=1
 | []=>by rw[List.map_nil];unfold ft;omega
 |p::M=>by
  rw[List.map_cons];unfold ft;have ih:=uz M;have:eF (pD p)=1:=by
   show eF (.tup [.int p.1,.int p.2])=1;unfold eF ft ft ft;rw[db,db];rfl
  omega
theorem um(L:List (Int×Int)):eF (.lst (L.map pD))<=32:=by unfold eF;have:=uz L;omega
theorem CN: ∀L:List (Int×Int),u8 (L.map pD)=true
 | []=>by rw[List.map_nil];unfold u8;rfl
 |p::L=>by
  rw[List.map_cons];unfold u8;rw[CN L,Bool.and_true];show LF (.tup [.int p.1,.int p.2])=true;unfold LF u8 u8 u8 LF;rfl
def gu(L M:List (Int×Int)):List (Int×Int):=L.flatMap λp=>M.map λq=>(p.1+q.1,p.2*q.2)
structure Bnd(R c N:Nat)(L:List (Int×Int)):Prop where
 len:L.length<=N
 pow: ∀q∈L, -(R:Int)<=q.1/\q.1<=R
 cf: ∀q∈L,q.2.natAbs<=c
theorem qv {b:Int}: ∀ {l:List Int} {a:Int},l.Pairwise (·< ·)->(∀x∈l,a<=x/\x<=b)->(l.length:Int)<=max 0 (b-a+1)
 | [],a,_,_=>by simp;omega
 |x::l,a,h,r=>by
  rw[List.pairwise_cons] at h;have:=qv (a:=x+1) h.2 λy hy=>⟨h.1 y hy,(r y (List.mem_cons_of_mem _ hy)).2⟩
  have:=r x List.mem_cons_self;rw[List.length_cons];omega
theorem jJ {R:Nat}{l:List Int}(nd:l.Nodup)(r: ∀x∈l, -(R:Int)<=x/\x<=R):l.length<=2*R+1:=by
 have h:=qv (a:= -(R:Int)) (b:=R) (rj nd) λx hx=>r x ((bB (lt:=iH) _).mem_iff.mp hx)
 rw[(bB (lt:=iH) _).length_eq] at h;omega
theorem sk {c:Nat}: ∀ {L:List (Int×Int)},(∀q∈L,q.2.natAbs<=c)-> ∀p,(sg L p).natAbs<=L.length*c
 | [],_,p=>by simp[sg]
 |q::L,h,p=>by
  have:=sk (λx hx=>h x (List.mem_cons_of_mem _ hx)) p;have:=h q List.mem_cons_self;rw[er,List.length_cons,Nat.succ_mul];split<;>omega
theorem pw_len: ∀L M:List (Int×Int),(gu L M).length=L.length*M.length
 | [],M=>by simp[gu]
 |a::L,M=>by
  have ih:=pw_len L M;unfold gu at ih⊢;rw[List.flatMap_cons,List.length_append,List.length_map,ih,List.length_cons,Nat.succ_mul];omega
theorem Bnd.pw {R c N R' c' N':Nat}{L M:List (Int×Int)}(h:Bnd R c N L)(h':Bnd R' c' N' M):Bnd (R+R') (c*c') (N*N') (gu L M):=by
 refine⟨by rw[pw_len];exact Nat.mul_le_mul h.len h'.len,λq hq=>?_,λq hq=>?_⟩
 ·obtain⟨p,hp,hq⟩:=List.mem_flatMap.mp hq;obtain⟨r,hr,rfl⟩:=List.mem_map.mp hq;have:=h.pow p hp;have:=h'.pow r hr;dsimp only;omega
 ·obtain⟨p,hp,hq⟩:=List.mem_flatMap.mp hq;obtain⟨r,hr,rfl⟩:=List.mem_map.mp hq;dsimp only;rw[Int.natAbs_mul];exact Nat.mul_le_mul (h.cf p hp) (h'.cf r hr)
set_option maxHeartbeats 1000000
abbrev bf:=List (Int×Int)
theorem kA(p:Int):sg [] p=0:=rfl
theorem tu(L M:bf)(p:Int):sg (L++M) p=sg L p+sg M p:=by
 unfold sg;rw[List.filter_append,List.map_append,List.sum_append]
theorem xh(p:Int): ∀L:bf,sg (L.map λq=>(q.1, -q.2)) p= - sg L p
 | []=>rfl
 |q::L=>by
  rw[List.map_cons,er,xh p L,er];dsimp only;split<;>omega
theorem AF(s c p:Int): ∀M:bf,sg (M.map λq=>(s+q.1,c*q.2)) p=c*sg M (p-s)
 | []=>by rw[List.map_nil,kA,kA,Int.mul_zero]
 |q::M=>by
  rw[List.map_cons,er,AF s c p M,er,Int.mul_add];congr 1;dsimp only
  by_cases h:s+q.1=p
  ·rw[if_pos h,if_pos (by omega)]
  ·rw[if_neg h,if_neg (by omega),Int.mul_zero]
theorem iy(a:Int×Int)(L M:bf)(p:Int):sg (gu (a::L) M) p=a.2*sg M (p-a.1)+sg (gu L M) p:=by
 unfold gu;rw[List.flatMap_cons,tu,AF]
theorem oU(M:bf)(p:Int):sg (gu [] M) p=0:=rfl
theorem jz(M:bf)(p:Int): ∀L K:bf,sg (gu (L++K) M) p=sg (gu L M) p+sg (gu K M) p
 | [],K=>by rw[List.nil_append,oU,Int.zero_add]
 |a::L,K=>by rw[List.cons_append,iy,iy,jz M p L K,Int.add_assoc]
theorem jp(a:Int×Int)(M:bf)(p:Int):sg (gu [a] M) p=a.2*sg M (p-a.1):=by rw[iy,oU,Int.add_zero]
theorem iC {p:Int}: ∀ {L:bf},(∀q∈L,q.1≠p)->sg L p=0
 | [],_=>rfl
 |q::L,h=>by rw[er,if_neg (h q List.mem_cons_self),iC λr hr=>h r (List.mem_cons_of_mem _ hr),Int.zero_add]
theorem SumI.sg_mem {p v:Int}: ∀ {S:bf},SumI S->(p,v)∈S->sg S p=v
 | [],_,h=>absurd h List.not_mem_nil
 |q::S,hs,h=>by
  have pw:=List.pairwise_cons.mp hs.2;rw[er];rcases List.mem_cons.mp h with rfl|h
  ·rw[if_pos rfl,iC λr hr=>by have:=pw.1 r hr;dsimp only at this;omega,Int.add_zero]
  ·have:=pw.1 _ h;dsimp only at this;rw[if_neg (by omega),Int.zero_add];exact SumI.sg_mem ⟨λr hr=>hs.1 r (List.mem_cons_of_mem _ hr),pw.2⟩ h
theorem SumI.mem_sg {p:Int}{S:bf}(hs:SumI S)(h:sg S p≠0):(p,sg S p)∈S:=by
 by_cases e: ∃q∈S,q.1=p
 ·obtain⟨⟨a,v⟩,hq,rfl⟩:=e;rw[hs.sg_mem hq];exact hq
 ·exact absurd (iC λq hq z=>e ⟨q,hq,z⟩) h
theorem SumI.mem_iff {S:bf}(hs:SumI S)(p v:Int):(p,v)∈S↔v≠0/\sg S p=v:=by
 constructor
 ·intro h;exact⟨hs.1 _ h,hs.sg_mem h⟩
 ·rintro⟨h0,rfl⟩;exact hs.mem_sg h0
theorem uf {S T:bf}(hs:SumI S)(ht:SumI T)(h: ∀p,sg S p=sg T p):S=T:=by
 refine tj (M:=S.map (·.1)++T.map (·.1)) (s:=sg S) ⟨hs.2,λx=>?_⟩ ⟨ht.2,λx=>?_⟩
 ·rw[show(x∈S)↔((x.1,x.2)∈S) from Iff.rfl,hs.mem_iff];constructor
  ·rintro⟨h1,h2⟩;have:=(hs.mem_iff x.1 x.2).mpr ⟨h1,h2⟩;exact⟨List.mem_append_left _ (List.mem_map_of_mem (f:=(·.1)) this),by rw[h2];exact h1,h2.symm⟩
  ·rintro⟨_,h1,h2⟩;exact⟨by rw[h2];exact h1,h2.symm⟩
 ·rw[show(x∈T)↔((x.1,x.2)∈T) from Iff.rfl,ht.mem_iff];constructor
  ·rintro⟨h1,h2⟩;have:=(ht.mem_iff x.1 x.2).mpr ⟨h1,h2⟩;exact⟨List.mem_append_right _ (List.mem_map_of_mem (f:=(·.1)) this),by rw[h,h2];exact h1,by rw[h,h2]⟩
  ·rintro⟨_,h1,h2⟩;exact⟨by rw[h2];exact h1,by rw[<-h];exact h2.symm⟩
theorem lH(L:bf)(p:Int):sg (bj L) p=sg L p:=by
 have T:=lN L
 by_cases h:sg L p=0
 ·rw[h];refine iC λq hq z=>?_
  obtain⟨_,h2,_⟩:=(T.2 q).mp hq;rw[z] at h2;exact h2 h
 ·refine(dY L).sg_mem ((T.2 (p,sg L p)).mpr ⟨?_,h,rfl⟩)
  by_cases e: ∃q∈L,q.1=p
  ·obtain⟨q,hq,z⟩:=e;exact List.mem_map.mpr ⟨q,hq,z⟩
  ·exact absurd (iC λq hq z=>e ⟨q,hq,z⟩) h
theorem SumI.top {S:bf}(hs:SumI S){t o:Int}(h:S.getLast?=some (t,o)):sg S t=o/\o≠0/\(∀p,t<p->sg S p=0):=by
 obtain⟨S',rfl⟩:=List.getLast?_eq_some_iff.mp h;have m:(t,o)∈S'++[(t,o)]:=List.mem_append_right _ (List.mem_singleton.mpr rfl);refine⟨hs.sg_mem m,hs.1 _ m,λp hp=>iC λq hq z=>?_⟩;rcases List.mem_append.mp hq with hq|hq
 ·have:=(List.pairwise_append.mp hs.2).2.2 q hq (t,o) (List.mem_singleton.mpr rfl);dsimp only at this;omega
 ·rw[List.mem_singleton.mp hq] at z;dsimp only at z;omega
theorem SumI.low {S:bf}(hs:SumI S){t o:Int}(h:S.head?=some (t,o)):sg S t=o/\o≠0/\(∀p,p<t->sg S p=0):=by
 cases S with
 |nil=>cases h
 |cons a S=>
  have h:a=(t,o):=Option.some.inj h;subst h;have pw:=List.pairwise_cons.mp hs.2;refine⟨hs.sg_mem List.mem_cons_self,hs.1 _ List.mem_cons_self,λp hp=>iC λq hq z=>?_⟩;rcases List.mem_cons.mp hq with rfl|hq
  ·dsimp only at z;omega
  ·have:=pw.1 q hq;dsimp only at this;omega
theorem pw_above {M:bf}{pw:Int}(hM: ∀p,pw<p->sg M p=0){s:Int}: ∀ {L:bf},(∀a∈L,a.1<s)-> ∀p,s+pw<=p->sg (gu L M) p=0
 | [],_,p,_=>rfl
 |a::L,h,p,hp=>by
  have:=h a List.mem_cons_self;rw[iy,pw_above hM (λb hb=>h b (List.mem_cons_of_mem _ hb)) p hp,hM _ (by omega),Int.mul_zero,Int.add_zero]
theorem pw_below {M:bf}{pw:Int}(hM: ∀p,p<pw->sg M p=0){s:Int}: ∀ {L:bf},(∀a∈L,s<a.1)-> ∀p,p<=s+pw->sg (gu L M) p=0
 | [],_,p,_=>rfl
 |a::L,h,p,hp=>by
  have:=h a List.mem_cons_self;rw[iy,pw_below hM (λb hb=>h b (List.mem_cons_of_mem _ hb)) p hp,hM _ (by omega),Int.mul_zero,Int.add_zero]
theorem SumI.init {S:bf}{a:Int×Int}(h:SumI (S++[a])):SumI S/\ ∀b∈S,b.1<a.1:=
 ⟨⟨λq hq=>h.1 q (List.mem_append_left _ hq),(List.pairwise_append.mp h.2).1⟩,λb hb=>(List.pairwise_append.mp h.2).2.2 b hb a (List.mem_singleton.mpr rfl)⟩
theorem SumI.tail {S:bf}{a:Int×Int}(h:SumI (a::S)):SumI S/\ ∀b∈S,a.1<b.1:=
 ⟨⟨λq hq=>h.1 q (List.mem_cons_of_mem _ hq),(List.pairwise_cons.mp h.2).2⟩,(List.pairwise_cons.mp h.2).1⟩
theorem SumI.top_is {S:bf}(hs:SumI S){t o:Int}(h0:o≠0)(h1:sg S t=o)(h2: ∀p,t<p->sg S p=0):S.getLast?=some (t,o):=by
 cases e:S.getLast? with
 |none=>rw[List.getLast?_eq_none_iff.mp e,kA] at h1;exact absurd h1.symm h0
 |some a=>
  obtain⟨t',o'⟩:=a;obtain⟨g1,g2,g3⟩:=hs.top e;have l1: ¬t<t':=λz=>g2 (by rw[<-g1];exact h2 _ z)
  have l2: ¬t'<t:=λz=>h0 (by rw[<-h1];exact g3 _ z)
  have et:t'=t:=by omega
  subst et;rw[<-g1,h1]
theorem SumI.low_is {S:bf}(hs:SumI S){t o:Int}(h0:o≠0)(h1:sg S t=o)(h2: ∀p,p<t->sg S p=0):S.head?=some (t,o):=by
 cases e:S.head? with
 |none=>rw[List.head?_eq_none_iff.mp e,kA] at h1;exact absurd h1.symm h0
 |some a=>
  obtain⟨t',o'⟩:=a;obtain⟨g1,g2,g3⟩:=hs.low e;have l1: ¬t'<t:=λz=>g2 (by rw[<-g1];exact h2 _ z)
  have l2: ¬t<t':=λz=>h0 (by rw[<-h1];exact g3 _ z)
  have et:t'=t:=by omega
  subst et;rw[<-g1,h1]
theorem zh {S:bf}(hs:SumI S)(h: ∀p,sg S p=0):S=[]:=uf hs ⟨λ_ h=>absurd h List.not_mem_nil,.nil⟩ λp=>h p
def iR(left:bf)(a:Int×Int)(M:bf):bf:=bj (left++(bj (gu [a] M)).map λq=>(q.1, -q.2))
theorem i8(left:bf)(a:Int×Int)(M:bf)(p:Int):sg (iR left a M) p=sg left p-a.2*sg M (p-a.1):=by
 unfold iR;rw[lH,tu,xh,lH,jp];omega
def gH(lo pw mn:Int)(M:bf):Nat->bf->bf->Option (Option bf)
 |0,_,_=>none
 |f+1,left,found=>match left.getLast? with
  |none=>some (some found)
  |some a=>if a.1-pw<lo\/a.2.fmod mn≠0 then some none else gH lo pw mn M f (iR left (a.1-pw,a.2.fdiv mn) M) ((a.1-pw,a.2.fdiv mn)::found)
section
variable {lo pw mn:Int}{M:bf}(hM:SumI M)(hl:M.getLast?=some (pw,mn))
include hM hl
theorem tK: ∀(n:Nat) (q:bf),q.length=n->SumI q->(∀a∈q,lo<=a.1)-> ∀(left found:bf) (f:Nat),SumI left->(∀p,sg left p=sg (gu q M) p)->n<f->gH lo pw mn M f left found=some (some (q++found))
 |n,q,en,hq,hlo,left,found,0,hL,e,hf=>absurd hf (Nat.not_lt_zero _)
 |0,q,en,hq,hlo,left,found,f+1,hL,e,hf=>by
  have:q=[]:=List.length_eq_zero_iff.mp en;subst this;have:left=[]:=zh hL λp=>by rw[e,oU]
  subst this;rfl
 |n+1,q,en,hq,hlo,left,found,f+1,hL,e,hf=>by
  obtain⟨g1,g2,g3⟩:=hM.top hl;rcases List.eq_nil_or_concat q with rfl|⟨q',a,rfl⟩
  ·cases en
  ·rw[List.concat_eq_append] at*;obtain⟨s,c⟩:=a;obtain⟨hq',ab⟩:=hq.init;have c0:c≠0:=hq.1 (s,c) (List.mem_append_right _ (List.mem_singleton.mpr rfl));have tp:left.getLast?=some (s+pw,c*mn):=by
    refine hL.top_is (Int.mul_ne_zero c0 g2) ?_ λp hp=>?_
    ·rw[e,jz,jp,pw_above g3 ab _ (by omega)];dsimp only;rw[show s+pw-s=pw by omega,g1,Int.zero_add]
    ·rw[e,jz,jp,pw_above g3 ab _ (by dsimp only;omega)];dsimp only;rw[g3 _ (by omega),Int.mul_zero,Int.add_zero]
   have d1:(c*mn).fdiv mn=c:=Int.mul_fdiv_cancel _ g2;have d2:(c*mn).fmod mn=0:=Int.mul_fmod_left _ _;have es:s+pw-pw=s:=by omega
   unfold gH;rw[tp];dsimp only;rw[d1,es,if_neg (by
    rintro(h|h)
    ·have:=hlo (s,c) (List.mem_append_right _ (List.mem_singleton.mpr rfl));dsimp only at this;omega
    ·exact h d2)]
   rw[tK n q' (by simpa using en) hq' (λb hb=>hlo b (List.mem_append_left _ hb)) (iR left (s,c) M) ((s,c)::found) f (dY _) (λp=>by rw[i8,e,jz,jp];omega) (by omega),List.append_assoc];rfl
theorem nE: ∀(f:Nat) (left found:bf),SumI left->1<=f->(∀p,sg left p≠0->p-pw-lo+2<=f)->gH lo pw mn M f left found≠none
 |0,left,found,hL,h1,h2=>absurd h1 (by omega)
 |f+1,left,found,hL,h1,h2=>by
  obtain⟨g1,g2,g3⟩:=hM.top hl;unfold gH;cases e:left.getLast? with
  |none=>exact λz=>nomatch z
  |some a=>
   obtain⟨t,o⟩:=a;obtain⟨k1,k2,k3⟩:=hL.top e;dsimp only;split
   ·exact λz=>nomatch z
   ·rename_i hc
    have hc1: ¬t-pw<lo:=λz=>hc (.inl z)
    have hc2:o.fmod mn=0:=Decidable.byContradiction λz=>hc (.inr z)
    have b:=h2 t (by rw[k1];exact k2);have om:mn*o.fdiv mn=o:=by have:=Int.mul_fdiv_add_fmod o mn;omega
    refine nE f (iR left (t-pw,o.fdiv mn) M) _ (dY _) (by omega) λp hp=>?_
    rw[i8] at hp;dsimp only at hp;have lt:p<t:=by
     rcases Int.lt_trichotomy p t with l|l|l
     ·exact l
     ·subst l;rw[k1,show p- (p-pw)=pw by omega,g1,Int.mul_comm,om] at hp;omega
     ·rw[k3 _ l,g3 _ (by omega),Int.mul_zero] at hp;omega
    omega
theorem qH: ∀(f:Nat) (left found r:bf),SumI left->SumI found->(∀b∈found,∀p,sg left p≠0->p-pw<b.1)->gH lo pw mn M f left found=some (some r)->SumI r/\ ∃G,r=G++found/\ ∀p,sg left p=sg (gu G M) p
 |0,left,found,r,_,_,_,h=>nomatch h
 |f+1,left,found,r,hL,hF,hb,h=>by
  obtain⟨g1,g2,g3⟩:=hM.top hl;unfold gH at h;cases e:left.getLast? with
  |none=>
   rw[e] at h;have:found=r:=Option.some.inj (Option.some.inj h);subst this;exact⟨hF,[],rfl,λp=>by rw[List.getLast?_eq_none_iff.mp e];rfl⟩
  |some a=>
   rw[e] at h;obtain⟨t,o⟩:=a;obtain⟨k1,k2,k3⟩:=hL.top e;dsimp only at h;split at h
   ·cases h
   ·rename_i hc
    have hc2:o.fmod mn=0:=Decidable.byContradiction λz=>hc (.inr z)
    have om:mn*o.fdiv mn=o:=by have:=Int.mul_fdiv_add_fmod o mn;omega
    have c0:o.fdiv mn≠0:=λz=>by rw[z,Int.mul_zero] at om;exact k2 om.symm
    have F':SumI ((t-pw,o.fdiv mn)::found):=by
     refine⟨λq hq=>?_,List.pairwise_cons.mpr ⟨λb hbm=>hb b hbm t (by rw[k1];exact k2),hF.2⟩⟩;rcases List.mem_cons.mp hq with rfl|hq
     ·exact c0
     ·exact hF.1 q hq
    have lt: ∀p,sg (iR left (t-pw,o.fdiv mn) M) p≠0->p<t:=λp hp=>by
     rw[i8] at hp;dsimp only at hp;rcases Int.lt_trichotomy p t with l|l|l
     ·exact l
     ·subst l;rw[k1,show p- (p-pw)=pw by omega,g1,Int.mul_comm,om] at hp;omega
     ·rw[k3 _ l,g3 _ (by omega),Int.mul_zero] at hp;omega
    obtain⟨hr,G,rfl,hG⟩:=qH f (iR left (t-pw,o.fdiv mn) M) _ r (dY _) F' (λb hbm p hp=>by
     have l1:=lt p hp;rcases List.mem_cons.mp hbm with rfl|hbm
     ·dsimp only;omega
     ·have:=hb b hbm t (by rw[k1];exact k2);omega) h
    refine⟨hr,G++[(t-pw,o.fdiv mn)],by rw[List.append_assoc];rfl,λp=>?_⟩;have:=hG p;rw[i8] at this;rw[jz,jp,<-this];omega
end
theorem kh {lo pw mn:Int}{M:bf}: ∀(f k:Nat) (left found:bf) (x:Option bf),gH lo pw mn M f left found=some x->gH lo pw mn M (f+k) left found=some x
 |0,k,left,found,x,h=>nomatch h
 |f+1,k,left,found,x,h=>by
  rw[show f+1+k=(f+k)+1 by omega];unfold gH at h⊢;cases e:left.getLast? with
  |none=>rw[e] at h;exact h
  |some a=>
   rw[e] at h;dsimp only at h⊢;split
   ·rename_i hc;rw[if_pos hc] at h;exact h
   ·rename_i hc;rw[if_neg hc] at h;exact kh f k _ _ x h
theorem qi {one M:bf}(h1:SumI one)(hM:SumI M){pw mn l1 o1 lM oM:Int}(hl:M.getLast?=some (pw,mn))(hh:M.head?=some (lM,oM))(ho:one=[]\/one.head?=some (l1,o1)){f:Nat}(hf:gH (l1-lM) pw mn M f one []≠none)(r:bf):gH (l1-lM) pw mn M f one []=some (some r)↔SumI r/\ ∀p,sg one p=sg (gu r M) p:=by
 constructor
 ·intro h;obtain⟨hr,G,e,hG⟩:=qH hM hl f one [] r h1 ⟨λ_ h=>absurd h List.not_mem_nil,.nil⟩ (λb hb=>absurd hb List.not_mem_nil) h;rw[List.append_nil] at e;subst e;exact⟨hr,hG⟩
 ·rintro⟨hr,e⟩;have lo: ∀a∈r,l1-lM<=a.1:=λa ha=>by
   cases r with
   |nil=>exact absurd ha List.not_mem_nil
   |cons b r=>
    obtain⟨s,c⟩:=b;obtain⟨m1,m2,m3⟩:=hM.low hh;obtain⟨hr',ab⟩:=hr.tail;have c0:c≠0:=hr.1 (s,c) List.mem_cons_self;have key:one.head?=some (s+lM,c*oM):=by
     refine h1.low_is (Int.mul_ne_zero c0 m2) ?_ λp hp=>?_
     ·rw[e,iy,pw_below m3 ab _ (by dsimp only;omega)];dsimp only;rw[show s+lM-s=lM by omega,m1,Int.add_zero]
     ·rw[e,iy,pw_below m3 ab _ (by dsimp only;omega)];dsimp only;rw[m3 _ (by omega),Int.mul_zero,Int.add_zero]
    rcases ho with rfl|ho
    ·cases key
    ·rw[key] at ho;have:s+lM=l1:=congrArg Prod.fst (Option.some.inj ho);rcases List.mem_cons.mp ha with rfl|ha
     ·dsimp only;omega
     ·have:=ab a ha;dsimp only at this;omega
  have k:=tK (lo:=l1-lM) hM hl r.length r rfl hr lo one [] (r.length+1) h1 e (by omega);rw[List.append_nil] at k;cases hx:gH (l1-lM) pw mn M f one [] with
  |none=>exact absurd hx hf
  |some x=>
   have k1:=kh f (r.length+1) one [] x hx;have k2:=kh (r.length+1) f one [] _ k;rw[Nat.add_comm] at k2;rw[k1] at k2;exact k2
def pG(first low:Int)(M:bf):List Int->(Int->Int)->bf->Option ((Int->Int)×bf)
 | [],g,found=>some (g,found)
 |h::l,g,found=>if(g (h+low)).fmod first≠0 then none else if g (h+low)=0 then pG first low M l g found else pG first low M l (λp=>g p- (g (h+low)).fdiv first*sg M (p-h)) (found++[(h,(g (h+low)).fdiv first)])
section
variable {first low:Int}{M:bf}(hM:SumI M)(hh:M.head?=some (low,first))
include hM hh
theorem xr: ∀(l:List Int) (g:Int->Int) (found r:bf),l.Pairwise (·< ·)->SumI r->(∀a∈r,a.1∈l)->(∀p,g p=sg (gu r M) p)-> ∃g',pG first low M l g found=some (g',found++r)/\ ∀p,g' p=0
 | [],g,found,r,hl,hr,hm,e=>by
   have:r=[]:=List.eq_nil_iff_forall_not_mem.mpr λa ha=>absurd (hm a ha) List.not_mem_nil
   subst this;exact⟨g,by rw[List.append_nil];rfl,λp=>e p⟩
 |h::l,g,found,r,hl,hr,hm,e=>by
  obtain⟨m1,m2,m3⟩:=hM.low hh;have pw:=List.pairwise_cons.mp hl;have skip:(∀a∈r,a.1≠h)-> ∃g',pG first low M (h::l) g found=some (g',found++r)/\ ∀p,g' p=0:=λnh=>by
   have in': ∀a∈r,a.1∈l:=λa ha=>(List.mem_cons.mp (hm a ha)).resolve_left (nh a ha)
   have g0:g (h+low)=0:=by rw[e];exact pw_below m3 (s:=h) (λa ha=>pw.1 _ (in' a ha)) _ (by omega)
   unfold pG;rw[g0,if_neg (by rw[Int.zero_fmod];exact λz=>z rfl),if_pos rfl];exact xr l g found r pw.2 hr in' e
  cases r with
  |nil=>exact skip λa ha=>absurd ha List.not_mem_nil
  |cons a r=>
   obtain⟨s,c⟩:=a;obtain⟨hr',ab⟩:=hr.tail
   by_cases es:s=h
   ·subst es;have c0:c≠0:=hr.1 (s,c) List.mem_cons_self;have in': ∀b∈r,b.1∈l:=λb hb=>(List.mem_cons.mp (hm b (List.mem_cons_of_mem _ hb))).resolve_left (by have:=ab b hb;dsimp only at this;omega)
    have g0:g (s+low)=c*first:=by
     rw[e,iy,pw_below m3 ab _ (by dsimp only;omega)];dsimp only;rw[show s+low-s=low by omega,m1,Int.add_zero]
    have d1:(c*first).fdiv first=c:=Int.mul_fdiv_cancel _ m2
    have d2:(c*first).fmod first=0:=Int.mul_fmod_left _ _
    unfold pG;rw[g0,d1,if_neg (λz=>z d2),if_neg (Int.mul_ne_zero c0 m2)];obtain⟨g',k1,k2⟩:=xr l (λp=>g p-c*sg M (p-s)) (found++[(s,c)]) r pw.2 hr' in' λp=>by
     show g p-_=_;rw[e,iy];dsimp only;omega
    exact⟨g',by rw[k1,List.append_assoc];rfl,k2⟩
   ·refine skip λb hb z=>?_
    have hs:=List.mem_cons.mp (hm (s,c) List.mem_cons_self);have hs:s∈l:=hs.resolve_left es;have:=pw.1 s hs;rcases List.mem_cons.mp hb with rfl|hb
    ·exact es z
    ·have:=ab b hb;dsimp only at this;omega
theorem tf: ∀(l:List Int) (g g':Int->Int) (found r:bf),l.Pairwise (·< ·)->SumI found->(∀a∈found,∀h∈l,a.1<h)->pG first low M l g found=some (g',r)->SumI r/\ ∃G,r=found++G/\ ∀p,g p=sg (gu G M) p+g' p
 | [],g,g',found,r,hl,hF,hb,h=>by
   cases h;exact⟨hF,[],(List.append_nil _).symm,λp=>by rw[oU,Int.zero_add]⟩
 |k::l,g,g',found,r,hl,hF,hb,h=>by
  have pw:=List.pairwise_cons.mp hl;obtain⟨m1,m2,m3⟩:=hM.low hh;unfold pG at h;split at h
  ·cases h
  ·rename_i h1
   have h1:(g (k+low)).fmod first=0:=Decidable.byContradiction λz=>h1 z
   split at h
   ·exact tf l g g' found r pw.2 hF (λa ha j hj=>hb a ha j (List.mem_cons_of_mem _ hj)) h
   ·rename_i h2
    have om:first*(g (k+low)).fdiv first=g (k+low):=by have:=Int.mul_fdiv_add_fmod (g (k+low)) first;omega
    have c0:(g (k+low)).fdiv first≠0:=λz=>by rw[z,Int.mul_zero] at om;exact h2 om.symm
    obtain⟨hr,G,rfl,hG⟩:=tf l _ g' _ r pw.2 (show SumI (found++[(k,(g (k+low)).fdiv first)]) from⟨λq hq=>by
     rcases List.mem_append.mp hq with hq|hq
     ·exact hF.1 q hq
     ·rw[List.mem_singleton.mp hq];exact c0,List.pairwise_append.mpr ⟨hF.2,by simp,λa ha b hbm=>by rw[List.mem_singleton.mp hbm];exact hb a ha k List.mem_cons_self⟩⟩) (λa ha j hj=>by
     rcases List.mem_append.mp ha with ha|ha
     ·exact hb a ha j (List.mem_cons_of_mem _ hj)
     ·rw[List.mem_singleton.mp ha];exact pw.1 j hj) h
    refine⟨hr,(k,(g (k+low)).fdiv first)::G,by rw[List.append_assoc];rfl,λp=>?_⟩;have:=hG p
    skip
    rw[iy];dsimp only;omega
end
theorem pT {n:Nat}(h:n<=100000):n<=sizeLine:=Nat.le_trans h (by decide)
theorem mi(src:D): ∀(L kvs:List (Int×Int)) (s2 s3:Sl),(kvs.map (·.1)).Nodup->(∀k∈kvs.map (·.1), -(240:Int)<=k/\k<=240)->(∀q∈L, -(240:Int)<=q.1/\q.1<=240)-> ∃s2' s3',eN (gT 2 (cj (gN 2) (cj (gN 3) (fz)))) (iE 1 (ai 2) (ao aO (fy 1 (ai 2) (am (.int 0))) (ai 3))) (L.map pD) [.v src,.ob (.dK (gF kvs)),s2,s3]=.nx [.v src,.ob (.dK (gF (L.foldl ir kvs))),s2',s3']
 | [],kvs,s2,s3,_,_,_=>⟨s2,s3,rfl⟩
 |p::L,kvs,s2,s3,nd,rg,hL=>by
  have hl:=jJ (R:=240) nd rg;rw[List.length_map] at hl;have nd':((ir kvs p).map (·.1)).Nodup:=lA [p] kvs nd;have rg': ∀k∈(ir kvs p).map (·.1), -(240:Int)<=k/\k<=240:=λk hk=>by
   rcases(gQ k [p] kvs).mp hk with h|h
   ·exact rg k h
   ·have:k=p.1:=by simpa using h
    rw[this];exact hL p List.mem_cons_self
  obtain⟨s2',s3',ih⟩:=mi src L (ir kvs p) (.v (.int p.1)) (.v (.int p.2)) nd' rg' λq hq=>hL q (List.mem_cons_of_mem _ hq)
  refine⟨s2',s3',?_⟩;rw[List.map_cons,List.foldl_cons];have gt:fy 1 (ai 2) (am (.int 0)) [.v src,.ob (.dK (gF kvs)),.v (.int p.1),.v (.int p.2)]=some (.int (vI kvs p.1)):=by
   show some ((jg (gF kvs) (Sum.inl p.1)).getD (.int 0))=_;rw[iX];unfold vI;cases kvs.find? λq=>decide (q.1=p.1)<;>rfl
  have st:iE 1 (ai 2) (ao aO (fy 1 (ai 2) (am (.int 0))) (ai 3)) [.v src,.ob (.dK (gF kvs)),.v (.int p.1),.v (.int p.2)]=.nx [.v src,.ob (.dK (gF (ir kvs p))),.v (.int p.1),.v (.int p.2)]:=by
   have e:ao aO (fy 1 (ai 2) (am (.int 0))) (ai 3) [.v src,.ob (.dK (gF kvs)),.v (.int p.1),.v (.int p.2)]=some (.int (vI kvs p.1+p.2)):=(az gt (y:=.int p.2) rfl).trans (aU _ _);unfold iE;rw[e];show(if(gF kvs).length<=1000 then Out.nx [.v src,.ob (.dK (putD (gF kvs) (Sum.inl p.1) (.int (vI kvs p.1+p.2)))),.v (.int p.1),.v (.int p.2)] else .no)=_;rw[if_pos (by rw[List.length_map];omega),uD];rfl
  exact(eV (ρ1:=[.v src,.ob (.dK (gF kvs)),.v (.int p.1),.v (.int p.2)]) rfl st).trans ih
theorem iN(L:List (Int×Int))(hL: ∀q∈L, -(240:Int)<=q.1/\q.1<=240):kG [.lst (L.map pD)]=some (.lst ((bj L).map pD)):=by
 apply fX (kd:=.n) (n:=4) (t:=rQ);unfold rQ;have s0:uv 1 (cS 4 [.lst (L.map pD)])=.nx [.v (.lst (L.map pD)),.ob (.dK (gF [])),.no,.no]:=rfl;rw[aE s0];obtain⟨s2,s3,lp⟩:=mi (.lst (L.map pD)) L [] .no .no (by simp) (by simp) hL;rw[aE ((ic (ds:=L.map pD) (dS (gA rfl))).trans lp)];refine⟨_,cx ?_⟩;have nd:((mT L).map (·.1)).Nodup:=lA L [] (by simp);have hf:(mT L).length<=481:=by
  have:=jJ (R:=240) nd λk hk=>by
   rcases(gQ k L []).mp hk with h|h
   ·exact nomatch h
   ·obtain⟨q,hq,rfl⟩:=List.mem_map.mp h;exact hL q hq
  rw[List.length_map] at this;exact this
 show bL 1 (df (qX 1)) (gN 4) (bH (ao jf (rn 1 (ai 4)) (am (.int 0)))) (bZ (ae (ai 4) (ae (rn 1 (ai 4)) (ag)))) [.v (.lst (L.map pD)),.ob (.dK (gF (mT L))),s2,s3]=_;have so:qX 1 [.v (.lst (L.map pD)),.ob (.dK (gF (mT L))),s2,s3]=some (.lst ((cz iH ((mT L).map (·.1))).map D.int)):=by
  show((hU (gF (mT L))).bind λns=>if ns.length<=100000/\ns.Nodup then some (D.lst ((cz iH ns).map D.int)) else none)=_;rw[uR,Option.bind_some,if_pos ⟨by rw[List.length_map];omega,nd⟩]
 have sl:(cz iH ((mT L).map (·.1))).length=(mT L).length:=by rw[(bB (lt:=iH) _).length_eq,List.length_map]
 refine(fj (ds:=(cz iH ((mT L).map (·.1))).map D.int) (gA so) (by rw[List.length_map,sl];omega) (nN (h:=D.int) (o:=λp=>pD (p,vI (mT L) p)) (q:=λp=> !decide (vI (mT L) p=0)) (cz iH ((mT L).map (·.1))) λp hp=>?_)).trans (by unfold bj;rw[List.map_map];rfl);have hm:p∈(mT L).map (·.1):=(bB (lt:=iH) _).mem_iff.mp hp;have ix:rn 1 (ai 4) [.v (.lst (L.map pD)),.ob (.dK (gF (mT L))),s2,s3,.v (.int p)]=some (.int (vI (mT L) p)):=by
  show jg (gF (mT L)) (Sum.inl p)=_;rw[iX,iG hm]
 refine⟨[.v (.lst (L.map pD)),.ob (.dK (gF (mT L))),s2,s3,.v (.int p)],rfl,cC ((az ix (y:=.int 0) rfl).trans (by rw[j6 (by rw[db];omega),fC])),λ_=>cv (ay rfl (ay ix rfl)) (by simp)⟩
def Sm(L:List (Int×Int)):Prop:= ∀q∈L,q.2.natAbs<10^200
theorem qP {α:Type}(l:List α):(l.filter λ_=>true)=l:=List.filter_eq_self.mpr λ_ _=>rfl
theorem nq {α β:Type}(f:α->β): ∀l:List α,(l.flatMap λq=>[f q])=l.map f
 | []=>rfl
 |a::l=>by rw[List.flatMap_cons,nq f l];rfl
theorem qB {L M:List (Int×Int)}(hk: ∀q∈gu L M, -(240:Int)<=q.1/\q.1<=240)(hN:L.length*M.length<=100000)(s1:Sm L)(s2:Sm M):eW [.lst (L.map pD),.lst (M.map pD)]=some (.lst ((bj (gu L M)).map pD)):=by
 apply pj (kd:=.n) (n:=2) (t:=oz);unfold oz;have inner: ∀p∈L,xl (df (ai 1)) (gT 2 (cj (gN 4) (cj (gN 5) (fz)))) (dP) (bZ (ae (ao aO (ai 2) (ai 4)) (ae (ao be (ai 3) (ai 5)) (ag)))) [.v (.lst (L.map pD)),.v (.lst (M.map pD)),.v (.int p.1),.v (.int p.2),.no,.no]=some ((M.map λq=>(p.1+q.1,p.2*q.2)).map pD):=λp hp=>by
  refine(Bx (ds:=M.map pD) (gA rfl) (po (h:=pD) (q:=λ_=>true) (o:=λq=>[pD (p.1+q.1,p.2*q.2)]) M λq hq=>⟨[.v (.lst (L.map pD)),.v (.lst (M.map pD)),.v (.int p.1),.v (.int p.2),.v (.int q.1),.v (.int q.2)],rfl,rfl,λ_=>zG (cv (ay ((az (x:=.int p.1) (y:=.int q.1) rfl rfl).trans (aU _ _)) (ay ((az (x:=.int p.2) (y:=.int q.2) rfl rfl).trans (bR (s1 p hp) (s2 q hq))) rfl)) (by simp))⟩)).trans ?_
  rw[qP,nq,List.map_map];rfl
 have e:vP 4 (df (ai 0)) (gT 2 (cj (gN 2) (cj (gN 3) (fz)))) (dP) (df (ai 1)) (gT 2 (cj (gN 4) (cj (gN 5) (fz)))) (dP) (bZ (ae (ao aO (ai 2) (ai 4)) (ae (ao be (ai 3) (ai 5)) (ag)))) (cS 2 [.lst (L.map pD),.lst (M.map pD)])=some (.lst ((gu L M).map pD)):=by
  have c:=po (g:=gT 2 (cj (gN 2) (cj (gN 3) (fz)))) (p:=dP) (A:=xl (df (ai 1)) (gT 2 (cj (gN 4) (cj (gN 5) (fz)))) (dP) (bZ (ae (ao aO (ai 2) (ai 4)) (ae (ao be (ai 3) (ai 5)) (ag))))) (ρ0:=[.v (.lst (L.map pD)),.v (.lst (M.map pD)),.no,.no,.no,.no]) (h:=pD) (q:=λ_=>true) (o:=λp=>(M.map λq=>(p.1+q.1,p.2*q.2)).map pD) L λp hp=>⟨[.v (.lst (L.map pD)),.v (.lst (M.map pD)),.v (.int p.1),.v (.int p.2),.no,.no],rfl,rfl,λ_=>inner p hp⟩
  rw[qP] at c;have ef:(L.flatMap λp=>(M.map λq=>(p.1+q.1,p.2*q.2)).map pD)=(gu L M).map pD:=by unfold gu;rw[List.map_flatMap]
  rw[ef] at c;unfold vP;rw[gA (ds:=L.map pD) rfl,Option.bind_some];show(mJ _ _ _ [.v (.lst (L.map pD)),.v (.lst (M.map pD)),.no,.no,.no,.no] _).bind _=_;rw[c,Option.bind_some,if_pos (by rw[List.length_map];rw[pw_len];exact pT hN)]
 exact cx ((fx (ds:=[.lst ((gu L M).map pD)]) (ay e rfl) rfl).trans (iN _ hk))
theorem rZ {R R' c c' N N':Nat}{L M:List (Int×Int)}(h:Bnd R c N L)(h':Bnd R' c' N' M)(hR:R+R'<=240)(hN:N*N'<=100000)(hM:N'<=900)(s1:Sm L)(s2:Sm M):cL [.lst (L.map pD),.lst (M.map pD)]=some (.lst ((bj (gu L M)).map pD)):=by
 have hp:=h.pw h';have hML:=h'.len;apply fX (kd:=.n) (n:=5) (t:=gx);unfold gx;have s0:fG 2 (aX (ag)) (cS 5 [.lst (L.map pD),.lst (M.map pD)])=.nx [.v (.lst (L.map pD)),.v (.lst (M.map pD)),.own (([]:List (Int×Int)).map pD),.no,.no]:=rfl;rw[aE s0];have lp: ∀(K F:List (Int×Int)) (s3 s4:Sl),(∀p∈K,p.2.natAbs<10^200)->F.length+K.length*M.length<=100000-> ∃s3' s4',eN (gT 2 (cj (gN 3) (cj (gN 4) (fz)))) (de (se 2 (bL 2 (df (ai 1)) (gT 2 (cj (gN 5) (cj (gN 6) (fz)))) (dP) (bZ (ae (ao aO (ai 3) (ai 5)) (ae (ao be (ai 4) (ai 6)) (ag))))))) (K.map pD) [.v (.lst (L.map pD)),.v (.lst (M.map pD)),.own (F.map pD),s3,s4]=.nx [.v (.lst (L.map pD)),.v (.lst (M.map pD)),.own ((F++gu K M).map pD),s3',s4']:=by
  intro K
  induction K with
  |nil=>intro F s3 s4 _ _;exact⟨s3,s4,by unfold gu;rw[List.flatMap_nil,List.append_nil];rfl⟩
  |cons p K ih=>
   intro F s3 s4 hK hl;rw[List.length_cons,Nat.succ_mul] at hl;obtain⟨s3',s4',e⟩:=ih (F++M.map λq=>(p.1+q.1,p.2*q.2)) (.v (.int p.1)) (.v (.int p.2)) (λq hq=>hK q (List.mem_cons_of_mem _ hq)) (by rw[List.length_append,List.length_map];omega);refine⟨s3',s4',?_⟩;have cp:bL 2 (df (ai 1)) (gT 2 (cj (gN 5) (cj (gN 6) (fz)))) (dP) (bZ (ae (ao aO (ai 3) (ai 5)) (ae (ao be (ai 4) (ai 6)) (ag)))) [.v (.lst (L.map pD)),.v (.lst (M.map pD)),.own (F.map pD),.v (.int p.1),.v (.int p.2)]=some (.lst ((M.map λq=>(p.1+q.1,p.2*q.2)).map pD)):=
    (fj (ds:=M.map pD) (gA rfl) (by rw[List.length_map];omega) (dO (h:=pD) (o:=λq=>pD (p.1+q.1,p.2*q.2)) M λq hq=>⟨[.v (.lst (L.map pD)),.v (.lst (M.map pD)),.own (F.map pD),.v (.int p.1),.v (.int p.2),.v (.int q.1),.v (.int q.2)],rfl,cv (ay ((az (x:=.int p.1) (y:=.int q.1) rfl rfl).trans (aU _ _)) (ay ((az (x:=.int p.2) (y:=.int q.2) rfl rfl).trans (bR (hK p List.mem_cons_self) (s2 q hq))) rfl)) (by simp)⟩)).trans (by rw[List.map_map];rfl)
   have st:de (se 2 (bL 2 (df (ai 1)) (gT 2 (cj (gN 5) (cj (gN 6) (fz)))) (dP) (bZ (ae (ao aO (ai 3) (ai 5)) (ae (ao be (ai 4) (ai 6)) (ag)))))) [.v (.lst (L.map pD)),.v (.lst (M.map pD)),.own (F.map pD),.v (.int p.1),.v (.int p.2)]=.nx [.v (.lst (L.map pD)),.v (.lst (M.map pD)),.own ((F++M.map λq=>(p.1+q.1,p.2*q.2)).map pD),.v (.int p.1),.v (.int p.2)]:=by
    refine(p7 (ρ1:=[.v (.lst (L.map pD)),.v (.lst (M.map pD)),.own ((F++M.map λq=>(p.1+q.1,p.2*q.2)).map pD),.v (.int p.1),.v (.int p.2)]) (d:=.non) ?_);unfold se;rw[cp];dsimp only;show(if(F.map pD).length+((M.map λq=>(p.1+q.1,p.2*q.2)).map pD).length<=sizeLine then _ else _)=_;rw[if_pos (by rw[List.length_map,List.length_map,List.length_map];exact pT (by omega)),List.map_append];rfl
   rw[List.map_cons,eV (ρ1:=[.v (.lst (L.map pD)),.v (.lst (M.map pD)),.own (F.map pD),.v (.int p.1),.v (.int p.2)]) rfl st,e];unfold gu;rw[List.flatMap_cons,List.append_assoc]
 obtain⟨s3,s4,e⟩:=lp L [] .no .no s1 (by have:=Nat.mul_le_mul h.len h'.len;simp;omega);rw[aE ((ic (ds:=L.map pD) (dS (gA rfl))).trans e),List.nil_append];show∃ρ,aV (aA (nF 1 bh) (ae (ai 2) (ag))) [.v (.lst (L.map pD)),.v (.lst (M.map pD)),.v (.lst ((gu L M).map pD)),s3,s4]=_;exact⟨_,cx ((fx (ds:=[.lst ((gu L M).map pD)]) rfl rfl).trans (iN _ λq hq=>by have:=hp.pow q hq;omega))⟩
theorem wg {L M:bf}(l1:L.length<=900)(l2:M.length<=900)(h: ∀q∈L, -(240:Int)<=q.1/\q.1<=240)(h': ∀q∈M, -(240:Int)<=q.1/\q.1<=240):jb [.lst (L.map pD),.lst (M.map pD)]=some (.lst ((bj (L++M.map λq=>(q.1, -q.2))).map pD)):=by
 apply pj (kd:=.n) (n:=2) (t:=oN);unfold oN;have c:bL 2 (df (ai 1)) (gT 2 (cj (gN 2) (cj (gN 3) (fz)))) (dP) (bZ (ae (ai 2) (ae (cZ (ai 3)) (ag)))) (cS 2 [.lst (L.map pD),.lst (M.map pD)])=some (.lst ((M.map λq=>(q.1, -q.2)).map pD)):=
  (fj (ds:=M.map pD) (gA rfl) (by rw[List.length_map];omega) (dO (h:=pD) (o:=λq=>pD (q.1, -q.2)) M λq hq=>⟨[.v (.lst (L.map pD)),.v (.lst (M.map pD)),.v (.int q.1),.v (.int q.2)],rfl,cv (ay rfl (ay rfl rfl)) (by simp)⟩)).trans (by rw[List.map_map];rfl)
 have e:ao ip (ai 0) (bL 2 (df (ai 1)) (gT 2 (cj (gN 2) (cj (gN 3) (fz)))) (dP) (bZ (ae (ai 2) (ae (cZ (ai 3)) (ag))))) (cS 2 [.lst (L.map pD),.lst (M.map pD)])=some (.lst ((L++M.map λq=>(q.1, -q.2)).map pD)):=by
  refine(az (x:=.lst (L.map pD)) rfl c).trans ?_
  rw[List.map_append];show(if _ then _ else _)=_;rw[if_pos (pT (by rw[List.length_map,List.length_map,List.length_map];omega))]
 refine cx ((fx (ds:=[.lst ((L++M.map λq=>(q.1, -q.2)).map pD)]) (ay e rfl) rfl).trans (iN _ λq hq=>?_));rcases List.mem_append.mp hq with w|w
 ·exact h q w
 ·obtain⟨z,hz,rfl⟩:=List.mem_map.mp w;exact h' z hz
theorem x6(S:List D)(d:D):aW (.lst (S++[d])) (.int (-1))=some d:=by
 show oO (S++[d]) (-1)=_;unfold oO uN;rw[if_neg (by omega),if_pos (by rw[List.length_append];simp;omega),Option.bind_some];have:(-1+((S++[d]).length:Int)).toNat=S.length:=by rw[List.length_append];simp;omega
 rw[this];simp
theorem Dc(d:D)(ds:List D):oO (d::ds) 0=some d:=by
 unfold oO uN;rw[if_pos (by omega),if_pos (by rw[List.length_cons];omega),Option.bind_some];rfl
theorem oP(d:D)(ds:List D):aW (.lst (d::ds)) (.int 0)=some d:=Dc d ds
theorem lF(d:D)(ds:List D):aW (.tup (d::ds)) (.int 0)=some d:=Dc d ds
theorem qm {i j:Int}(h:j≠0):iq (.int i) (.int j)=some (.int (i.fmod j)):=by
 show(if decide (j≠0)=true then _ else _)=_;rw[if_pos (decide_eq_true h)]
theorem mK {i j:Int}(h:j≠0)(h2:j.natAbs<1000000):gm (.int i) (.int j)=some (.int (i.fdiv j)):=by
 show(if(decide (j≠0)&&decide (j.natAbs<1000000))=true then _ else _)=_;rw[if_pos (by rw[decide_eq_true h,decide_eq_true h2];rfl)]
theorem Bl {p:FT}{b:FX}{n:Nat}{ρ ρ2:aG}(h1:p ρ=some true)(h2:b ρ=.ok (.nx ρ2)):pJ p b (n+1) ρ=pJ p b n ρ2:=by
 conv=>lhs;unfold pJ
 rw[h1];dsimp only;rw[h2]
theorem Cc {p:FT}{b:FX}{n:Nat}{ρ:aG}{z:Ex×aG}(h1:p ρ=some true)(h2:b ρ=.error z):pJ p b (n+1) ρ=.error z:=by
 conv=>lhs;unfold pJ
 rw[h1];dsimp only;rw[h2]
theorem t6 {p:FT}{b:FX}{n:Nat}{ρ:aG}(h1:p ρ=some false):pJ p b (n+1) ρ=.ok (.nx ρ):=by
 conv=>lhs;unfold pJ
 rw[h1]
theorem D8(s c:Int)(M:bf):gu [(s,c)] M=M.map λq=>(s+q.1,c*q.2):=by unfold gu;simp
theorem oH {L:bf}{q:Int×Int}(h:q∈bj L): ∃p∈L,p.1=q.1:=by
 obtain⟨_,hm⟩:=lN L;have:=((hm q).mp h).1;obtain⟨p,hp,e⟩:=List.mem_map.mp this;exact⟨p,hp,e⟩
theorem mF {S:bf}{R:Nat}(hs:SumI S)(h: ∀q∈S, -(R:Int)<=q.1/\q.1<=R):S.length<=2*R+1:=by
 have nd:(S.map (·.1)).Nodup:=by
  refine List.Pairwise.imp ?_ (List.pairwise_map.mpr hs.2)
  intro a b h;omega
 have:=jJ (R:=R) nd λx hx=>by obtain⟨q,hq,rfl⟩:=List.mem_map.mp hx;exact h q hq
 rwa [List.length_map] at this
abbrev lE(one M:bf)(pw mn:Int)(left found:bf)(s6 s7 s8:Sl):aG:=[.v (.lst (one.map pD)),.v (.lst (M.map pD)),.v (.int pw),.v (.int mn),.v (.lst (left.map pD)),.own (found.map pD),s6,s7,s8]
abbrev n5:FX:=(jE (qQ (fq (gT 2 (cj (gN 6) (cj (gN 7) (fz)))) (pu (ao aW (ai 4) (cZ (am (.int 1)))))))
 (jE (Ar (lj (bH (ao yv (ao bD (ai 6) (ai 2)) (ao bD (ao aW (ao aW (ai 0) (am (.int 0))) (am (.int 0))) (ao aW (ao aW (ai 1) (am (.int 0))) (am (.int 0)))))) (bH (ao jf (ao iq (ai 7) (ai 3)) (am (.int 0))))) (xb ⟨"NoPart",0⟩ (ae (am (.str "no sum times the other one is the one")) (ag))) (qQ skip))
 (qQ (aJ (bK 8 (aX (ae (bZ (ae (ao bD (ai 6) (ai 2)) (ae (ao gm (ai 7) (ai 3)) (ag)))) (ag))))
 (aJ (fG 5 (ao ip (ai 8) (iz 5)))
 (bK 4 (aA (nF 2 jb) (ae (ai 4) (ae (aA (nF 2 eW) (ae (ai 8) (ae (ai 1) (ag)))) (ag))))))))))
theorem eO {left:bf}{a:Int×Int}(hl:left.getLast?=some a): ∃l',left=l'++[a]:=by
 rcases List.eq_nil_or_concat left with rfl|⟨l',b,rfl⟩
 ·cases hl
 ·rw[List.concat_eq_append] at hl⊢;rw[List.getLast?_append] at hl;exact⟨l',by simpa using hl⟩
section
variable {one M left found:bf}{pw mn l1 lM t o:Int}{s6 s7 s8:Sl}
theorem EY(hl:left.getLast?=some (t,o)):fq (gT 2 (cj (gN 6) (cj (gN 7) (fz)))) (pu (ao aW (ai 4) (cZ (am (.int 1))))) (lE one M pw mn left found s6 s7 s8)=.nx (lE one M pw mn left found (.v (.int t)) (.v (.int o)) s8):=by
 obtain⟨l',e'⟩:=eO hl;exact mj (d:=pD (t,o)) (dm ((az (x:=.lst (left.map pD)) (y:=.int (-1)) rfl rfl).trans (by rw[e',List.map_append];exact x6 _ _))) rfl
theorem bc(h1: ∃v r,one=(l1,v)::r)(h2: ∃v r,M=(lM,v)::r)(m0:mn≠0):lj (bH (ao yv (ao bD (ai 6) (ai 2)) (ao bD (ao aW (ao aW (ai 0) (am (.int 0))) (am (.int 0))) (ao aW (ao aW (ai 1) (am (.int 0))) (am (.int 0)))))) (bH (ao jf (ao iq (ai 7) (ai 3)) (am (.int 0)))) (lE one M pw mn left found (.v (.int t)) (.v (.int o)) s8)=some (decide (t-pw<l1-lM\/o.fmod mn≠0)):=by
 obtain⟨v1,r1,rfl⟩:=h1;obtain⟨v2,r2,rfl⟩:=h2;have c1:bH (ao yv (ao bD (ai 6) (ai 2)) (ao bD (ao aW (ao aW (ai 0) (am (.int 0))) (am (.int 0))) (ao aW (ao aW (ai 1) (am (.int 0))) (am (.int 0))))) (lE ((l1,v1)::r1) ((lM,v2)::r2) pw mn left found (.v (.int t)) (.v (.int o)) s8)=some (decide (t-pw<l1-lM)):=by
  refine cC ((az (x:=.int (t-pw)) (y:=.int (l1-lM)) rfl ?_).trans (lB _ _));refine(az (x:=.int l1) (y:=.int lM) ?_ ?_).trans (bU _ _)
  ·exact(az (x:=pD (l1,v1)) (y:=.int 0) ((az (x:=.lst (((l1,v1)::r1).map pD)) (y:=.int 0) rfl rfl).trans (oP _ _)) rfl).trans (lF _ _)
  ·exact(az (x:=pD (lM,v2)) (y:=.int 0) ((az (x:=.lst (((lM,v2)::r2).map pD)) (y:=.int 0) rfl rfl).trans (oP _ _)) rfl).trans (lF _ _)
 have c2:bH (ao jf (ao iq (ai 7) (ai 3)) (am (.int 0))) (lE ((l1,v1)::r1) ((lM,v2)::r2) pw mn left found (.v (.int t)) (.v (.int o)) s8)=some (!decide (o.fmod mn=0)):=
  cC ((az (x:=.int (o.fmod mn)) (y:=.int 0) ((az (x:=.int o) (y:=.int mn) rfl rfl).trans (qm m0)) rfl).trans (by rw[j6 (by rw[db];omega),fC]))
 rw[iU c1 c2];congr 1
 by_cases x:t-pw<l1-lM<;>by_cases y:o.fmod mn=0<;>simp[x,y]
theorem xz(hl:left.getLast?=some (t,o))(h1: ∃v r,one=(l1,v)::r)(h2: ∃v r,M=(lM,v)::r)(m0:mn≠0)(hc:t-pw<l1-lM\/o.fmod mn≠0): ∃ρ,n5 (lE one M pw mn left found s6 s7 s8)=.error (⟨"NoPart",0⟩,ρ):=by
 have e:Ar (lj (bH (ao yv (ao bD (ai 6) (ai 2)) (ao bD (ao aW (ao aW (ai 0) (am (.int 0))) (am (.int 0))) (ao aW (ao aW (ai 1) (am (.int 0))) (am (.int 0)))))) (bH (ao jf (ao iq (ai 7) (ai 3)) (am (.int 0))))) (xb ⟨"NoPart",0⟩ (ae (am (.str "no sum times the other one is the one")) (ag))) (qQ skip) (lE one M pw mn left found (.v (.int t)) (.v (.int o)) s8)=.error (⟨"NoPart",0⟩,lE one M pw mn left found (.v (.int t)) (.v (.int o)) s8):=by
  unfold Ar;rw[bc h1 h2 m0,decide_eq_true hc];rfl
 exact⟨_,(fc (g7 (EY hl))).trans (t9 e)⟩
theorem yc(hl:left.getLast?=some (t,o))(h1: ∃v r,one=(l1,v)::r)(h2: ∃v r,M=(lM,v)::r)(m0:mn≠0)(mb:mn.natAbs<1000000)(hc: ¬(t-pw<l1-lM\/o.fmod mn≠0))(lf:found.length<=900)(ll:left.length<=900)(lm:M.length<=900)
 (hk: ∀q∈left, -(240:Int)<=q.1/\q.1<=240) (hm: ∀q∈M, -(240:Int)<=t-pw+q.1/\t-pw+q.1<=240) (sm:Sm M) (so:(o.fdiv mn).natAbs<10^200): ∃s6' s7' s8',n5 (lE one M pw mn left found s6 s7 s8)=.ok (.nx (lE one M pw mn (iR left (t-pw,o.fdiv mn) M) ((t-pw,o.fdiv mn)::found) s6' s7' s8')):=by
 refine⟨.v (.int t),.v (.int o),.v (.lst ([(t-pw,o.fdiv mn)].map pD)),(fc (g7 (EY hl))).trans ((fc (ρ':=lE one M pw mn left found (.v (.int t)) (.v (.int o)) s8) ?_).trans (g7 ?_))⟩
 ·unfold Ar;rw[bc h1 h2 m0,decide_eq_false hc];rfl
 ·have p3:bK 8 (aX (ae (bZ (ae (ao bD (ai 6) (ai 2)) (ae (ao gm (ai 7) (ai 3)) (ag)))) (ag))) (lE one M pw mn left found (.v (.int t)) (.v (.int o)) s8)=.nx (lE one M pw mn left found (.v (.int t)) (.v (.int o)) (.v (.lst ([(t-pw,o.fdiv mn)].map pD)))):=
   (fD (d:=.lst ([(t-pw,o.fdiv mn)].map pD)) (bW (ay (cv (ds:=[.int (t-pw),.int (o.fdiv mn)]) (ay ((az (x:=.int t) (y:=.int pw) rfl rfl).trans (bU _ _)) (ay ((az (x:=.int o) (y:=.int mn) rfl rfl).trans (mK m0 mb)) rfl)) (by simp)) rfl) (by simp))).trans rfl
  have p4:fG 5 (ao ip (ai 8) (iz 5)) (lE one M pw mn left found (.v (.int t)) (.v (.int o)) (.v (.lst ([(t-pw,o.fdiv mn)].map pD))))=.nx (lE one M pw mn left ((t-pw,o.fdiv mn)::found) (.v (.int t)) (.v (.int o)) (.v (.lst ([(t-pw,o.fdiv mn)].map pD)))):=by
   refine(gX (ds:=((t-pw,o.fdiv mn)::found).map pD) ((az (x:=.lst ([(t-pw,o.fdiv mn)].map pD)) (y:=.lst (found.map pD)) rfl rfl).trans ?_)).trans rfl;show(if _ then _ else _)=_;rw[if_pos (pT (by rw[List.length_map,List.length_map];simp;omega))];rfl
  have km: ∀q∈gu [(t-pw,o.fdiv mn)] M, -(240:Int)<=q.1/\q.1<=240:=λq hq=>by
   rw[D8] at hq;obtain⟨z,hz,rfl⟩:=List.mem_map.mp hq;exact hm z hz
  have et:=qB (L:=[(t-pw,o.fdiv mn)]) (M:=M) km (by simp;omega) (λq hq=>by rw[List.mem_singleton.mp hq];exact so) sm;have em:=wg (L:=left) (M:=bj (gu [(t-pw,o.fdiv mn)] M)) ll (Nat.le_trans (qW _) (by rw[pw_len];simp;omega)) hk λq hq=>by
   obtain⟨p,hp,e⟩:=oH hq;have:=km p hp;omega
  have p5:bK 4 (aA (nF 2 jb) (ae (ai 4) (ae (aA (nF 2 eW) (ae (ai 8) (ae (ai 1) (ag)))) (ag)))) (lE one M pw mn left ((t-pw,o.fdiv mn)::found) (.v (.int t)) (.v (.int o)) (.v (.lst ([(t-pw,o.fdiv mn)].map pD))))=.nx (lE one M pw mn (iR left (t-pw,o.fdiv mn) M) ((t-pw,o.fdiv mn)::found) (.v (.int t)) (.v (.int o)) (.v (.lst ([(t-pw,o.fdiv mn)].map pD)))):=
   (fD ((fx (ds:=[.lst (left.map pD),.lst ((bj (gu [(t-pw,o.fdiv mn)] M)).map pD)]) (ay rfl (ay ((fx (ds:=[.lst ([(t-pw,o.fdiv mn)].map pD),.lst (M.map pD)]) rfl rfl).trans et) rfl)) rfl).trans em)).trans rfl
  exact(aE p3).trans ((aE p4).trans p5)
end
theorem xA {o mn:Int}(m0:mn≠0)(h:o.fmod mn=0):mn*o.fdiv mn=o/\(o.fdiv mn).natAbs<=o.natAbs:=by
 have e:mn*o.fdiv mn=o:=by have:=Int.fmod_add_mul_fdiv o mn;omega
 refine⟨e,?_⟩;have:o.natAbs=mn.natAbs*(o.fdiv mn).natAbs:=by rw[<-Int.natAbs_mul,e]
 rw[this];exact Nat.le_mul_of_pos_left _ (by omega)
theorem nR {M:bf}{c:Nat}(hM:SumI M)(h: ∀q∈M,q.2.natAbs<=c)(p:Int):(sg M p).natAbs<=c:=by
 by_cases e:sg M p=0
 ·rw[e];simp
 ·exact h _ (hM.mem_sg e)
theorem yH {left M:bf}{s c:Int}{K B:Nat}(h: ∀p,(sg left p).natAbs<=K)(hc:c.natAbs<=K)(hM: ∀p,(sg M p).natAbs<=B)(p:Int):(sg (iR left (s,c) M) p).natAbs<=K*(B+1):=by
 rw[i8];have h1:=h p;have h2:(c*sg M (p-s)).natAbs<=K*B:=by rw[Int.natAbs_mul];exact Nat.mul_le_mul hc (hM _)
 rw[Nat.mul_add,Nat.mul_one];dsimp only;omega
section
variable {one M:bf}{pw mn l1 lM t1:Int}
theorem Az(hM:SumI M)(hl:M.getLast?=some (pw,mn))(h1: ∃v r,one=(l1,v)::r)(h2: ∃v r,M=(lM,v)::r)(b1: -120<=l1)(b2:t1<=120)(lm:M.length<=900)(cM: ∀q∈M,q.2.natAbs<=36):
 ∀(f:Nat) (left found:bf) (n K:Nat) (s6 s7 s8:Sl),SumI left->1<=f->f<=n->(∀p,sg left p≠0->l1<=p/\p<=t1/\p-pw- (l1-lM)+2<=f)->(∀p,(sg left p).natAbs<=K)->K*37^f<10^200->found.length+f<=400->Sm found->
  (∃r,gH (l1-lM) pw mn M f left found=some (some r)/\Sm r/\ ∃s6' s7' s8',pJ (eJ (ai 4)) n5 n (lE one M pw mn left found s6 s7 s8)=.ok (.nx (lE one M pw mn [] r s6' s7' s8')))\/
  (gH (l1-lM) pw mn M f left found=some none/\ ∃ρ,pJ (eJ (ai 4)) n5 n (lE one M pw mn left found s6 s7 s8)=.error (⟨"NoPart",0⟩,ρ))
 |0,left,found,n,K,s6,s7,s8,hL,f1,fn,rg,cf,kk,lf,sf=>absurd f1 (by omega)
 |f+1,left,found,0,K,s6,s7,s8,hL,f1,fn,rg,cf,kk,lf,sf=>absurd fn (by omega)
 |f+1,left,found,n+1,K,s6,s7,s8,hL,f1,fn,rg,cf,kk,lf,sf=>by
  obtain⟨g1,g2,g3⟩:=hM.top hl;have mM: ∀q∈M,lM<=q.1/\q.1<=pw:=λq hq=>by
   have q0:sg M q.1≠0:=by rw[hM.sg_mem (p:=q.1) (v:=q.2) hq];exact hM.1 q hq
   obtain⟨v,r,e⟩:=h2;obtain⟨_,_,z3⟩:=hM.low (t:=lM) (o:=v) (by rw[e];rfl);constructor
   ·by_cases w:q.1<lM
    ·exact absurd (z3 _ w) q0
    ·omega
   ·by_cases w:pw<q.1
    ·exact absurd (g3 _ w) q0
    ·omega
  have mb:mn.natAbs<=36:=by rw[<-g1];exact nR hM cM _
  cases e:left.getLast? with
  |none=>
   have:left=[]:=List.getLast?_eq_none_iff.mp e;subst this;exact .inl ⟨found,by unfold gH;rw[e],sf,s6,s7,s8,t6 rfl⟩
  |some a=>
   obtain⟨t,o⟩:=a;obtain⟨t1',t2,t3⟩:=hL.top e;have rt:=rg t (by rw[t1'];exact t2);have ne:eJ (ai 4) (lE one M pw mn left found s6 s7 s8)=some true:=by
    show A6 (.lst (left.map pD))=_;cases left with
    |nil=>cases e
    |cons z l=>rfl
   by_cases hc:t-pw<l1-lM\/o.fmod mn≠0
   ·obtain⟨ρ,hρ⟩:=xz (found:=found) (s6:=s6) (s7:=s7) (s8:=s8) e h1 h2 g2 hc;exact .inr ⟨by unfold gH;rw[e];exact if_pos hc,ρ,Cc ne hρ⟩
   ·have hc1: ¬t-pw<l1-lM:=λw=>hc (.inl w)
    have hc2:o.fmod mn=0:=Classical.byContradiction λw=>hc (.inr w)
    obtain⟨qo,ql⟩:=xA g2 hc2;have oK:o.natAbs<=K:=by rw[<-t1'];exact cf t
    have cK:(o.fdiv mn).natAbs<=K:=Nat.le_trans ql oK;have K2:K<10^200:=Nat.lt_of_le_of_lt (Nat.le_mul_of_pos_right K (Nat.pow_pos (by decide))) kk;have kl: ∀q∈left, -(240:Int)<=q.1/\q.1<=240:=λq hq=>by
     have:=rg q.1 (by rw[hL.sg_mem (p:=q.1) (v:=q.2) hq];exact hL.1 q hq);omega
    have ll:=mF (R:=240) hL kl;obtain⟨s6',s7',s8',hb⟩:=yc (found:=found) (s6:=s6) (s7:=s7) (s8:=s8) e h1 h2 g2 (by omega) hc (by omega) (by omega) lm kl (λq hq=>by have:=mM q hq;omega) (λq hq=>Nat.lt_of_le_of_lt (cM q hq) (by decide)) (Nat.lt_of_le_of_lt cK K2);have pe:gH (l1-lM) pw mn M (f+1) left found=gH (l1-lM) pw mn M f (iR left (t-pw,o.fdiv mn) M) ((t-pw,o.fdiv mn)::found):=by
     conv=>lhs;unfold gH
     rw[e];exact if_neg hc
    rw[pe,Bl ne hb];refine Az hM hl h1 h2 b1 b2 lm cM f _ _ n (K*37) s6' s7' s8' (dY _) (by omega) (by omega) (λp hp=>?_) (λp=>yH (B:=36) cf cK (nR hM cM) p) (by rw[Nat.mul_assoc,<-Nat.pow_succ'];exact kk) (by rw[List.length_cons];omega) (λq hq=>by
     rcases List.mem_cons.mp hq with rfl|hq
     ·exact Nat.lt_of_le_of_lt cK K2
     ·exact sf q hq)
    rw[i8] at hp;dsimp only at hp;have up:p<=t-1:=by
     by_cases w:t<p
     ·rw[t3 p w,g3 (p- (t-pw)) (by omega),Int.mul_zero] at hp;exact absurd rfl hp
     ·by_cases w2:p=t
      ·subst w2;rw[t1',show p- (p-pw)=pw by omega,g1,Int.mul_comm,qo,Int.sub_self] at hp;exact absurd rfl hp
      ·omega
    have lo:l1<=p:=by
     by_cases w:sg left p=0
     ·have w2:sg M (p- (t-pw))≠0:=λz=>hp (by rw[w,z,Int.mul_zero,Int.sub_zero])
      have:=mM _ (hM.mem_sg w2);dsimp only at this;omega
     ·exact(rg p w).1
    omega
end
def AG(one M r:bf):Prop:=SumI r/\ ∀p,sg one p=sg (gu r M) p
theorem ul {one M r:bf}{pw mn lM oM t1 o1 l1 v1:Int}(h1:SumI one)(hM:SumI M)(hl:M.getLast?=some (pw,mn))(hh:M.head?=some (lM,oM))(ht:one.getLast?=some (t1,o1))(hd:one.head?=some (l1,v1))(q:AG one M r): ∀a∈r,l1-lM<=a.1/\a.1<=t1-pw:=by
 obtain⟨hr,e⟩:=q;obtain⟨m1,m2,m3⟩:=hM.low hh;obtain⟨g1,g2,g3⟩:=hM.top hl;have low: ∀a∈r,l1-lM<=a.1:=λa ha=>by
  cases r with
  |nil=>exact absurd ha List.not_mem_nil
  |cons b r=>
   obtain⟨s,c⟩:=b;obtain⟨hr',ab⟩:=hr.tail;have c0:c≠0:=hr.1 (s,c) List.mem_cons_self;have key:one.head?=some (s+lM,c*oM):=by
    refine h1.low_is (Int.mul_ne_zero c0 m2) ?_ λp hp=>?_
    ·rw[e,iy,pw_below m3 ab _ (by dsimp only;omega)];dsimp only;rw[show s+lM-s=lM by omega,m1,Int.add_zero]
    ·rw[e,iy,pw_below m3 ab _ (by dsimp only;omega)];dsimp only;rw[m3 _ (by omega),Int.mul_zero,Int.add_zero]
   rw[key] at hd;have:s+lM=l1:=congrArg Prod.fst (Option.some.inj hd);rcases List.mem_cons.mp ha with rfl|ha
   ·dsimp only;omega
   ·have:=ab a ha;dsimp only at this;omega
 have top: ∀a∈r,a.1<=t1-pw:=λa ha=>by
  rcases List.eq_nil_or_concat r with rfl|⟨r',b,rfl⟩
  ·exact absurd ha List.not_mem_nil
  ·rw[List.concat_eq_append] at*;obtain⟨s,c⟩:=b;obtain⟨hr',ab⟩:=hr.init;have c0:c≠0:=hr.1 (s,c) (List.mem_append_right _ (List.mem_singleton.mpr rfl));have key:one.getLast?=some (s+pw,c*mn):=by
    refine h1.top_is (Int.mul_ne_zero c0 g2) ?_ λp hp=>?_
    ·rw[e,jz,jp,pw_above g3 ab _ (by dsimp only;omega)];dsimp only;rw[show s+pw-s=pw by omega,g1,Int.zero_add]
    ·rw[e,jz,jp,pw_above g3 ab _ (by dsimp only;omega)];dsimp only;rw[g3 _ (by omega),Int.mul_zero,Int.add_zero]
   rw[key] at ht;have:s+pw=t1:=congrArg Prod.fst (Option.some.inj ht);rcases List.mem_append.mp ha with ha|ha
   ·have:=ab a ha;dsimp only at this;omega
   ·rw[List.mem_singleton.mp ha];dsimp only;omega
 exact λa ha=>⟨low a ha,top a ha⟩
structure Gs(S:bf)(c:Nat):Prop where
 sm:SumI S
 ky: ∀q∈S, -(60:Int)<=q.1/\q.1<=60
 cf: ∀q∈S,q.2.natAbs<=c
theorem Gs.len {S:bf}{c:Nat}(h:Gs S c):S.length<=121:=mF (R:=60) h.sm h.ky
theorem xZ {kd:Kd}{n:Nat}{t:FX}{ds:List D}{d:D}{ρ:aG}(h:t (cS n ds)=.ok (.rt d ρ)):Cb kd n t ds=some (.ok d):=by unfold Cb;rw[h]
theorem ur {S:bf}{a:Int×Int}(h:S.head?=some a): ∃v r,S=(a.1,v)::r:=by
 cases S with
 |nil=>cases h
 |cons b r=>cases h;exact⟨_,r,rfl⟩
theorem uU {one M:bf}(h1:Gs one 30000)(hM:Gs M 36)(m0:M≠[]):(∃r,AG one M r/\(∀r',AG one M r'->r'=r)/\(∀a∈r, -(120:Int)<=a.1/\a.1<=120)/\Sm r/\cA [.lst (one.map pD),.lst (M.map pD)]=some (.ok (.lst (r.map pD))))\/((∀r,¬AG one M r)/\cA [.lst (one.map pD),.lst (M.map pD)]=some (.error ⟨"NoPart",0⟩)):=by
 obtain⟨⟨pw,mn⟩,hl⟩: ∃a,M.getLast?=some a:=by
  cases e:M.getLast? with
  |none=>exact absurd (List.getLast?_eq_none_iff.mp e) m0
  |some a=>exact⟨a,rfl⟩
 obtain⟨l',e'⟩:=eO hl;obtain⟨⟨lM,oM⟩,hh⟩: ∃a,M.head?=some a:=by
  cases M with
  |nil=>exact absurd rfl m0
  |cons a r=>exact⟨a,rfl⟩
 have lm:=hM.len;have p1:fq (gT 2 (cj (gN 2) (cj (gN 3) (fz)))) (pu (ao aW (ai 1) (cZ (am (.int 1))))) (cS 9 [.lst (one.map pD),.lst (M.map pD)])=.nx [.v (.lst (one.map pD)),.v (.lst (M.map pD)),.v (.int pw),.v (.int mn),.no,.no,.no,.no,.no]:=
  mj (d:=pD (pw,mn)) (dm ((az (x:=.lst (M.map pD)) (y:=.int (-1)) rfl rfl).trans (by rw[e',List.map_append];exact x6 _ _))) rfl
 have p2:bK 4 (ai 0) [.v (.lst (one.map pD)),.v (.lst (M.map pD)),.v (.int pw),.v (.int mn),.no,.no,.no,.no,.no]=.nx [.v (.lst (one.map pD)),.v (.lst (M.map pD)),.v (.int pw),.v (.int mn),.v (.lst (one.map pD)),.no,.no,.no,.no]:=rfl;have p3:fG 5 (aX (ag)) [.v (.lst (one.map pD)),.v (.lst (M.map pD)),.v (.int pw),.v (.int mn),.v (.lst (one.map pD)),.no,.no,.no,.no]=.nx (lE one M pw mn one [] .no .no .no):=(gX (ds:=[]) (bW rfl (by simp))).trans rfl;have go: ∀ρ',pJ (eJ (ai 4)) n5 250 (lE one M pw mn one [] .no .no .no)=.ok (.nx ρ')->fo (cS 9 [.lst (one.map pD),.lst (M.map pD)])=qQ (vX 5) ρ':=λρ' ho=>by
  unfold fo;rw[fc (g7 p1),fc (g7 p2),fc (g7 p3)];exact fc ho
 have ge: ∀z,pJ (eJ (ai 4)) n5 250 (lE one M pw mn one [] .no .no .no)=.error z->fo (cS 9 [.lst (one.map pD),.lst (M.map pD)])=.error z:=λz ho=>by
  unfold fo;rw[fc (g7 p1),fc (g7 p2),fc (g7 p3)];exact t9 ho
 cases one with
 |nil=>
  have qn:AG [] M []:=⟨h1.sm,λp=>rfl⟩
  refine .inl ⟨[],qn,λr' q=>?_,λa ha=>absurd ha List.not_mem_nil,λa ha=>absurd ha List.not_mem_nil,?_⟩
  ·have:=(qi (l1:=0) (o1:=0) h1.sm hM.sm hl hh (.inl rfl) (f:=1) (λz=>nomatch z) r').mpr q;cases this;rfl
  exact xZ (kd:=.n) (n:=9) (t:=fo) (go _ (t6 rfl))
 |cons z l=>
  obtain⟨l1,v⟩:=z;have kz: ∀p,sg ((l1,v)::l) p≠0->l1<=p/\p<=60:=λp hp=>by
   have m:=h1.sm.mem_sg hp;refine⟨?_,(h1.ky _ m).2⟩;rcases List.mem_cons.mp m with w|w
   ·have:=congrArg Prod.fst w;dsimp only at this;omega
   ·have:=h1.sm.tail.2 _ w;dsimp only at this;omega
  have b1:=h1.ky (l1,v) List.mem_cons_self;have bp:=hM.ky (pw,mn) (by rw[e'];simp)
  have bl:=hM.ky (lM,oM) (by cases M with
   |nil=>cases hh
   |cons a r=>cases hh;exact List.mem_cons_self)
  dsimp only at b1 bp bl;have lp:lM<=pw:=by
   obtain⟨w1,w2,w3⟩:=hM.sm.low hh;obtain⟨g1,g2,g3⟩:=hM.sm.top hl
   by_cases w:pw<lM
   ·exact absurd (w3 _ w) (by rw[g1];exact g2)
   ·omega
  obtain⟨v2,r2,e2⟩:=ur hh;have hf: ∀p,sg ((l1,v)::l) p≠0->l1<=p/\p<=60/\p-pw- (l1-lM)+2<=(122:Nat):=λp hp=>by have:=kz p hp;omega
  have iff:=qi h1.sm hM.sm hl hh (.inr rfl) (nE hM.sm hl 122 ((l1,v)::l) [] h1.sm (by decide) λp hp=>(hf p hp).2.2);rcases Az (one:=(l1,v)::l) hM.sm hl ⟨v,l,rfl⟩ ⟨v2,r2,e2⟩ (by omega) (t1:=60) (by omega) (by omega) hM.cf 122 ((l1,v)::l) [] 250 30000 .no .no .no h1.sm (by omega) (by omega) hf (nR h1.sm h1.cf) (by decide) (by simp) (λq hq=>absurd hq List.not_mem_nil) with⟨r,pr,sr,s6,s7,s8,w⟩|⟨pr,ρ,w⟩
  ·have q:=(iff r).mp pr;obtain⟨⟨t1,o1⟩,ht⟩: ∃a,((l1,v)::l).getLast?=some a:=by
    cases e:((l1,v)::l).getLast? with
    |none=>exact absurd (List.getLast?_eq_none_iff.mp e) (by simp)
    |some a=>exact⟨a,rfl⟩
   have bt:=h1.ky (t1,o1) (by obtain⟨x,ex⟩:=eO ht;rw[ex];simp);dsimp only at bt;refine .inl ⟨r,q,λr' q'=>?_,λa ha=>by have:=ul h1.sm hM.sm hl hh ht rfl q a ha;omega,sr,xZ (kd:=.n) (n:=9) (t:=fo) (go _ w)⟩;have:=(iff r').mpr q';rw[pr] at this;cases this;rfl
  ·refine .inr ⟨λr q=>?_,AS (kd:=.n) (n:=9) (t:=fo) (ge _ w)⟩;have:=(iff r).mpr q;rw[pr] at this;cases this
theorem zB:dH ⟨"NoPart",0⟩=some (.int 3):=by kernel_rfl
theorem y8 {one M r:bf}(h:cA [.lst (one.map pD),.lst (M.map pD)]=some (.ok (.lst (r.map pD)))):bI [.lst (one.map pD),.lst (M.map pD)]=some (.lst (r.map pD)):=by
 have e:qt (kZ 2 cA (qZ (ae (ai 0) (ae (ai 1) (ag))))) (cS 3 [.lst (one.map pD),.lst (M.map pD)])=.ok (.rt (.lst (r.map pD)) (cS 3 [.lst (one.map pD),.lst (M.map pD)])):=by
  unfold qt;have:kZ 2 cA (qZ (ae (ai 0) (ae (ai 1) (ag)))) (cS 3 [.lst (one.map pD),.lst (M.map pD)])=some (.ok (.lst (r.map pD))):=h;rw[this]
 apply fX (kd:=.n) (n:=3) (t:=fB);refine⟨cS 3 [.lst (one.map pD),.lst (M.map pD)],?_⟩;unfold fB sW;rw[e]
theorem Ac {one M:bf}(h:cA [.lst (one.map pD),.lst (M.map pD)]=some (.error ⟨"NoPart",0⟩)):bI [.lst (one.map pD),.lst (M.map pD)]=none/\fP [.lst (one.map pD),.lst (M.map pD)]=some (.int 3):=by
 have e:qt (kZ 2 cA (qZ (ae (ai 0) (ae (ai 1) (ag))))) (cS 3 [.lst (one.map pD),.lst (M.map pD)])=.error (⟨"NoPart",0⟩,cS 3 [.lst (one.map pD),.lst (M.map pD)]):=by
  unfold qt;have:kZ 2 cA (qZ (ae (ai 0) (ae (ai 1) (ag)))) (cS 3 [.lst (one.map pD),.lst (M.map pD)])=some (.error ⟨"NoPart",0⟩):=h;rw[this]
 have c:exN.contains (("NoPart":Str))=true/\([("RookError":Str)].any λy=>mC ("NoPart":Str) y)=true:=by decide+kernel
 constructor
 ·unfold bI j2 fB sW;rw[e];dsimp only;rw[if_pos c];rfl
 ·apply fX (kd:=.s) (n:=3) (t:=jw);refine⟨[.v (.lst (one.map pD)),.v (.lst (M.map pD)),.ob (.exc "NoPart" 0)],?_⟩;unfold jw sW;rw[e];dsimp only;rw[if_pos c];have z:aV (AB 2 dH) ((cS 3 [.lst (one.map pD),.lst (M.map pD)]).set 2 (.ob (.exc "NoPart" 0)))=.rt (.int 3) [.v (.lst (one.map pD)),.v (.lst (M.map pD)),.ob (.exc "NoPart" 0)]:=cx (show dH ⟨"NoPart",0⟩=_ from zB);rw[z]
def jQ(s c:Int)(kvs:bf)(q:Int×Int):bf:=jK kvs (s+q.1) (vI kvs (s+q.1) -c*q.2)
theorem lZ(s c p:Int): ∀(L kvs:bf),vI (L.foldl (jQ s c) kvs) p=vI kvs p-c*sg L (p-s)
 | [],kvs=>by rw[List.foldl_nil,kA,Int.mul_zero,Int.sub_zero]
 |q::L,kvs=>by
  rw[List.foldl_cons,lZ s c p L,er];unfold jQ;rw[wV]
  by_cases e:p=s+q.1
  ·rw[if_pos e,if_pos (by omega),e,Int.mul_add];omega
  ·rw[if_neg e,if_neg (by omega),Int.zero_add]
def KyU(kvs:bf):Prop:=(kvs.map (·.1)).Nodup/\ ∀k∈kvs.map (·.1), -(240:Int)<=k/\k<=240
theorem KyU.len {kvs:bf}(h:KyU kvs):kvs.length<=481:=by
 have:=jJ (R:=240) h.1 h.2;rwa [List.length_map] at this
theorem KyU.put {kvs:bf}(h:KyU kvs){k v:Int}(hk: -(240:Int)<=k/\k<=240):KyU (jK kvs k v):=by
 unfold KyU;rw[kP];split
 ·exact h
 ·rename_i hn
  refine⟨List.nodup_append.mpr ⟨h.1,by simp,λa ha b hb=>?_⟩,λx hx=>?_⟩
  ·rw[List.mem_singleton.mp hb];intro z;subst z;exact hn ha
  ·rcases List.mem_append.mp hx with w|w
   ·exact h.2 x w
   ·rw[List.mem_singleton.mp w];exact hk
abbrev j3(one M kvs:bf)(low first:Int)(found:bf)(s6 s7 s8 s9:Sl):aG:=[.v (.lst (one.map pD)),.v (.lst (M.map pD)),.ob (.dK (gF kvs)),.v (.int low),.v (.int first),.own (found.map pD),s6,s7,s8,s9]
abbrev vN:FS:=iE 2 (ao aO (ai 6) (ai 8)) (ao bD (fy 2 (ao aO (ai 6) (ai 8)) (am (.int 0))) (ao be (ao gm (ai 7) (ai 4)) (ai 9)))
theorem CW {one M:bf}{low first s v:Int}{found:bf}(f0:first≠0)(fb:first.natAbs<1000000)(sv:(v.fdiv first).natAbs<10^200): ∀(L kvs:bf) (s8 s9:Sl),KyU kvs->(∀q∈L, -(240:Int)<=s+q.1/\s+q.1<=240)->(∀q∈L,q.2.natAbs<10^200)->
 ∃s8' s9',eN (gT 2 (cj (gN 8) (cj (gN 9) (fz)))) vN (L.map pD) (j3 one M kvs low first found (.v (.int s)) (.v (.int v)) s8 s9)=.nx (j3 one M (L.foldl (jQ s (v.fdiv first)) kvs) low first found (.v (.int s)) (.v (.int v)) s8' s9')/\KyU (L.foldl (jQ s (v.fdiv first)) kvs)
 | [],kvs,s8,s9,hk,_,_=>⟨s8,s9,rfl,hk⟩
 |q::L,kvs,s8,s9,hk,hb,hc=>by
  have hk':KyU (jQ s (v.fdiv first) kvs q):=hk.put (hb q List.mem_cons_self);obtain⟨s8',s9',ih,ik⟩:=CW (one:=one) (M:=M) (low:=low) (found:=found) f0 fb sv L (jQ s (v.fdiv first) kvs q) (.v (.int q.1)) (.v (.int q.2)) hk' (λz hz=>hb z (List.mem_cons_of_mem _ hz)) (λz hz=>hc z (List.mem_cons_of_mem _ hz));refine⟨s8',s9',?_,ik⟩;rw[List.map_cons,List.foldl_cons]
  let ρ:aG:=j3 one M kvs low first found (.v (.int s)) (.v (.int v)) (.v (.int q.1)) (.v (.int q.2))
  have ek:ao aO (ai 6) (ai 8) ρ=some (.int (s+q.1)):=(az (x:=.int s) (y:=.int q.1) rfl rfl).trans (aU _ _);have gt:fy 2 (ao aO (ai 6) (ai 8)) (am (.int 0)) ρ=some (.int (vI kvs (s+q.1))):=by
   unfold fy;rw[ek];show some ((jg (gF kvs) (Sum.inl (s+q.1))).getD (.int 0))=_;rw[iX];unfold vI;cases kvs.find? λz=>decide (z.1=s+q.1)<;>rfl
  have ev:ao bD (fy 2 (ao aO (ai 6) (ai 8)) (am (.int 0))) (ao be (ao gm (ai 7) (ai 4)) (ai 9)) ρ=some (.int (vI kvs (s+q.1) -v.fdiv first*q.2)):=
   (az gt ((az (y:=.int q.2) ((az (x:=.int v) (y:=.int first) rfl rfl).trans (mK f0 fb)) rfl).trans (bR sv (hc q List.mem_cons_self)))).trans (bU _ _)
  have st:vN ρ=.nx (j3 one M (jQ s (v.fdiv first) kvs q) low first found (.v (.int s)) (.v (.int v)) (.v (.int q.1)) (.v (.int q.2))):=by
   show iE 2 _ _ ρ=_;unfold iE;rw[ev,ek];show(if(gF kvs).length<=1000 then Out.nx (ρ.set 2 (.ob (.dK (putD (gF kvs) (Sum.inl (s+q.1)) (.int (vI kvs (s+q.1) -v.fdiv first*q.2)))))) else .no)=_;rw[if_pos (by rw[List.length_map];have:=hk.len;omega),uD];rfl
  exact(eV (ρ1:=ρ) rfl st).trans ih
abbrev uo:FS:=(aJ (bK 7 (fy 2 (ao aO (ai 6) (ai 3)) (am (.int 0))))
 (aJ (fI (bH (ao jf (ao iq (ai 7) (ai 4)) (am (.int 0)))) (aV (am .non)) (skip))
 (fI (bH (ao jf (ai 7) (am (.int 0)))) (aJ (de (aF 5 1 iK (bi (ae (bZ (ae (ai 6) (ae (ao gm (ai 7) (ai 4)) (ag)))) (ag)))))
 (fE (bi (df (ai 1))) (gT 2 (cj (gN 8) (cj (gN 9) (fz)))) vN)) (skip))))
theorem Ef {one M:bf}{low first:Int}(hM:SumI M)(hh:M.head?=some (low,first))(fb:first.natAbs<=36)(cM: ∀q∈M,q.2.natAbs<=36)(kM: ∀q∈M, -(60:Int)<=q.1/\q.1<=60):
 ∀(l:List Int) (kvs found:bf) (K:Nat) (s6 s7 s8 s9:Sl),(∀x∈l, -(120:Int)<=x/\x<=120)->KyU kvs->(∀p,(vI kvs p).natAbs<=K)->K*37^l.length<10^200->found.length+l.length<=800->
  (pG first low M l (vI kvs) found=none/\ ∃ρ,eN (gN 6) uo (l.map D.int) (j3 one M kvs low first found s6 s7 s8 s9)=.rt .non ρ)\/
  ∃kvs' r s6' s7' s8' s9',pG first low M l (vI kvs) found=some (vI kvs',r)/\eN (gN 6) uo (l.map D.int) (j3 one M kvs low first found s6 s7 s8 s9)=.nx (j3 one M kvs' low first r s6' s7' s8' s9')/\KyU kvs'
 | [],kvs,found,K,s6,s7,s8,s9,_,hk,_,_,_=>.inr ⟨kvs,found,s6,s7,s8,s9,rfl,rfl,hk⟩
 |x::l,kvs,found,K,s6,s7,s8,s9,hx,hk,cf,kk,lf=>by
  obtain⟨g1,g2,g3⟩:=hM.low hh;have bx:=hx x List.mem_cons_self;rw[List.length_cons] at kk lf
  let v:=vI kvs (x+low)
  have ek:ao aO (ai 6) (ai 3) (j3 one M kvs low first found (.v (.int x)) s7 s8 s9)=some (.int (x+low)):=(az (x:=.int x) (y:=.int low) rfl rfl).trans (aU _ _);have z1:bK 7 (fy 2 (ao aO (ai 6) (ai 3)) (am (.int 0))) (j3 one M kvs low first found (.v (.int x)) s7 s8 s9)=.nx (j3 one M kvs low first found (.v (.int x)) (.v (.int v)) s8 s9):=by
   refine(fD (d:=.int v) ?_).trans rfl;unfold fy;rw[ek];show some ((jg (gF kvs) (Sum.inl (x+low))).getD (.int 0))=some (.int (vI kvs (x+low)));rw[iX];unfold vI;cases kvs.find? λz=>decide (z.1=x+low)<;>rfl
  have t1:bH (ao jf (ao iq (ai 7) (ai 4)) (am (.int 0))) (j3 one M kvs low first found (.v (.int x)) (.v (.int v)) s8 s9)=some (!decide (v.fmod first=0)):=
   cC ((az (x:=.int (v.fmod first)) (y:=.int 0) ((az (x:=.int v) (y:=.int first) rfl rfl).trans (qm g2)) rfl).trans (by rw[j6 (by rw[db];omega),fC]))
  have t2:bH (ao jf (ai 7) (am (.int 0))) (j3 one M kvs low first found (.v (.int x)) (.v (.int v)) s8 s9)=some (!decide (v=0)):=
   cC ((az (x:=.int v) (y:=.int 0) rfl rfl).trans (by rw[j6 (by rw[db];omega),fC]))
  by_cases hm:v.fmod first=0
  ·rw[decide_eq_true hm] at t1;have z2:=eE (t:=aV (am .non)) t1
   by_cases hv:v=0
   ·rw[decide_eq_true hv] at t2;have z3:=eE (t:=(aJ (de (aF 5 1 iK (bi (ae (bZ (ae (ai 6) (ae (ao gm (ai 7) (ai 4)) (ag)))) (ag))))) (fE (bi (df (ai 1))) (gT 2 (cj (gN 8) (cj (gN 9) (fz)))) vN))) t2;have ue:pG first low M (x::l) (vI kvs) found=pG first low M l (vI kvs) found:=by
     conv=>lhs;unfold pG
     rw[if_neg (λw=>w hm),if_pos hv]
    rw[ue,List.map_cons,eV (ρ1:=j3 one M kvs low first found (.v (.int x)) s7 s8 s9) rfl ((aE z1).trans ((aE z2).trans z3))];exact Ef hM hh fb cM kM l kvs found K _ _ _ _ (λy hy=>hx y (List.mem_cons_of_mem _ hy)) hk cf (Nat.lt_of_le_of_lt (Nat.mul_le_mul_left K (Nat.pow_le_pow_right (by decide) (Nat.le_succ _))) kk) (by omega)
   ·rw[decide_eq_false hv] at t2;obtain⟨qo,ql⟩:=xA g2 hm;have cK:(v.fdiv first).natAbs<=K:=Nat.le_trans ql (cf _);have K2:K<10^200:=Nat.lt_of_le_of_lt (Nat.le_mul_of_pos_right K (Nat.pow_pos (by decide))) kk;have a1:de (aF 5 1 iK (bi (ae (bZ (ae (ai 6) (ae (ao gm (ai 7) (ai 4)) (ag)))) (ag)))) (j3 one M kvs low first found (.v (.int x)) (.v (.int v)) s8 s9)=.nx (j3 one M kvs low first (found++[(x,v.fdiv first)]) (.v (.int x)) (.v (.int v)) s8 s9):=by
     refine(ph (b0:=found.map pD) (bs:=found.map pD) (d:=pD (x,v.fdiv first)) rfl (dS (ay (cv (ay rfl (ay ((az (x:=.int v) (y:=.int first) rfl rfl).trans (mK g2 (by omega))) rfl)) (by simp)) rfl)) rfl (by rw[List.length_map];omega)).trans ?_
     show _=Out.nx [_,_,_,_,_,.own ((found++[(x,v.fdiv first)]).map pD),_,_,_,_];rw[List.map_append];rfl
    obtain⟨s8',s9',iw,ik⟩:=CW (one:=one) (M:=M) (low:=low) (found:=found++[(x,v.fdiv first)]) (s:=x) (v:=v) g2 (by omega) (Nat.lt_of_le_of_lt cK K2) M kvs s8 s9 hk (λq hq=>by have:=kM q hq;omega) (λq hq=>Nat.lt_of_le_of_lt (cM q hq) (by decide));have a2:=(ic (f:=bi (df (ai 1))) (g:=gT 2 (cj (gN 8) (cj (gN 9) (fz)))) (b:=vN) (ρ:=j3 one M kvs low first (found++[(x,v.fdiv first)]) (.v (.int x)) (.v (.int v)) s8 s9) (ds:=M.map pD) (dS (gA rfl))).trans iw;have z3:=(kX (u:=skip) t2).trans ((aE a1).trans a2);have fe:(λp=>vI kvs p- (vI kvs (x+low)).fdiv first*sg M (p-x))=vI (M.foldl (jQ x (v.fdiv first)) kvs):=by
     funext p;rw[lZ]
    have ue:pG first low M (x::l) (vI kvs) found=pG first low M l (vI (M.foldl (jQ x (v.fdiv first)) kvs)) (found++[(x,v.fdiv first)]):=by
     conv=>lhs;unfold pG
     rw[if_neg (λw=>w hm),if_neg hv,fe]
    rw[ue,List.map_cons,eV (ρ1:=j3 one M kvs low first found (.v (.int x)) s7 s8 s9) rfl ((aE z1).trans ((aE z2).trans z3))];refine Ef hM hh fb cM kM l _ _ (K*37) _ _ _ _ (λy hy=>hx y (List.mem_cons_of_mem _ hy)) ik (λp=>?_) (by rw[Nat.mul_assoc,<-Nat.pow_succ'];exact kk) (by rw[List.length_append];simp;omega);rw[lZ];have h1:=cf p;have h2:(v.fdiv first*sg M (p-x)).natAbs<=K*36:=by rw[Int.natAbs_mul];exact Nat.mul_le_mul cK (nR hM cM _)
    omega
  ·rw[decide_eq_false hm] at t1;have z2:aJ (fI (bH (ao jf (ao iq (ai 7) (ai 4)) (am (.int 0)))) (aV (am .non)) (skip)) (fI (bH (ao jf (ai 7) (am (.int 0)))) (aJ (de (aF 5 1 iK (bi (ae (bZ (ae (ai 6) (ae (ao gm (ai 7) (ai 4)) (ag)))) (ag))))) (fE (bi (df (ai 1))) (gT 2 (cj (gN 8) (cj (gN 9) (fz)))) vN)) (skip)) (j3 one M kvs low first found (.v (.int x)) (.v (.int v)) s8 s9)=.rt .non (j3 one M kvs low first found (.v (.int x)) (.v (.int v)) s8 s9):=oG ((kX t1).trans (cx rfl));refine .inl ⟨?_,_,zw (ρ1:=j3 one M kvs low first found (.v (.int x)) s7 s8 s9) rfl ((aE z1).trans z2)⟩
   conv=>lhs;unfold pG
   rw[if_pos hm]
theorem xH: ∀S:bf,Ci (S.map pD)=some (gF S)
 | []=>rfl
 |q::S=>by
  show(Ci (S.map pD)).map _=_;rw[xH S];rfl
theorem AX {S:bf}(h:SumI S)(p:Int):vI S p=sg S p:=by
 induction S with
 |nil=>rfl
 |cons q S ih=>
  rw[hX,er];obtain⟨h',ab⟩:=h.tail
  by_cases e:q.1=p
  ·rw[if_pos e,if_pos e,iC λz hz=>by have:=ab z hz;omega,Int.add_zero]
  ·rw[if_neg e,if_neg e,Int.zero_add,ih h']
theorem Bz {S:bf}(h:SumI S):(S.map (·.1)).Nodup:=by
 refine List.Pairwise.imp ?_ (List.pairwise_map.mpr h.2)
 intro a b h;omega
theorem BI {S:bf}(h:SumI S):((gF S).map (·.1)).Nodup:=by
 rw[List.map_map];refine List.pairwise_map.mpr (h.2.imp λhab e=>?_);have e:=Sum.inl.inj (show(Sum.inl _:ba)=Sum.inl _ from e);omega
theorem qz: ∀S:bf,nP (gF S)=some (S.map λq=>D.int q.1)
 | []=>rfl
 |q::S=>by
  show(nP (gF S)).map _=_;rw[qz S];rfl
theorem BF {S:bf}{p:Int}(h:p∉S.map (·.1)):vI S p=0:=by
 induction S with
 |nil=>rfl
 |cons q S ih=>
  rw[hX,if_neg (λe=>h (by rw[<-e];exact List.mem_cons_self)),ih λw=>h (List.mem_cons_of_mem _ w)]
theorem rk: ∀l:List Int,ju (l.map D.int)=some (l.map λv=> !decide (v=0))
 | []=>rfl
 |v::l=>by
  show(ju (l.map D.int)).map _=_;rw[rk l];rfl
theorem Au {one:bf}{t1 o1:Int}{i:Nat}{ρ:aG}(h:ρ[i]? =some (.v (.lst (one.map pD))))(ht:one.getLast?=some (t1,o1)):ao aW (ao aW (ai i) (cZ (am (.int 1)))) (am (.int 0)) ρ=some (.int t1):=by
 obtain⟨l',e'⟩:=eO ht;have n:ai i ρ=some (.lst (one.map pD)):=by unfold ai;rw[h]
 exact(az (x:=pD (t1,o1)) (y:=.int 0) ((az (y:=.int (-1)) n rfl).trans (by rw[e',List.map_append];exact x6 _ _)) rfl).trans (lF _ _)
theorem BW {one:bf}{t1 o1:Int}{i:Nat}{ρ:aG}(h:ρ[i]? =some (.v (.lst (one.map pD))))(ht:one.head?=some (t1,o1)):ao aW (ao aW (ai i) (am (.int 0))) (am (.int 0)) ρ=some (.int t1):=by
 obtain⟨v,r,e'⟩:=ur ht;have n:ai i ρ=some (.lst (one.map pD)):=by unfold ai;rw[h]
 refine(az (x:=pD (t1,v)) (y:=.int 0) ((az (y:=.int 0) n rfl).trans ?_) rfl).trans (lF _ _);rw[e'];exact oP _ _
abbrev z6:FS:=zu 2 ((λρ=>(aV (ao aW (aX (ae (am .non) (ae (ai 5) (ag)))) (aA wD (ae (tz (eD (bH (aA vA (ae (bL 1 (nl 2) (gN 10) (dP) (vj 2 (ai 10))) (ag)))))) (ag))))) (ku 5 ρ)))
theorem EM {one M kvs r:bf}{low first:Int}{s6 s7 s8 s9:Sl}(hk:KyU kvs): ∃ρ,((∀p,vI kvs p=0)/\z6 (j3 one M kvs low first r s6 s7 s8 s9)=.rt (.lst (r.map pD)) ρ)\/((∃p,vI kvs p≠0)/\z6 (j3 one M kvs low first r s6 s7 s8 s9)=.rt .non ρ):=by
 let ρ:aG:=[.v (.lst (one.map pD)),.v (.lst (M.map pD)),.ob (.dR (gF kvs)),.v (.int low),.v (.int first),.v (.lst (r.map pD)),s6,s7,s8,s9]
 have lk:=hk.len;have cp:bL 1 (nl 2) (gN 10) (dP) (vj 2 (ai 10)) ρ=some (.lst ((kvs.map λq=>vI kvs q.1).map D.int)):=by
  refine(fj (ds:=kvs.map λq=>D.int q.1) (qz kvs) (by rw[List.length_map];omega) (dO (h:=λq:Int×Int=>D.int q.1) (o:=λq=>D.int (vI kvs q.1)) kvs λq hq=>⟨[.v (.lst (one.map pD)),.v (.lst (M.map pD)),.ob (.dR (gF kvs)),.v (.int low),.v (.int first),.v (.lst (r.map pD)),s6,s7,s8,s9,.v (.int q.1)],rfl,?_⟩)).trans (by rw[List.map_map];rfl);show jg (gF kvs) (Sum.inl q.1)=_;rw[iX,iG (List.mem_map.mpr ⟨q,hq,rfl⟩)]
 have an:bH (aA vA (ae (bL 1 (nl 2) (gN 10) (dP) (vj 2 (ai 10))) (ag))) ρ=some (((kvs.map λq=>vI kvs q.1).map λv=> !decide (v=0)).any id):=by
  refine cC ((gG (ds:=[.lst ((kvs.map λq=>vI kvs q.1).map D.int)]) (ay cp rfl)).trans ?_);show(ju _).map _=_;rw[rk];rfl
 have op:z6 (j3 one M kvs low first r s6 s7 s8 s9)=aV (ao aW (aX (ae (am .non) (ae (ai 5) (ag)))) (aA wD (ae (tz (eD (bH (aA vA (ae (bL 1 (nl 2) (gN 10) (dP) (vj 2 (ai 10))) (ag)))))) (ag)))) ρ:=rfl;have ls:aX (ae (am .non) (ae (ai 5) (ag))) ρ=some (.lst [.non,.lst (r.map pD)]):=bW rfl (by simp);refine⟨ρ,?_⟩;rw[op];cases ea:((kvs.map λq=>vI kvs q.1).map λv=> !decide (v=0)).any id with
 |false=>
  rw[ea] at an;refine .inl ⟨λp=>?_,cx ((az (y:=.int 1) ls ((gG (ds:=[.bl true]) (ay (sD (iO an)) rfl)).trans rfl)).trans rfl)⟩
  by_cases hp:p∈kvs.map (·.1)
  ·obtain⟨q,hq,rfl⟩:=List.mem_map.mp hp;have:=List.any_eq_false.mp ea (!decide (vI kvs q.1=0)) (List.mem_map.mpr ⟨_,List.mem_map.mpr ⟨q,hq,rfl⟩,rfl⟩);simpa using this
  ·exact BF hp
 |true=>
  rw[ea] at an;obtain⟨b,hb,e⟩:=List.any_eq_true.mp ea;obtain⟨v,hv,rfl⟩:=List.mem_map.mp hb;obtain⟨q,hq,rfl⟩:=List.mem_map.mp hv;exact .inr ⟨⟨q.1,by simpa using e⟩,cx ((az (y:=.int 0) ls ((gG (ds:=[.bl false]) (ay (sD (iO an)) rfl)).trans rfl)).trans rfl)⟩
theorem nC {one M:bf}(h1:Gs one 30000)(hM:Gs M 36)(m0:M≠[]):(∃r,AG one M r/\cJ [.lst (one.map pD),.lst (M.map pD)]=some (.lst (r.map pD)))\/((∀r,¬AG one M r)/\cJ [.lst (one.map pD),.lst (M.map pD)]=some .non):=by
 obtain⟨⟨pw,mn⟩,hl⟩: ∃a,M.getLast?=some a:=by
  cases e:M.getLast? with
  |none=>exact absurd (List.getLast?_eq_none_iff.mp e) m0
  |some a=>exact⟨a,rfl⟩
 obtain⟨⟨lM,oM⟩,hh⟩: ∃a,M.head?=some a:=by
  cases M with
  |nil=>exact absurd rfl m0
  |cons a r=>exact⟨a,rfl⟩
 have mh: ∃r,M=(lM,oM)::r:=by cases M with
  |nil=>cases hh
  |cons a r=>cases hh;exact⟨r,rfl⟩
 have lo:=h1.len;have p1:Dt 2 (ai 0) (cS 10 [.lst (one.map pD),.lst (M.map pD)])=.nx [.v (.lst (one.map pD)),.v (.lst (M.map pD)),.ob (.dK (gF one)),.no,.no,.no,.no,.no,.no,.no]:=by
  unfold Dt;rw[show ai 0 (cS 10 [.lst (one.map pD),.lst (M.map pD)])=some (.lst (one.map pD)) from rfl];dsimp only;rw[xH];dsimp only;rw[if_pos (by rw[decide_eq_true (BI h1.sm),decide_eq_true (show(gF one).length<=1000 by rw[List.length_map];omega)];rfl)];rfl
 have p2:fq (gT 2 (cj (gN 3) (cj (gN 4) (fz)))) (pu (ao aW (ai 1) (am (.int 0)))) [.v (.lst (one.map pD)),.v (.lst (M.map pD)),.ob (.dK (gF one)),.no,.no,.no,.no,.no,.no,.no]=.nx [.v (.lst (one.map pD)),.v (.lst (M.map pD)),.ob (.dK (gF one)),.v (.int lM),.v (.int oM),.no,.no,.no,.no,.no]:=by
  obtain⟨r,e⟩:=mh;refine mj (d:=pD (lM,oM)) (dm ((az (x:=.lst (M.map pD)) (y:=.int 0) rfl rfl).trans ?_)) rfl;rw[e];exact oP _ _
 have p3:fG 5 (aX (ag)) [.v (.lst (one.map pD)),.v (.lst (M.map pD)),.ob (.dK (gF one)),.v (.int lM),.v (.int oM),.no,.no,.no,.no,.no]=.nx (j3 one M one lM oM [] .no .no .no .no):=(gX (ds:=[]) (bW rfl (by simp))).trans rfl;have pre:cD (cS 10 [.lst (one.map pD),.lst (M.map pD)])=aJ (fI (bH (ao nZ (ai 0) (aX (ag)))) ((λρ=>aV (ai 5) (ku 5 ρ))) (skip))
  (aJ (fE (bi (mE (ae (ao bD (ao aW (ao aW (ai 0) (am (.int 0))) (am (.int 0))) (ai 3)) (ae (ao aO (ao bD (ao aW (ao aW (ai 0) (cZ (am (.int 1)))) (am (.int 0))) (ao aW (ao aW (ai 1) (cZ (am (.int 1)))) (am (.int 0)))) (am (.int 1))) (ag))))) (gN 6) uo) z6) (j3 one M one lM oM [] .no .no .no .no):=by
  unfold cD;rw[aE p1,aE p2,aE p3]
 have eq0:bH (ao nZ (ai 0) (aX (ag))) (j3 one M one lM oM [] .no .no .no .no)=some (dN (.lst (one.map pD)) (.lst [])):=cC ((az (x:=.lst (one.map pD)) (y:=.lst []) rfl (bW rfl (by simp))).trans (kK (um one)));cases one with
 |nil=>
  refine .inl ⟨[],⟨h1.sm,λp=>rfl⟩,?_⟩;apply fX (kd:=.s) (n:=10) (t:=cD);rw[pre];exact⟨_,oG ((kX (eq0.trans rfl)).trans (cx rfl))⟩
 |cons z l=>
  obtain⟨l1,v1⟩:=z;obtain⟨⟨t1,o1⟩,ht⟩: ∃a,((l1,v1)::l).getLast?=some a:=by
   cases e:((l1,v1)::l).getLast? with
   |none=>exact absurd (List.getLast?_eq_none_iff.mp e) (by simp)
   |some a=>exact⟨a,rfl⟩
  have i0:=eE (t:=λρ=>aV (ai 5) (ku 5 ρ)) (eq0.trans (show _=some false from rfl));obtain⟨lt',et⟩:=eO ht;obtain⟨ll',el⟩:=eO hl;have b1:=h1.ky (l1,v1) List.mem_cons_self;have b2:=h1.ky (t1,o1) (by rw[et];simp);have b3:=hM.ky (pw,mn) (by rw[el];simp);have b4:=hM.ky (lM,oM) (by obtain⟨r,e⟩:=mh;rw[e];exact List.mem_cons_self);have c4:=hM.cf (lM,oM) (by obtain⟨r,e⟩:=mh;rw[e];exact List.mem_cons_self);dsimp only at b1 b2 b3 b4 c4;have lp:lM<=pw:=by
   obtain⟨w1,w2,w3⟩:=hM.sm.low hh;obtain⟨g1,g2,g3⟩:=hM.sm.top hl
   by_cases w:pw<lM
   ·exact absurd (w3 _ w) (by rw[g1];exact g2)
   ·omega
  let n:=(t1-pw+1- (l1-lM)).toNat
  let L:List Int:=(List.range n).map λ(i:Nat)=>l1-lM+(i:Int)
  have rg:mE (ae (ao bD (ao aW (ao aW (ai 0) (am (.int 0))) (am (.int 0))) (ai 3)) (ae (ao aO (ao bD (ao aW (ao aW (ai 0) (cZ (am (.int 1)))) (am (.int 0))) (ao aW (ao aW (ai 1) (cZ (am (.int 1)))) (am (.int 0)))) (am (.int 1))) (ag))) (j3 ((l1,v1)::l) M ((l1,v1)::l) lM oM [] .no .no .no .no)=some (L.map D.int):=by
   have c:ae (ao bD (ao aW (ao aW (ai 0) (am (.int 0))) (am (.int 0))) (ai 3)) (ae (ao aO (ao bD (ao aW (ao aW (ai 0) (cZ (am (.int 1)))) (am (.int 0))) (ao aW (ao aW (ai 1) (cZ (am (.int 1)))) (am (.int 0)))) (am (.int 1))) (ag)) (j3 ((l1,v1)::l) M ((l1,v1)::l) lM oM [] .no .no .no .no)=some [.int (l1-lM),.int (t1-pw+1)]:=
    ay ((az (y:=.int lM) (BW (one:=(l1,v1)::l) (o1:=v1) rfl rfl) rfl).trans (bU _ _)) (ay ((az (y:=.int 1) ((az (Au (one:=(l1,v1)::l) rfl ht) (Au (one:=M) rfl hl)).trans (bU _ _)) rfl).trans (aU _ _)) rfl)
   unfold mE;rw[c];show(if _ then _ else _)=_;rw[if_pos (by omega)];show some (lD _ _)=_;unfold lD;rw[List.map_map];rfl
  have hL: ∀x,x∈L↔l1-lM<=x/\x<=t1-pw:=λx=>by
   constructor
   ·intro h;obtain⟨i,hi,rfl⟩:=List.mem_map.mp h;rw[List.mem_range] at hi;omega
   ·intro h;refine List.mem_map.mpr ⟨(x- (l1-lM)).toNat,?_,by omega⟩;rw[List.mem_range];omega
  have pL:L.Pairwise (·< ·):=List.pairwise_map.mpr (List.pairwise_lt_range.imp λh=>by omega);have ln:L.length<=121:=by
   show((List.range n).map _).length<=121;rw[List.length_map,List.length_range];omega
  have k0:KyU ((l1,v1)::l):=⟨Bz h1.sm,λk hk=>by
   obtain⟨q,hq,rfl⟩:=List.mem_map.mp hk
   have:=h1.ky q hq;omega⟩
  have v0: ∀p,vI ((l1,v1)::l) p=sg ((l1,v1)::l) p:=AX h1.sm
  have fs:=ic (f:=bi (mE (ae (ao bD (ao aW (ao aW (ai 0) (am (.int 0))) (am (.int 0))) (ai 3)) (ae (ao aO (ao bD (ao aW (ao aW (ai 0) (cZ (am (.int 1)))) (am (.int 0))) (ao aW (ao aW (ai 1) (cZ (am (.int 1)))) (am (.int 0)))) (am (.int 1))) (ag))))) (g:=gN 6) (b:=uo) (dS rg);have ok: ∀r,AG ((l1,v1)::l) M r-> ∃g',pG oM lM M L (vI ((l1,v1)::l)) []=some (g',r)/\ ∀p,g' p=0:=λr q=>by
   have:=xr hM.sm hh L (vI ((l1,v1)::l)) [] r pL q.1 (λa ha=>(hL _).mpr (ul h1.sm hM.sm hl hh ht rfl q a ha)) λp=>by rw[v0];exact q.2 p
   simpa using this
  rcases Ef (one:=(l1,v1)::l) hM.sm hh (by omega) hM.cf hM.ky L ((l1,v1)::l) [] 30000 .no .no .no .no (λx hx=>by have:=(hL x).mp hx;omega) k0 (λp=>by rw[v0];exact nR h1.sm h1.cf p) (Nat.lt_of_le_of_lt (Nat.mul_le_mul_left _ (Nat.pow_le_pow_right (by decide) ln)) (by decide)) (by simp;omega) with⟨u,ρ,w⟩|⟨kvs',r,s6,s7,s8,s9,u,w,kk⟩
  ·refine .inr ⟨λr q=>?_,?_⟩
   ·obtain⟨g',e,_⟩:=ok r q;rw[u] at e;cases e
   ·apply fX (kd:=.s) (n:=10) (t:=cD);rw[pre];exact⟨_,(aE i0).trans (oG (fs.trans w))⟩
  ·obtain⟨ρ,⟨z0,ez⟩|⟨z0,ez⟩⟩:=EM (one:=(l1,v1)::l) (M:=M) (r:=r) (low:=lM) (first:=oM) (s6:=s6) (s7:=s7) (s8:=s8) (s9:=s9) kk
   ·obtain⟨sr,G,e,hG⟩:=tf hM.sm hh L _ _ [] r pL ⟨λ_ h=>absurd h List.not_mem_nil,.nil⟩ (λa ha=>absurd ha List.not_mem_nil) u;rw[List.nil_append] at e;subst e;refine .inl ⟨r,⟨sr,λp=>by rw[<-v0,hG p,z0,Int.add_zero]⟩,?_⟩;apply fX (kd:=.s) (n:=10) (t:=cD);rw[pre];exact⟨_,(aE i0).trans ((aE (fs.trans w)).trans ez)⟩
   ·refine .inr ⟨λr' q=>?_,?_⟩
    ·obtain⟨g',e,h0⟩:=ok r' q;rw[u] at e;obtain⟨p,hp⟩:=z0;have:=congrArg (λz=>z.1 p) (Option.some.inj e);exact hp (by rw[show vI kvs' p=g' p from this];exact h0 p)
    ·apply fX (kd:=.s) (n:=10) (t:=cD);rw[pre];exact⟨_,(aE i0).trans ((aE (fs.trans w)).trans ez)⟩
theorem Bn {f:FE}{ρ:aG}{S:List (Int×Int)}(e:f ρ=some (.lst (S.map pD))):CQ f ρ=some (.lst (S.map pD)):=by
 unfold CQ;rw[e];show(if u8 (S.map pD)=true then _ else _)=_;rw[if_pos (CN S)]
theorem CS {M1 M2:FS}{ρ ρ':aG}(h:M1 ρ=.nx ρ'):yw M1 M2 ρ=.nx ρ':=by unfold yw;rw[h]
theorem Dw {M1 M2:FS}{ρ:aG}(h:M1 ρ=.no):yw M1 M2 ρ=M2 ρ:=by unfold yw;rw[h]
theorem x5 {one M:bf}(h1:Gs one 30000)(hM:Gs M 36)(m0:M≠[]):bM [.lst (one.map pD),.lst (M.map pD)]=some (.bl true):=by
 let A:D:=.lst (one.map pD)
 let B:D:=.lst (M.map pD)
 have d2:eF (.lst [A,B])<=32:=by
  unfold eF ft ft ft;have h1:eF (.lst (one.map pD))<=2:=by unfold eF;have:=uz one;omega
  have h2:eF (.lst (M.map pD))<=2:=by unfold eF;have:=uz M;omega
  show max (eF (.lst (one.map pD))) (max (eF (.lst (M.map pD))) 0)+1<=32;omega
 have lo:=h1.len;have lM:=hM.len;apply fX (kd:=.s) (n:=6) (t:=iD);unfold iD;have lst2: ∀s2 s3 s4 s5:Sl,aX (ae (ai 0) (ae (ai 1) (ag))) [.v A,.v B,s2,s3,s4,s5]=some (.lst [A,B]):=λ_ _ _ _=>bW rfl (by simp)
 have q2: ∀due:D,bK 3 (aX (ae (aA kW (ae (ai 0) (ag))) (ae (aA kW (ae (ai 1) (ag))) (ag)))) [.v A,.v B,.v due,.no,.no,.no]=.nx [.v A,.v B,.v due,.v (.lst [A,B]),.no,.no]:=λdue=>(fD (bW (ds:=[A,B]) rfl (by simp))).trans rfl
 have c1: ∀(due:D) (s4 s5:Sl),bH (ao jf (ai 3) (aX (ae (ai 0) (ae (ai 1) (ag))))) [.v A,.v B,.v due,.v (.lst [A,B]),s4,s5]=some false:=λdue s4 s5=>cC ((az (x:=.lst [A,B]) rfl (lst2 _ _ _ _)).trans (j0 d2))
 rcases uU h1 hM m0 with⟨r,q,un,ky,sr,ep⟩|⟨no,ep⟩
 ·rcases nC h1 hM m0 with⟨r',q',eu⟩|⟨no,_⟩
  ·have:=un r' q';subst this;have lr:=mF (R:=120) q.1 ky;have es:=y8 ep;have q1:bK 2 (aA (nF 2 cJ) (ae (ai 0) (ae (ai 1) (ag)))) (cS 6 [A,B])=.nx [.v A,.v B,.v (.lst (r'.map pD)),.no,.no,.no]:=(fD ((fx (ds:=[A,B]) rfl rfl).trans eu)).trans rfl;rw[aE q1,aE (q2 _)];refine oi (λρ=> ∃s4 s5,ρ=[.v A,.v B,.v (.lst (r'.map pD)),.v (.lst [A,B]),s4,s5]) (lu (ds:=(List.range 2).map nI) (dS (mS (n:=2) rfl (by omega))) (lC _ (λd hd ρ hρ=>?_) _ ⟨_,_,rfl⟩)) λρ' hρ'=>⟨ρ',cx rfl⟩
   obtain⟨s4,s5,rfl⟩:=hρ;have z1:fG 5 (aA (nF 2 bI) (ae (ao aW (ai 3) (am (.int 0))) (ae (ao aW (ai 3) (am (.int 1))) (ag)))) [.v A,.v B,.v (.lst (r'.map pD)),.v (.lst [A,B]),.v d,s5]=.nx [.v A,.v B,.v (.lst (r'.map pD)),.v (.lst [A,B]),.v d,.own (r'.map pD)]:=(gX ((fx (ds:=[A,B]) rfl rfl).trans es)).trans rfl;have z2:=eE (t:=aV (am (.bl false))) (c1 (.lst (r'.map pD)) (.v d) (.own (r'.map pD)));have z3:bH (ao (Dg false) (ai 2) (am .non)) [.v A,.v B,.v (.lst (r'.map pD)),.v (.lst [A,B]),.v d,.own (r'.map pD)]=some false:=rfl;have et:eW [.lst (r'.map pD),B]=some A:=by
    rw[qB (L:=r') (M:=M) (λz hz=>?_) (Nat.le_trans (Nat.mul_le_mul lr lM) (by decide)) sr (λz hz=>Nat.lt_of_le_of_lt (hM.cf z hz) (by decide))]
    ·rw[uf (dY _) h1.sm λp=>by rw[lH,<-q.2]]
    ·unfold gu at hz;obtain⟨a,ha,hz⟩:=List.mem_flatMap.mp hz;obtain⟨b,hb,rfl⟩:=List.mem_map.mp hz;have:=ky a ha;have:=hM.ky b hb;dsimp only;omega
   have z4:lj (eD (eJ (DD (aA (nF 1 dU) (ae (iz 5) (ag)))))) (lj (bH (ao jf (iz 5) (ai 2))) (bH (ao jf (CQ (aA (nF 2 eW) (ae (iz 5) (ae (aA kW (ae (ai 1) (ag))) (ag))))) (ai 0)))) [.v A,.v B,.v (.lst (r'.map pD)),.v (.lst [A,B]),.v d,.own (r'.map pD)]=some false:=by
    refine iU (a:=false) (b:=false) (iO (b:=true) (ke ?_)) (iU (a:=false) (b:=false) (cC ((az (x:=.lst (r'.map pD)) rfl rfl).trans (j0 (um r')))) (cC ((az (y:=A) (Bn (S:=one) ((fx (ds:=[.lst (r'.map pD),B]) rfl rfl).trans et)) rfl).trans (j0 (um one)))));have e:aA (nF 1 dU) (ae (iz 5) (ag)) [.v A,.v B,.v (.lst (r'.map pD)),.v (.lst [A,B]),.v d,.own (r'.map pD)]=some (.bl true):=(fx (ds:=[.lst (r'.map pD)]) rfl rfl).trans (yr q.1 (by omega));unfold DD;rw[e];rfl
   have z5:de (aF 5 1 iK (bi (ae (bZ (ae (am (.int 99)) (ae (am (.int 1)) (ag)))) (ag)))) [.v A,.v B,.v (.lst (r'.map pD)),.v (.lst [A,B]),.v d,.own (r'.map pD)]=.nx [.v A,.v B,.v (.lst (r'.map pD)),.v (.lst [A,B]),.v d,.own (r'.map pD++[pD (99,1)])]:=
    (ph (b0:=r'.map pD) (bs:=r'.map pD) (d:=pD (99,1)) rfl (dS (ay (cv rfl (by simp)) rfl)) rfl (by rw[List.length_map];omega)).trans rfl
   exact⟨_,_,rfl,(aE (CS z1)).trans ((aE z2).trans ((wE z3).trans ((wE z4).trans z5))),_,_,rfl⟩
  ·exact absurd q (no r)
 ·rcases nC h1 hM m0 with⟨r',q',eu⟩|⟨_,eu⟩
  ·exact absurd q' (no r')
  ·obtain⟨e1,e2⟩:=Ac ep;have q1:bK 2 (aA (nF 2 cJ) (ae (ai 0) (ae (ai 1) (ag)))) (cS 6 [A,B])=.nx [.v A,.v B,.v .non,.no,.no,.no]:=(fD ((fx (ds:=[A,B]) rfl rfl).trans eu)).trans rfl;rw[aE q1,aE (q2 _)];refine oi (λρ=> ∃s4 s5,ρ=[.v A,.v B,.v .non,.v (.lst [A,B]),s4,s5]) (lu (ds:=(List.range 2).map nI) (dS (mS (n:=2) rfl (by omega))) (lC _ (λd hd ρ hρ=>?_) _ ⟨_,_,rfl⟩)) λρ' hρ'=>⟨ρ',cx rfl⟩
   obtain⟨s4,s5,rfl⟩:=hρ;have z0:fG 5 (aA (nF 2 bI) (ae (ao aW (ai 3) (am (.int 0))) (ae (ao aW (ai 3) (am (.int 1))) (ag)))) [.v A,.v B,.v .non,.v (.lst [A,B]),.v d,s5]=.no:=by
    have e:aA (nF 2 bI) (ae (ao aW (ai 3) (am (.int 0))) (ae (ao aW (ai 3) (am (.int 1))) (ag))) [.v A,.v B,.v .non,.v (.lst [A,B]),.v d,s5]=none:=(fx (ds:=[A,B]) rfl rfl).trans e1;unfold fG;rw[e]
   have z1:bK 5 (aA (nF 2 fP) (ae (ao aW (ai 3) (am (.int 0))) (ae (ao aW (ai 3) (am (.int 1))) (ag)))) [.v A,.v B,.v .non,.v (.lst [A,B]),.v d,s5]=.nx [.v A,.v B,.v .non,.v (.lst [A,B]),.v d,.v (.int 3)]:=(fD ((fx (ds:=[A,B]) rfl rfl).trans e2)).trans rfl;have z2:=eE (t:=aV (am (.bl false))) (c1 .non (.v d) (.v (.int 3)));have z3:bH (ao (Dg false) (ai 2) (am .non)) [.v A,.v B,.v .non,.v (.lst [A,B]),.v d,.v (.int 3)]=some true:=rfl;have z4:bH (ao jf (iz 5) (am (.int 3))) [.v A,.v B,.v .non,.v (.lst [A,B]),.v d,.v (.int 3)]=some false:=cC ((az (x:=.int 3) (y:=.int 3) rfl rfl).trans (j0 (by rw[db];omega)));exact⟨_,_,rfl,(aE ((Dw z0).trans z1)).trans ((aE z2).trans ((kX z3).trans (eE z4))),_,_,rfl⟩
theorem jR {f:GA}{ρ ρ1:aG}{ds:List D}(h:f ρ=some (ds,ρ1))(h2:ds.length<=1000):je f ρ=some (.tup ds,ρ1):=by
 unfold je;rw[h];exact if_pos (Nat.le_trans h2 (by decide))
theorem yY {f:GA}{ρ ρ1:aG}{ds:List D}(h:f ρ=some (ds,ρ1))(h2:ds.length<=1000):tF f ρ=some (.lst ds,ρ1):=by
 unfold tF;rw[h];exact if_pos (Nat.le_trans h2 (by decide))
theorem bX {j N:Nat}{m a b:Int}{f:FE}{ρ:aG}(B:Bag N a b)(hN:N<=1000000)(h0:eI j ρ=some (aS a b))(hf:f ρ=some (.int m))(hm:0<m)(hm2:m<=1000000): ∃w a' b',aF j 1 aq (bi (ae f (ag))) ρ=some (.int w,dI j (aS a' b') ρ)/\Bag (N+1) a' b'/\0<=w/\w<m:=by
 obtain⟨w,a',b',e,B',w0,w1⟩:=zk (m:=m) B (by omega) hm (Nat.lt_of_le_of_lt (show m.natAbs<=1000000 by omega) (by decide));exact⟨w,a',b',gg h0 (dS (ay hf rfl)) h0 rfl e,B',w0,w1⟩
theorem u7 {j:Nat}{ρ:aG}{bs0 bs:List D}(h:eI j ρ=some bs0):eI j (dI j bs ρ)=some bs:=by
 unfold eI at h;unfold dI;split at h
 ·rename_i ds e
  have lt:=(List.getElem?_eq_some_iff.mp e).1;unfold eI;rw[List.getElem?_set_self lt]
 ·rename_i ds e
  have lt:=(List.getElem?_eq_some_iff.mp e).1;unfold eI;rw[List.getElem?_set_self lt]
 ·cases h
theorem vO {j:Nat}{ρ:aG}{bs0 bs bs':List D}(h:eI j ρ=some bs0):dI j bs' (dI j bs ρ)=dI j bs' ρ:=by
 unfold eI at h;split at h
 ·rename_i ds e
  have lt:=(List.getElem?_eq_some_iff.mp e).1;unfold dI;rw[e];dsimp only;rw[List.getElem?_set_self lt];dsimp only;rw[List.set_set]
 ·rename_i ds e
  have lt:=(List.getElem?_eq_some_iff.mp e).1;unfold dI;rw[e];dsimp only;rw[List.getElem?_set_self lt];dsimp only;rw[List.set_set]
 ·cases h
abbrev vJ(j:Nat):GE:=bu be (bu aW (pu (aX (ae (am (.int 1)) (ae (cZ (am (.int 1))) (ag))))) (aF j 1 aq (bi (ae (am (.int 2)) (ag))))) (bu aO (pu (am (.int 1))) (aF j 1 aq (bi (ae (am (.int 9)) (ag)))))
theorem oX {j N:Nat}{a b:Int}{ρ:aG}(B:Bag N a b)(hN:N<=900000)(h0:eI j ρ=some (aS a b)): ∃(c a' b':Int),vJ j ρ=some (.int c,dI j (aS a' b') ρ)/\Bag (N+2) a' b'/\c≠0/\c.natAbs<=9:=by
 obtain⟨w,a1,b1,e1,B1,w0,w1⟩:=bX (m:=2) (f:=am (.int 2)) B (by omega) h0 rfl (by omega) (by omega);obtain⟨v,a2,b2,e2,B2,v0,v1⟩:=bX (m:=9) (f:=am (.int 9)) (ρ:=dI j (aS a1 b1) ρ) B1 (by omega) (u7 h0) rfl (by omega) (by omega);rw[vO h0] at e2;have l: ∀ρ:aG,aX (ae (am (.int 1)) (ae (cZ (am (.int 1))) (ag))) ρ=some (.lst [.int 1,.int (-1)]):=λρ=>bW rfl (by simp)
 obtain⟨s,hs,s1⟩: ∃s:Int,aW (.lst [.int 1,.int (-1)]) (.int w)=some (.int s)/\(s=1\/s= -1):=by
  have:w=0\/w=1:=by omega
  rcases this with rfl|rfl
  ·exact⟨1,rfl,.inl rfl⟩
  ·exact⟨-1,rfl,.inr rfl⟩
 refine⟨s*(1+v),a2,b2,cg (cg (dm (l ρ)) e1 hs) (cg (dm rfl) e2 (aU _ _)) (bR (Nat.lt_of_le_of_lt (show s.natAbs<=1 by omega) (by decide)) (Nat.lt_of_le_of_lt (show(1+v).natAbs<=9 by omega) (by decide))),B2,?_,?_⟩
 ·rcases s1 with rfl|rfl<;>omega
 ·rcases s1 with rfl|rfl<;>omega
theorem Gs.mono {S:bf}{c c':Nat}(h:Gs S c)(hc:c<=c'):Gs S c':=⟨h.sm,h.ky,λq hq=>Nat.le_trans (h.cf q hq) hc⟩
theorem Gs.tail {S:bf}{c:Nat}{a:Int×Int}(h:Gs (a::S) c):Gs S c:=⟨h.sm.tail.1,λq hq=>h.ky q (List.mem_cons_of_mem _ hq),λq hq=>h.cf q (List.mem_cons_of_mem _ hq)⟩
theorem Gs.nil(c:Nat):Gs [] c:=⟨⟨λ_ h=>absurd h List.not_mem_nil,.nil⟩,λ_ h=>absurd h List.not_mem_nil,λ_ h=>absurd h List.not_mem_nil⟩
theorem oV {L:bf}{c:Nat}(hk: ∀q∈L, -(60:Int)<=q.1/\q.1<=60)(hc: ∀p,(sg L p).natAbs<=c):Gs (bj L) c:=by
 refine⟨dY L,λq hq=>?_,λq hq=>?_⟩
 ·obtain⟨p,hp,e⟩:=oH hq;rw[<-e];exact hk p hp
 ·rw[<-(dY L).sg_mem (p:=q.1) (v:=q.2) hq,lH];exact hc _
abbrev B7:GE:=je (bb (bu bD (aF 0 1 aq (bi (ae (ao aW (aX (ae (am (.int 7)) (ae (am (.int 61)) (ag)))) (ai 2)) (ag)))) (pu (ao aW (aX (ae (am (.int 3)) (ae (am (.int 30)) (ag)))) (ai 2)))) (bb (bu be (pu (ao aW (aX (ae (am (.int 1)) (ae (cZ (am (.int 1))) (ag)))) (ao cO (ai 4) (am (.int 2))))) (bu aO (pu (am (.int 1))) (aF 0 1 aq (bi (ae (am (.int 9)) (ag)))))) (bi (ag))))
theorem oS {N:Nat}{a b:Int}{k:Nat}(hk:k<=1)(B:Bag N a b)(hN:N<=1000): ∃(S:bf) (a' b':Int),cG (aS a b) [.int k]=some (.lst (S.map pD),aS a' b')/\Gs S 36/\S.length<=4/\(∀q∈S, -(30:Int)<=q.1/\q.1<=30)/\(k=1->S≠[])/\Bag (N+20) a' b':=by
 obtain⟨w,a1,b1,e1,B1,w0,w1⟩:=bX (j:=0) (m:=2) (f:=am (.int 2)) (ρ:=js 5 (aS a b) [.int k]) B (by omega) rfl rfl (by omega) (by omega);have q1:dc 2 (aF 0 1 aq (bi (ae (am (.int 2)) (ag)))) (js 5 (aS a b) [.int k])=.nx [.arg (aS a1 b1),.v (.int k),.v (.int w),.no,.no]:=(cQ e1).trans rfl;have q2:fG 3 (aX (ag)) [.arg (aS a1 b1),.v (.int k),.v (.int w),.no,.no]=.nx [.arg (aS a1 b1),.v (.int k),.v (.int w),.own (([]:bf).map pD),.no]:=(gX (bW rfl (by simp))).trans rfl;obtain⟨t,a2,b2,e2,B2,t0,t1⟩:=bX (j:=0) (m:=5-k) (f:=ao bD (am (.int 5)) (ai 1)) (ρ:=[.arg (aS a1 b1),.v (.int k),.v (.int w),.own (([]:bf).map pD),.no]) B1 (by omega) rfl ((az (x:=.int 5) (y:=.int k) rfl rfl).trans (bU _ _)) (by omega) (by omega);obtain⟨n,hn,en⟩: ∃n:Nat,n<=4/\(k:Int)+t=n:=⟨((k:Int)+t).toNat,by omega,by omega⟩
 have q3:qK (bb (bu aO (pu (ai 1)) (aF 0 1 aq (bi (ae (ao bD (am (.int 5)) (ai 1)) (ag))))) (bi (ag))) [.arg (aS a1 b1),.v (.int k),.v (.int w),.own (([]:bf).map pD),.no]=some (lD 0 n,[.arg (aS a2 b2),.v (.int k),.v (.int w),.own (([]:bf).map pD),.no]):=by
  have:bb (bu aO (pu (ai 1)) (aF 0 1 aq (bi (ae (ao bD (am (.int 5)) (ai 1)) (ag))))) (bi (ag)) [.arg (aS a1 b1),.v (.int k),.v (.int w),.own (([]:bf).map pD),.no]=some ([.int n],[.arg (aS a2 b2),.v (.int k),.v (.int w),.own (([]:bf).map pD),.no]):=
   bG (cg (x:=.int k) (dm rfl) e2 ((aU _ _).trans (by rw[en]))) rfl
  unfold qK;rw[this];show(if(n:Int).natAbs<4000000000 then _ else _)=_;rw[if_pos (by omega),Int.toNat_natCast]
 obtain⟨m1,d1,x1,x2,y1,y2⟩: ∃m1 d1:Int,aW (.lst [.int 7,.int 61]) (.int w)=some (.int m1)/\(0<m1/\m1<=61)/\aW (.lst [.int 3,.int 30]) (.int w)=some (.int d1)/\(0<=d1/\d1<=30/\m1-d1<=31):=by
  have:w=0\/w=1:=by omega
  rcases this with rfl|rfl
  ·exact⟨7,3,rfl,by decide,rfl,by decide⟩
  ·exact⟨61,30,rfl,by decide,rfl,by decide⟩
 obtain⟨ρ',lp,L,a3,b3,s4,⟨hL,hL2,hL3⟩,B3,rfl⟩:=lR (g:=gN 4) (b:=de (aF 3 1 iK (bb B7 (bi (ag)))))
  (P:=λi ρ=> ∃(L:bf) (a' b':Int) (s4:Sl),(L.length=i/\(∀q∈L, -(30:Int)<=q.1/\q.1<=30)/\ ∀q∈L,q.2.natAbs<=9)/\Bag (N+2+2*i) a' b'/\ρ=[.arg (aS a' b'),.v (.int k),.v (.int w),.own (L.map pD),s4]) (lD 0 n) 0 (λd hd i ρ hi hρ=>by
    obtain⟨L,a',b',s4,⟨hL,hL2,hL3⟩,B',rfl⟩:=hρ;have hi:i<n:=by simpa [lD] using hi
    obtain⟨j,hj,rfl⟩:=List.mem_map.mp (show d∈(List.range n).map λ(i:Nat)=>D.int (0+i) from hd);obtain⟨u,a4,b4,e4,B4,u0,u1⟩:=bX (j:=0) (m:=m1) (f:=ao aW (aX (ae (am (.int 7)) (ae (am (.int 61)) (ag)))) (ai 2)) (ρ:=[.arg (aS a' b'),.v (.int k),.v (.int w),.own (L.map pD),.v (.int (0+j))]) B' (by omega) rfl ((az (x:=.lst [.int 7,.int 61]) (y:=.int w) (bW rfl (by simp)) rfl).trans x1) x2.1 (by omega);obtain⟨v,a5,b5,e5,B5,v0,v1⟩:=bX (j:=0) (m:=9) (f:=am (.int 9)) (ρ:=[.arg (aS a4 b4),.v (.int k),.v (.int w),.own (L.map pD),.v (.int (0+j))]) B4 (by omega) rfl rfl (by omega) (by omega);obtain⟨s,hs,s1⟩: ∃s:Int,ao aW (aX (ae (am (.int 1)) (ae (cZ (am (.int 1))) (ag)))) (ao cO (ai 4) (am (.int 2))) [.arg (aS a4 b4),.v (.int k),.v (.int w),.own (L.map pD),.v (.int (0+j))]=some (.int s)/\(s=1\/s= -1):=by
     have l1:aX (ae (am (.int 1)) (ae (cZ (am (.int 1))) (ag))) [.arg (aS a4 b4),.v (.int k),.v (.int w),.own (L.map pD),.v (.int (0+j))]=some (.lst [.int 1,.int (-1)]):=bW rfl (by simp);have l2:ao cO (ai 4) (am (.int 2)) [.arg (aS a4 b4),.v (.int k),.v (.int w),.own (L.map pD),.v (.int (0+j))]=some (.int ((0+(j:Int)) % 2)):=(az (x:=.int (0+j)) (y:=.int 2) rfl rfl).trans (dX (by omega));have:(0+(j:Int)) % 2=0\/(0+(j:Int)) % 2=1:=by omega
     rcases this with z|z
     ·exact⟨1,(az l1 (l2.trans (by rw[z]))).trans rfl,.inl rfl⟩
     ·exact⟨-1,(az l1 (l2.trans (by rw[z]))).trans rfl,.inr rfl⟩
    have it:B7 [.arg (aS a' b'),.v (.int k),.v (.int w),.own (L.map pD),.v (.int (0+j))]=some (pD (u-d1,s*(1+v)),[.arg (aS a5 b5),.v (.int k),.v (.int w),.own (L.map pD),.v (.int (0+j))]):=
     jR (bG (cg e4 (dm ((az (x:=.lst [.int 3,.int 30]) (y:=.int w) (bW rfl (by simp)) rfl).trans y1)) (bU _ _)) (bG (cg (dm hs) (cg (x:=.int 1) (dm rfl) e5 (aU _ _)) (bR (Nat.lt_of_le_of_lt (show s.natAbs<=1 by omega) (by decide)) (Nat.lt_of_le_of_lt (show(1+v).natAbs<=9 by omega) (by decide)))) rfl)) (by simp)
    have z3:de (aF 3 1 iK (bb B7 (bi (ag)))) [.arg (aS a' b'),.v (.int k),.v (.int w),.own (L.map pD),.v (.int (0+j))]=.nx [.arg (aS a5 b5),.v (.int k),.v (.int w),.own ((L++[(u-d1,s*(1+v))]).map pD),.v (.int (0+j))]:=by
     refine(ph (b0:=L.map pD) (bs:=L.map pD) (d:=pD (u-d1,s*(1+v))) rfl (bG it rfl) rfl (by rw[List.length_map];omega)).trans ?_
     rw[List.map_append];rfl
    refine⟨_,_,rfl,z3,L++[(u-d1,s*(1+v))],a5,b5,_,⟨by rw[List.length_append,hL];rfl,λq hq=>by
     rcases List.mem_append.mp hq with hq|hq
     ·exact hL2 q hq
     ·rw[List.mem_singleton] at hq;subst hq;dsimp only;omega,λq hq=>by
     rcases List.mem_append.mp hq with hq|hq
     ·exact hL3 q hq
     ·rw[List.mem_singleton] at hq;subst hq;dsimp only;rcases s1 with rfl|rfl<;>omega⟩,B5.mono (by omega),rfl⟩) [.arg (aS a2 b2),.v (.int k),.v (.int w),.own (([]:bf).map pD),.no] ⟨[],a2,b2,_,⟨rfl,by simp,by simp⟩,B2.mono (by omega),rfl⟩
 have hu:0+(lD 0 n).length=n:=by simp[lD]
 rw[hu] at hL B3;have gs:Gs (bj L) 36:=oV (λq hq=>by have:=hL2 q hq;omega) λp=>Nat.le_trans (sk hL3 p) (by omega)
 have kt: ∀q∈bj L, -(30:Int)<=q.1/\q.1<=30:=λq hq=>by
  obtain⟨p,hp,e⟩:=oH hq;rw[<-e];exact hL2 p hp
 have lt:(bj L).length<=4:=Nat.le_trans (qW L) (by omega);have q4:(λρ=>(fG 3 (aA (nF 1 bh) (ae (ai 3) (ag)))) (ku 3 ρ)) [.arg (aS a3 b3),.v (.int k),.v (.int w),.own (L.map pD),s4]=.nx [.arg (aS a3 b3),.v (.int k),.v (.int w),.own ((bj L).map pD),s4]:=
  (gX (ρ:=[.arg (aS a3 b3),.v (.int k),.v (.int w),.v (.lst (L.map pD)),s4]) ((fx (ds:=[.lst (L.map pD)]) rfl rfl).trans (iN L λq hq=>by have:=hL2 q hq;omega))).trans rfl
 have c1:jL (bH (ao nZ (iz 3) (aX (ag)))) (bH (ao zJ (ai 1) (am (.int 0)))) [.arg (aS a3 b3),.v (.int k),.v (.int w),.own ((bj L).map pD),s4]=some (dN (.lst ((bj L).map pD)) (.lst [])&&decide (0<(k:Int))):=by
  have x1:bH (ao nZ (iz 3) (aX (ag))) [.arg (aS a3 b3),.v (.int k),.v (.int w),.own ((bj L).map pD),s4]=some (dN (.lst ((bj L).map pD)) (.lst [])):=cC ((az (x:=.lst ((bj L).map pD)) (y:=.lst []) rfl (bW rfl (by simp))).trans (kK (um _)));have x2:bH (ao zJ (ai 1) (am (.int 0))) [.arg (aS a3 b3),.v (.int k),.v (.int w),.own ((bj L).map pD),s4]=some (decide (0<(k:Int))):=cC ((az (x:=.int k) (y:=.int 0) rfl rfl).trans rfl);unfold jL;rw[x1];cases dN (.lst ((bj L).map pD)) (.lst []) with
  |true=>simpa using x2
  |false=>rfl
 have pre:fS (js 5 (aS a b) [.int k])=aJ (fI (jL (bH (ao nZ (iz 3) (aX (ag)))) (bH (ao zJ (ai 1) (am (.int 0))))) (aV (aX (ae (bZ (ae (am (.int 2)) (ae (cZ (am (.int 1))) (ag)))) (ag)))) (skip)) (vX 3) [.arg (aS a3 b3),.v (.int k),.v (.int w),.own ((bj L).map pD),s4]:=by
  unfold fS;rw[aE q1,aE q2,aE ((ic q3).trans lp)];exact aE (t:=λρ=>(fG 3 (aA (nF 1 bh) (ae (ai 3) (ag)))) (ku 3 ρ)) q4
 cases ec:(dN (.lst ((bj L).map pD)) (.lst [])&&decide (0<(k:Int))) with
 |true=>
  rw[ec] at c1;have one:Gs [((2:Int),(-1:Int))] 36:=⟨⟨by simp,by simp⟩,by simp,by simp⟩
  refine⟨[(2, -1)],a3,b3,?_,one,by simp,by simp,λ_=>by simp,B3.mono (by omega)⟩;refine pp (kd:=.n) (n:=5) (t:=fS) (ρ:=[.arg (aS a3 b3),.v (.int k),.v (.int w),.own ((bj L).map pD),s4]) ?_ rfl;rw[pre];exact oG ((kX c1).trans (cx (bW (ay (cv rfl (by simp)) rfl) (by simp))))
 |false=>
  rw[ec] at c1;refine⟨bj L,a3,b3,?_,gs,lt,kt,λh e=>?_,B3.mono (by omega)⟩
  ·refine pp (kd:=.n) (n:=5) (t:=fS) (ρ:=[.arg (aS a3 b3),.v (.int k),.v (.int w),.own ((bj L).map pD),s4]) ?_ rfl;rw[pre];exact(aE (eE c1)).trans rfl
  ·rw[e,h] at ec;cases ec
abbrev DY(S T:bf):D:=.tup [.lst (S.map pD),.lst (T.map pD)]
theorem y3 {N:Nat}{a b:Int}(B:Bag N a b)(hN:N<=1000): ∃(S T:bf) (a' b':Int),bQ (aS a b) []=some (DY S T,aS a' b')/\Gs S 81/\S≠[]/\Gs T 36/\T≠[]/\Bag (N+10) a' b':=by
 obtain⟨x,a1,b1,e1,B1,x0,x1⟩:=bX (j:=0) (m:=3) (f:=am (.int 3)) (ρ:=js 7 (aS a b) []) B (by omega) rfl rfl (by omega) (by omega);have q1:dc 1 (bu aO (pu (am (.int 1))) (aF 0 1 aq (bi (ae (am (.int 3)) (ag))))) (js 7 (aS a b) [])=.nx [.arg (aS a1 b1),.v (.int (1+x)),.no,.no,.no,.no,.no]:=(cQ (cg (x:=.int 1) (dm rfl) e1 (aU _ _))).trans rfl;have dv:40<=120 / (1+x)/\120 / (1+x)<=120/\(1+x)*(120 / (1+x))<=120:=by
  have:x=0\/x=1\/x=2:=by omega
  rcases this with rfl|rfl|rfl<;>decide
 obtain⟨y,a2,b2,e2,B2,y0,y1⟩:=bX (j:=0) (m:=120 / (1+x)) (f:=ao im (am (.int 120)) (ai 1)) (ρ:=[.arg (aS a1 b1),.v (.int (1+x)),.no,.no,.no,.no,.no]) B1 (by omega) rfl ((az (x:=.int 120) (y:=.int (1+x)) rfl rfl).trans (kF (by omega) (Nat.lt_of_le_of_lt (show(1+x).natAbs<=3 by omega) (by decide)))) (by omega) (by omega);have q2:dc 2 (bu aO (pu (am (.int 1))) (aF 0 1 aq (bi (ae (ao im (am (.int 120)) (ai 1)) (ag))))) [.arg (aS a1 b1),.v (.int (1+x)),.no,.no,.no,.no,.no]=.nx [.arg (aS a2 b2),.v (.int (1+x)),.v (.int (1+y)),.no,.no,.no,.no]:=(cQ (cg (x:=.int 1) (dm rfl) e2 (aU _ _))).trans rfl;have wd:(1+x)*(1+y)<=120:=Int.le_trans (Int.mul_le_mul_of_nonneg_left (by omega) (by omega)) dv.2.2;have wd0:1<=(1+x)*(1+y):=by
  have:=Int.mul_pos (show 0<1+x by omega) (show 0<1+y by omega);omega
 obtain⟨z,a3,b3,e3,B3,z0,z1⟩:=bX (j:=0) (m:=121- (1+x)*(1+y)) (f:=ao bD (am (.int 121)) (ao be (ai 1) (ai 2))) (ρ:=[.arg (aS a2 b2),.v (.int (1+x)),.v (.int (1+y)),.no,.no,.no,.no]) B2 (by omega) rfl ((az (x:=.int 121) (y:=.int ((1+x)*(1+y))) rfl ((az (x:=.int (1+x)) (y:=.int (1+y)) rfl rfl).trans (bR (Nat.lt_of_le_of_lt (show(1+x).natAbs<=3 by omega) (by decide)) (Nat.lt_of_le_of_lt (show(1+y).natAbs<=121 by omega) (by decide))))).trans (bU _ _)) (by omega) (by omega);have q3:dc 3 (bu bD (aF 0 1 aq (bi (ae (ao bD (am (.int 121)) (ao be (ai 1) (ai 2))) (ag)))) (pu (am (.int 60)))) [.arg (aS a2 b2),.v (.int (1+x)),.v (.int (1+y)),.no,.no,.no,.no]=.nx [.arg (aS a3 b3),.v (.int (1+x)),.v (.int (1+y)),.v (.int (z-60)),.no,.no,.no]:=(cQ (cg (y:=.int 60) e3 (dm rfl) (bU _ _))).trans rfl;obtain⟨c,a4,b4,e4,B4,c0,c1⟩:=oX (j:=0) (ρ:=[.arg (aS a3 b3),.v (.int (1+x)),.v (.int (1+y)),.v (.int (z-60)),.no,.no,.no]) B3 (by omega) rfl;have q4:dc 4 (vJ 0) [.arg (aS a3 b3),.v (.int (1+x)),.v (.int (1+y)),.v (.int (z-60)),.no,.no,.no]=.nx [.arg (aS a4 b4),.v (.int (1+x)),.v (.int (1+y)),.v (.int (z-60)),.v (.int c),.no,.no]:=(cQ e4).trans rfl;obtain⟨n,a5,b5,e5,B5,n0,n1⟩:=bX (j:=0) (m:=9) (f:=am (.int 9)) (ρ:=[.arg (aS a4 b4),.v (.int (1+x)),.v (.int (1+y)),.v (.int (z-60)),.v (.int c),.no,.no]) B4 (by omega) rfl rfl (by omega) (by omega);have q5:dc 5 (bu aO (pu (am (.int 1))) (aF 0 1 aq (bi (ae (am (.int 9)) (ag))))) [.arg (aS a4 b4),.v (.int (1+x)),.v (.int (1+y)),.v (.int (z-60)),.v (.int c),.no,.no]=.nx [.arg (aS a5 b5),.v (.int (1+x)),.v (.int (1+y)),.v (.int (z-60)),.v (.int c),.v (.int (1+n)),.no]:=(cQ (cg (x:=.int 1) (dm rfl) e5 (aU _ _))).trans rfl;obtain⟨e,a6,b6,e6,B6,m0,m1⟩:=bX (j:=0) (m:=5) (f:=am (.int 5)) (ρ:=[.arg (aS a5 b5),.v (.int (1+x)),.v (.int (1+y)),.v (.int (z-60)),.v (.int c),.v (.int (1+n)),.no]) B5 (by omega) rfl rfl (by omega) (by omega);have q6:dc 6 (bu bD (aF 0 1 aq (bi (ae (am (.int 5)) (ag)))) (pu (am (.int 2)))) [.arg (aS a5 b5),.v (.int (1+x)),.v (.int (1+y)),.v (.int (z-60)),.v (.int c),.v (.int (1+n)),.no]=.nx [.arg (aS a6 b6),.v (.int (1+x)),.v (.int (1+y)),.v (.int (z-60)),.v (.int c),.v (.int (1+n)),.v (.int (e-2))]:=(cQ (cg (y:=.int 2) e6 (dm rfl) (bU _ _))).trans rfl;have sc:c.natAbs<10^200:=Nat.lt_of_le_of_lt c1 (by decide);have sn:(1+n).natAbs<10^200:=Nat.lt_of_le_of_lt (show(1+n).natAbs<=9 by omega) (by decide);have cn:(c*(1+n)).natAbs<=81:=by rw[Int.natAbs_mul];exact Nat.le_trans (Nat.mul_le_mul c1 (show(1+n).natAbs<=9 by omega)) (by decide)
 have cn0:c*(1+n)≠0:=Int.mul_ne_zero c0 (by omega)
 let ρ:aG:=[.arg (aS a6 b6),.v (.int (1+x)),.v (.int (1+y)),.v (.int (z-60)),.v (.int c),.v (.int (1+n)),.v (.int (e-2))]
 have mm:ao be (ai 4) (ai 5) ρ=some (.int (c*(1+n))):=(az (x:=.int c) (y:=.int (1+n)) rfl rfl).trans (bR sc sn);have xy:ao be (ai 1) (ai 2) ρ=some (.int ((1+x)*(1+y))):=(az (x:=.int (1+x)) (y:=.int (1+y)) rfl rfl).trans (bR (Nat.lt_of_le_of_lt (show(1+x).natAbs<=3 by omega) (by decide)) (Nat.lt_of_le_of_lt (show(1+y).natAbs<=121 by omega) (by decide)))
 let S:bf:=[(z-60,0-c*(1+n)),(z-60+(1+x)*(1+y),c*(1+n))]
 let T:bf:=[(e-2,0-c),(e-2+(1+x),c)]
 have r1:aX (ae (bZ (ae (ai 3) (ae (ao bD (am (.int 0)) (ao be (ai 4) (ai 5))) (ag)))) (ae (bZ (ae (ao aO (ai 3) (ao be (ai 1) (ai 2))) (ae (ao be (ai 4) (ai 5)) (ag)))) (ag))) ρ=some (.lst (S.map pD)):=
  bW (ay (cv (ay rfl (ay ((az (x:=.int 0) rfl mm).trans (bU _ _)) rfl)) (by simp)) (ay (cv (ay ((az (x:=.int (z-60)) rfl xy).trans (aU _ _)) (ay mm rfl)) (by simp)) rfl)) (by simp[S])
 have r2:aX (ae (bZ (ae (ai 6) (ae (ao bD (am (.int 0)) (ai 4)) (ag)))) (ae (bZ (ae (ao aO (ai 6) (ai 1)) (ae (ai 4) (ag)))) (ag))) ρ=some (.lst (T.map pD)):=
  bW (ay (cv (ay rfl (ay ((az (x:=.int 0) (y:=.int c) rfl rfl).trans (bU _ _)) rfl)) (by simp)) (ay (cv (ay ((az (x:=.int (e-2)) (y:=.int (1+x)) rfl rfl).trans (aU _ _)) (ay rfl rfl)) (by simp)) rfl)) (by simp[T])
 have gS:Gs S 81:=by
  refine⟨⟨λq hq=>?_,List.pairwise_cons.mpr ⟨λq hq=>?_,List.pairwise_singleton _ _⟩⟩,λq hq=>?_,λq hq=>?_⟩
  ·rcases List.mem_cons.mp hq with rfl|hq
   ·dsimp only;omega
   ·rw[List.mem_singleton.mp hq];exact cn0
  ·rw[List.mem_singleton.mp hq];dsimp only;omega
  ·rcases List.mem_cons.mp hq with rfl|hq
   ·dsimp only;omega
   ·rw[List.mem_singleton.mp hq];dsimp only;omega
  ·rcases List.mem_cons.mp hq with rfl|hq
   ·dsimp only;omega
   ·rw[List.mem_singleton.mp hq];exact cn
 have gT:Gs T 36:=by
  refine⟨⟨λq hq=>?_,List.pairwise_cons.mpr ⟨λq hq=>?_,List.pairwise_singleton _ _⟩⟩,λq hq=>?_,λq hq=>?_⟩
  ·rcases List.mem_cons.mp hq with rfl|hq
   ·dsimp only;omega
   ·rw[List.mem_singleton.mp hq];exact c0
  ·rw[List.mem_singleton.mp hq];dsimp only;omega
  ·rcases List.mem_cons.mp hq with rfl|hq
   ·dsimp only;omega
   ·rw[List.mem_singleton.mp hq];dsimp only;omega
  ·rcases List.mem_cons.mp hq with rfl|hq
   ·dsimp only;omega
   ·rw[List.mem_singleton.mp hq];dsimp only;omega
 refine⟨S,T,a6,b6,?_,gS,by simp[S],gT,by simp[T],B6.mono (by omega)⟩;refine pp (kd:=.s) (n:=7) (t:=fV) (ρ:=ρ) ?_ rfl;unfold fV;rw[aE q1,aE q2,aE q3,aE q4,aE q5,aE q6];exact cx (cv (ay r1 (ay r2 rfl)) (by simp))
theorem xn {S:bf}{a:Int×Int}(h:SumI S)(h0:a.2≠0)(ha: ∀q∈S,q.1<a.1):SumI (S++[a]):=by
 refine⟨λq hq=>?_,List.pairwise_append.mpr ⟨h.2,List.pairwise_singleton _ _,λq hq b hb=>?_⟩⟩
 ·rcases List.mem_append.mp hq with w|w
  ·exact h.1 q w
  ·rw[List.mem_singleton.mp w];exact h0
 ·rw[List.mem_singleton.mp hb];exact ha q hq
theorem p8 {S:bf}(h:SumI S)(s c:Int)(c0:c≠0):SumI (S.map λq=>(q.1+s,q.2*c)):=by
 refine⟨λq hq=>?_,List.pairwise_map.mpr (h.2.imp λw=>by dsimp only;omega)⟩;obtain⟨z,hz,rfl⟩:=List.mem_map.mp hq;exact Int.mul_ne_zero (h.1 z hz) c0
abbrev lg(a b:Int)(L:bf)(p:Int)(s3 s4 s5 s6 s7:Sl):aG:=[.arg (aS a b),.own (L.map pD),.v (.int p),s3,s4,s5,s6,s7]
theorem yZ {N:Nat}{a b:Int}(B:Bag N a b)(hN:N<=1000): ∃(S T:bf) (a' b':Int),dE (aS a b) []=some (DY S T,aS a' b')/\Gs S 81/\S≠[]/\Gs T 36/\T≠[]/\Bag (N+100) a' b':=by
 obtain⟨v,a1,b1,e1,B1,v0,v1⟩:=bX (j:=0) (m:=9) (f:=am (.int 9)) (ρ:=js 8 (aS a b) []) B (by omega) rfl rfl (by omega) (by omega);have q1:vo 1 (tF (bb (je (bb (pu (am (.int 0))) (bb (bu aO (pu (am (.int 1))) (aF 0 1 aq (bi (ae (am (.int 9)) (ag))))) (bi (ag))))) (bi (ag)))) (js 8 (aS a b) [])=.nx [.arg (aS a1 b1),.own ([((0:Int),1+v)].map pD),.no,.no,.no,.no,.no,.no]:=
  (yF (yY (ds:=[pD (0,1+v)]) (bG (jR (bG (dm rfl) (bG (cg (x:=.int 1) (dm rfl) e1 (aU _ _)) rfl)) (by simp)) rfl) (by simp))).trans rfl
 have q2:bK 2 (am (.int 0)) [.arg (aS a1 b1),.own ([((0:Int),1+v)].map pD),.no,.no,.no,.no,.no,.no]=.nx (lg a1 b1 [((0:Int),1+v)] 0 .no .no .no .no .no):=rfl;obtain⟨t,a2,b2,e2,B2,t0,t1⟩:=bX (j:=0) (m:=20) (f:=am (.int 20)) (ρ:=lg a1 b1 [((0:Int),1+v)] 0 .no .no .no .no .no) B1 (by omega) rfl rfl (by omega) (by omega);obtain⟨n,hn,rfl⟩: ∃n:Nat,n<=19/\t=n:=⟨t.toNat,by omega,by omega⟩
 have q3:qK (bb (aF 0 1 aq (bi (ae (am (.int 20)) (ag)))) (bi (ag))) (lg a1 b1 [((0:Int),1+v)] 0 .no .no .no .no .no)=some (lD 0 n,lg a2 b2 [((0:Int),1+v)] 0 .no .no .no .no .no):=by
  have:bb (aF 0 1 aq (bi (ae (am (.int 20)) (ag)))) (bi (ag)) (lg a1 b1 [((0:Int),1+v)] 0 .no .no .no .no .no)=some ([.int n],lg a2 b2 [((0:Int),1+v)] 0 .no .no .no .no .no):=bG e2 rfl;unfold qK;rw[this];show(if(n:Int).natAbs<4000000000 then _ else _)=_;rw[if_pos (by omega),Int.toNat_natCast]
 obtain⟨ρ',lp,L,p,a3,b3,s3,⟨hL,hs,hp,hk,hc,hne⟩,B3,rfl⟩:=lR (g:=gN 3) (b:=aJ (dc 2 (bu aO (pu (ao aO (ai 2) (am (.int 1)))) (aF 0 1 aq (bi (ae (am (.int 3)) (ag)))))) (de (aF 1 1 iK (bb (je (bb (pu (ai 2)) (bb (vJ 0) (bi (ag))))) (bi (ag))))))
  (P:=λi ρ=> ∃(L:bf) (p a' b':Int) (s3:Sl),(L.length=i+1/\SumI L/\(0<=p/\p<=3*i)/\(∀q∈L,0<=q.1/\q.1<=p)/\(∀q∈L,q.2.natAbs<=9)/\L≠[])/\Bag (N+2+3*i) a' b'/\ρ=lg a' b' L p s3 .no .no .no .no) (lD 0 n) 0 (λd hd i ρ hi hρ=>by
    obtain⟨L,p,a',b',s3,⟨hL,hs,hp,hk,hc,hne⟩,B',rfl⟩:=hρ;have hi:i<n:=by simpa [lD] using hi
    obtain⟨u,a4,b4,e4,B4,u0,u1⟩:=bX (j:=0) (m:=3) (f:=am (.int 3)) (ρ:=lg a' b' L p (.v d) .no .no .no .no) B' (by omega) rfl rfl (by omega) (by omega);have z1:dc 2 (bu aO (pu (ao aO (ai 2) (am (.int 1)))) (aF 0 1 aq (bi (ae (am (.int 3)) (ag))))) (lg a' b' L p (.v d) .no .no .no .no)=.nx (lg a4 b4 L (p+1+u) (.v d) .no .no .no .no):=(cQ (cg (x:=.int (p+1)) (dm ((az (x:=.int p) (y:=.int 1) rfl rfl).trans (aU _ _))) e4 (aU _ _))).trans rfl;obtain⟨c,a5,b5,e5,B5,c0,c1⟩:=oX (j:=0) (ρ:=lg a4 b4 L (p+1+u) (.v d) .no .no .no .no) B4 (by omega) rfl;have z2:de (aF 1 1 iK (bb (je (bb (pu (ai 2)) (bb (vJ 0) (bi (ag))))) (bi (ag)))) (lg a4 b4 L (p+1+u) (.v d) .no .no .no .no)=.nx (lg a5 b5 (L++[(p+1+u,c)]) (p+1+u) (.v d) .no .no .no .no):=by
     refine(ph (b0:=L.map pD) (bs:=L.map pD) (d:=pD (p+1+u,c)) rfl (bG (jR (bG (dm rfl) (bG e5 rfl)) (by simp)) rfl) rfl (by rw[List.length_map];omega)).trans ?_
     show _=Out.nx [_,.own ((L++[(p+1+u,c)]).map pD),_,_,_,_,_,_];rw[List.map_append];rfl
    refine⟨_,_,rfl,(aE z1).trans z2,L++[(p+1+u,c)],p+1+u,a5,b5,_,⟨by rw[List.length_append,hL];rfl,xn hs c0 λq hq=>by have:=hk q hq;dsimp only;omega,by omega,λq hq=>by
     rcases List.mem_append.mp hq with hq|hq
     ·have:=hk q hq;omega
     ·rw[List.mem_singleton.mp hq];dsimp only;omega,λq hq=>by
     rcases List.mem_append.mp hq with hq|hq
     ·exact hc q hq
     ·rw[List.mem_singleton.mp hq];exact c1,by simp⟩,B5.mono (by omega),rfl⟩) (lg a2 b2 [((0:Int),1+v)] 0 .no .no .no .no .no) ⟨[((0:Int),1+v)],0,a2,b2,_,⟨rfl,⟨λq hq=>by rw[List.mem_singleton.mp hq];dsimp only;omega,List.pairwise_singleton _ _⟩,by omega,λq hq=>by rw[List.mem_singleton.mp hq];simp,λq hq=>by rw[List.mem_singleton.mp hq];dsimp only;omega,by simp⟩,B2.mono (by omega),rfl⟩
 have hu:0+(lD 0 n).length=n:=by simp[lD]
 rw[hu] at hL B3 hp;obtain⟨x,a4,b4,e4,B4,x0,x1⟩:=bX (j:=0) (m:=31) (f:=am (.int 31)) (ρ:=lg a3 b3 L p s3 .no .no .no .no) B3 (by omega) rfl rfl (by omega) (by omega);obtain⟨y,a5,b5,e5,B5,y0,y1⟩:=bX (j:=0) (m:=31) (f:=am (.int 31)) (ρ:=lg a4 b4 L p s3 .no .no .no .no) B4 (by omega) rfl rfl (by omega) (by omega);have q4:fq (gT 2 (cj (gN 4) (cj (gN 5) (fz)))) (je (bb (bu bD (aF 0 1 aq (bi (ae (am (.int 31)) (ag)))) (pu (am (.int 30)))) (bb (bu bD (aF 0 1 aq (bi (ae (am (.int 31)) (ag)))) (pu (am (.int 30)))) (bi (ag))))) (lg a3 b3 L p s3 .no .no .no .no)=.nx (lg a5 b5 L p s3 (.v (.int (x-30))) (.v (.int (y-30))) .no .no):=
  mj (jR (ds:=[.int (x-30),.int (y-30)]) (bG (cg (y:=.int 30) e4 (dm rfl) (bU _ _)) (bG (cg (y:=.int 30) e5 (dm rfl) (bU _ _)) rfl)) (by simp)) rfl
 obtain⟨c,a6,b6,e6,B6,c0,c1⟩:=oX (j:=0) (ρ:=lg a5 b5 L p s3 (.v (.int (x-30))) (.v (.int (y-30))) .no .no) B5 (by omega) rfl;have q5:dc 6 (vJ 0) (lg a5 b5 L p s3 (.v (.int (x-30))) (.v (.int (y-30))) .no .no)=.nx (lg a6 b6 L p s3 (.v (.int (x-30))) (.v (.int (y-30))) (.v (.int c)) .no):=(cQ e6).trans rfl
 let S:bf:=L.map λq=>(q.1+(y-30),q.2*c)
 let T:bf:=L.map λq=>(q.1+(x-30),q.2)
 have sc:c.natAbs<10^200:=Nat.lt_of_le_of_lt c1 (by decide);have q6:bK 7 (bL 2 (pg (iz 1)) (gT 2 (cj (gN 8) (cj (gN 9) (fz)))) (dP) (bZ (ae (ao aO (ai 8) (ai 5)) (ae (ao be (ai 9) (ai 6)) (ag))))) (lg a6 b6 L p s3 (.v (.int (x-30))) (.v (.int (y-30))) (.v (.int c)) .no)=.nx (lg a6 b6 L p s3 (.v (.int (x-30))) (.v (.int (y-30))) (.v (.int c)) (.v (.lst (S.map pD)))):=by
  refine(fD (d:=.lst (S.map pD)) ((fj (ds:=L.map pD) rfl (by rw[List.length_map];omega) (dO (h:=pD) (o:=λq=>pD (q.1+(y-30),q.2*c)) L λq hq=>⟨lg a6 b6 L p s3 (.v (.int (x-30))) (.v (.int (y-30))) (.v (.int c)) .no++[.v (.int q.1),.v (.int q.2)],rfl,cv (ay ((az (x:=.int q.1) (y:=.int (y-30)) rfl rfl).trans (aU _ _)) (ay ((az (x:=.int q.2) (y:=.int c) rfl rfl).trans (bR (Nat.lt_of_le_of_lt (hc q hq) (by decide)) sc)) rfl)) (by simp)⟩)).trans ?_)).trans rfl;rw[List.map_map];rfl
 let ρ:=lg a6 b6 L p s3 (.v (.int (x-30))) (.v (.int (y-30))) (.v (.int c)) (.v (.lst (S.map pD)))
 have q7:bL 2 (pg (iz 1)) (gT 2 (cj (gN 8) (cj (gN 9) (fz)))) (dP) (bZ (ae (ao aO (ai 8) (ai 4)) (ae (ai 9) (ag)))) ρ=some (.lst (T.map pD)):=by
  refine(fj (ds:=L.map pD) rfl (by rw[List.length_map];omega) (dO (h:=pD) (o:=λq=>pD (q.1+(x-30),q.2)) L λq hq=>⟨ρ++[.v (.int q.1),.v (.int q.2)],rfl,cv (ay ((az (x:=.int q.1) (y:=.int (x-30)) rfl rfl).trans (aU _ _)) (ay rfl rfl)) (by simp)⟩)).trans ?_
  rw[List.map_map];rfl
 have T1:T=L.map λq=>(q.1+(x-30),q.2*1):=List.map_congr_left λq _=>by rw[Int.mul_one]
 refine⟨S,T,a6,b6,?_,⟨p8 hs _ _ c0,λq hq=>?_,λq hq=>?_⟩,by simp[S,hne],⟨by rw[T1];exact p8 hs _ _ (by decide),λq hq=>?_,λq hq=>?_⟩,by simp[T,hne],B6.mono (by omega)⟩
 ·refine pp (kd:=.s) (n:=8) (t:=jq) (ρ:=ρ) ?_ rfl;unfold jq;rw[aE q1,aE q2,aE ((ic q3).trans lp),aE q4,aE q5,aE q6];exact cx (cv (ds:=[.lst (S.map pD),.lst (T.map pD)]) (ay rfl (ay q7 rfl)) (by simp))
 ·obtain⟨z,hz,rfl⟩:=List.mem_map.mp hq;have:=hk z hz;dsimp only;omega
 ·obtain⟨z,hz,rfl⟩:=List.mem_map.mp hq;dsimp only;rw[Int.natAbs_mul];exact Nat.le_trans (Nat.mul_le_mul (hc z hz) c1) (by decide)
 ·obtain⟨z,hz,rfl⟩:=List.mem_map.mp hq;have:=hk z hz;dsimp only;omega
 ·obtain⟨z,hz,rfl⟩:=List.mem_map.mp hq;have:=hc z hz;dsimp only;omega
theorem qL {g:FG}{b:FS}{P:aG->Prop}: ∀(l:List D),(∀d∈l,∀ρ,P ρ-> ∃ρ1 ρ2,g d ρ=some ρ1/\(b ρ1=.nx ρ2\/b ρ1=.ct ρ2)/\P ρ2)-> ∀ρ,P ρ-> ∃ρ',eN g b l ρ=.nx ρ'/\P ρ'
 | [],_,ρ,h=>⟨ρ,rfl,h⟩
 |d::l,H,ρ,h=>by
  obtain⟨ρ1,ρ2,e1,e2,h2⟩:=H d List.mem_cons_self ρ h;obtain⟨ρ',e3,h3⟩:=qL l (λx hx=>H x (List.mem_cons_of_mem _ hx)) ρ2 h2;refine⟨ρ',?_,h3⟩
  conv=>lhs;unfold eN
  rw[e1];dsimp only;rcases e2 with e2|e2<;>(rw[e2];exact e3)
theorem Bj {p:FT}{f g:GE}{ρ:aG}{b:Bool}(h:p ρ=some b):AJ p f g ρ=if b=true then f ρ else g ρ:=by
 unfold AJ;rw[h];cases b<;>rfl
theorem BV {t u:FS}{ρ ρ':aG}(h:t ρ=.ct ρ'):aJ t u ρ=.ct ρ':=by unfold aJ;rw[h]
abbrev jm(ns:List Int)(k:Nat)(a b:Int)(s3 s4 s5 s6:Sl):aG:=[.v (lG ns),.v (nI k),.own (aS a b),s3,s4,s5,s6]
theorem pw_gs {S T:bf}(hS:Gs S 36)(lS:S.length<=4)(kS: ∀q∈S, -(30:Int)<=q.1/\q.1<=30)(hT:Gs T 36)(lT:T.length<=4)(kT: ∀q∈T, -(30:Int)<=q.1/\q.1<=30):Gs (bj (gu S T)) 20736/\cL [.lst (S.map pD),.lst (T.map pD)]=some (.lst ((bj (gu S T)).map pD)):=by
 have bS:Bnd 30 36 4 S:=⟨lS,kS,hS.cf⟩
 have bT:Bnd 30 36 4 T:=⟨lT,kT,hT.cf⟩
 have bp:=bS.pw bT;refine⟨oV (λq hq=>bp.pow q hq) λp=>Nat.le_trans (sk bp.cf p) (Nat.mul_le_mul_right _ bp.len),?_⟩;exact rZ bS bT (by decide) (by decide) (by decide) (λq hq=>Nat.lt_of_le_of_lt (hS.cf q hq) (by decide)) (λq hq=>Nat.lt_of_le_of_lt (hT.cf q hq) (by decide))
theorem Be(ns:List Int)(hn:ns.length<=63):AD [lG ns]=some (.bl true):=by
 refine fX (kd:=.s) (n:=7) (t:=wF) ?_
 unfold wF;refine oi (λρ=> ∃s1 s2 s3 s4 s5 s6,ρ=[.v (lG ns),s1,s2,s3,s4,s5,s6]) (lu (ds:=(List.range 3).map nI) (dS (mS (n:=3) rfl (by omega))) (qL _ (λd hd ρ hρ=>?_) _ ⟨_,_,_,_,_,_,rfl⟩)) λρ' hρ'=>⟨ρ',cx rfl⟩
 obtain⟨k,hk,rfl⟩:=List.mem_map.mp hd;rw[List.mem_range] at hk;obtain⟨s1,s2,s3,s4,s5,s6,rfl⟩:=hρ;obtain⟨a0,b0,eb,B⟩:=BU ns k (by omega) hn;have q1:fG 2 (aA (nF 2 i9) (ae (ai 0) (ae (ai 1) (ag)))) [.v (lG ns),.v (nI k),s2,s3,s4,s5,s6]=.nx (jm ns k a0 b0 s3 s4 s5 s6):=(gX ((fx (ds:=[lG ns,nI k]) rfl rfl).trans eb)).trans rfl;obtain⟨w,a1,b1,e1,B1,w0,w1⟩:=bX (j:=2) (m:=6) (f:=am (.int 6)) (ρ:=jm ns k a0 b0 s3 s4 s5 s6) B (by omega) rfl rfl (by omega) (by omega);have q2:dc 3 (aF 2 1 aq (bi (ae (am (.int 6)) (ag)))) (jm ns k a0 b0 s3 s4 s5 s6)=.nx (jm ns k a1 b1 (.v (.int w)) s4 s5 s6):=(cQ e1).trans rfl;have t1: ∀(a b:Int) (s4 s5 s6:Sl),bH (ao zJ (ai 3) (am (.int 3))) (jm ns k a b (.v (.int w)) s4 s5 s6)=some (decide (3<w)):=λ_ _ _ _ _=>cC ((az (x:=.int w) (y:=.int 3) rfl rfl).trans rfl)
 have rt: ∀ {S T:bf} {ρ:aG} {f g:FE},Gs S 30000->Gs T 36->T≠[]->f ρ=some (.lst (S.map pD))->g ρ=some (.lst (T.map pD))->eD (eJ (aA (nF 2 bM) (ae f (ae g (ag))))) ρ=some false:=λ{S T ρ f g} hS hT hn hf hg=>
  iO (b:=true) (ke ((fx (ds:=[.lst (S.map pD),.lst (T.map pD)]) (ay hf (ay hg rfl)) rfl).trans (x5 hS hT hn)))
 by_cases h3:3<w
 ·have dr: ∃(S T:bf) (a2 b2:Int),AJ (bH (ao nZ (ai 3) (am (.int 4)))) (aF 2 0 bQ (bi (ag))) (aF 2 0 dE (bi (ag))) (jm ns k a1 b1 (.v (.int w)) s4 s5 s6)=some (DY S T,jm ns k a2 b2 (.v (.int w)) s4 s5 s6)/\Gs S 81/\S≠[]/\Gs T 36/\T≠[]:=by
   have te:bH (ao nZ (ai 3) (am (.int 4))) (jm ns k a1 b1 (.v (.int w)) s4 s5 s6)=some (decide (w=4)):=cC ((az (x:=.int w) (y:=.int 4) rfl rfl).trans (by rw[kK (by rw[db];omega),fC]));rw[Bj te]
   by_cases h4:w=4
   ·rw[decide_eq_true h4,if_pos rfl];obtain⟨S,T,a2,b2,e,g1,g2,g3,g4,_⟩:=y3 B1 (by omega);exact⟨S,T,a2,b2,(gg (i:=2) (n:=0) (ρ1:=jm ns k a1 b1 (.v (.int w)) s4 s5 s6) (b0:=aS a1 b1) (ds:=[]) rfl rfl rfl rfl e).trans rfl,g1,g2,g3,g4⟩
   ·rw[decide_eq_false h4,if_neg (by simp)];obtain⟨S,T,a2,b2,e,g1,g2,g3,g4,_⟩:=yZ B1 (by omega);exact⟨S,T,a2,b2,(gg (i:=2) (n:=0) (ρ1:=jm ns k a1 b1 (.v (.int w)) s4 s5 s6) (b0:=aS a1 b1) (ds:=[]) rfl rfl rfl rfl e).trans rfl,g1,g2,g3,g4⟩
  obtain⟨S,T,a2,b2,e2,g1,g2,g3,g4⟩:=dr;have q3:fq (gT 2 (cj (gN 4) (cj (gN 5) (fz)))) (AJ (bH (ao nZ (ai 3) (am (.int 4)))) (aF 2 0 bQ (bi (ag))) (aF 2 0 dE (bi (ag)))) (jm ns k a1 b1 (.v (.int w)) s4 s5 s6)=.nx (jm ns k a2 b2 (.v (.int w)) (.v (.lst (S.map pD))) (.v (.lst (T.map pD))) s6):=mj e2 rfl;have sl:mP (ai 4) (xW (am (.int 1))) yy (jm ns k a2 b2 (.v (.int w)) (.v (.lst (S.map pD))) (.v (.lst (T.map pD))) s6)=some (.lst ((S.drop 1).map pD)):=by
   show some (D.lst (qS (S.map pD) (some 1) none))=_;rw[Av,List.map_drop]
  have gd:Gs (S.drop 1) 81:=by
   cases S with
   |nil=>exact absurd rfl g2
   |cons z S=>exact g1.tail
  have c:=iU (rt (ρ:=jm ns k a2 b2 (.v (.int w)) (.v (.lst (S.map pD))) (.v (.lst (T.map pD))) s6) (f:=ai 4) (g:=ai 5) (g1.mono (by decide)) g3 g4 rfl rfl) (rt (ρ:=jm ns k a2 b2 (.v (.int w)) (.v (.lst (S.map pD))) (.v (.lst (T.map pD))) s6) (f:=mP (ai 4) (xW (am (.int 1))) yy) (g:=ai 5) (gd.mono (by decide)) g3 g4 sl rfl);have z:=(kX (u:=skip) ((t1 a1 b1 s4 s5 s6).trans (by rw[decide_eq_true h3]))).trans ((aE q3).trans ((aE (eE (t:=aV (am (.bl false))) c)).trans (show zf (jm ns k a2 b2 (.v (.int w)) (.v (.lst (S.map pD))) (.v (.lst (T.map pD))) s6)=.ct _ from rfl)));exact⟨_,_,rfl,.inr ((aE q1).trans ((aE q2).trans (BV z))),⟨_,_,_,_,_,_,rfl⟩⟩
 ·have i1:=eE (t:=(aJ (fq (gT 2 (cj (gN 4) (cj (gN 5) (fz)))) (AJ (bH (ao nZ (ai 3) (am (.int 4)))) (aF 2 0 bQ (bi (ag))) (aF 2 0 dE (bi (ag))))) (aJ (fI (lj (eD (eJ (aA (nF 2 bM) (ae (ai 4) (ae (ai 5) (ag)))))) (eD (eJ (aA (nF 2 bM) (ae (mP (ai 4) (xW (am (.int 1))) yy) (ae (ai 5) (ag))))))) (aV (am (.bl false))) (skip)) (zf)))) ((t1 a1 b1 s4 s5 s6).trans (by rw[decide_eq_false h3]));obtain⟨u,a2,b2,e2,B2,u0,u1⟩:=bX (j:=2) (m:=121) (f:=am (.int 121)) (ρ:=jm ns k a1 b1 (.v (.int w)) s4 s5 s6) B1 (by omega) rfl rfl (by omega) (by omega);obtain⟨c,a3,b3,e3,B3,c0,c1⟩:=oX (j:=2) (ρ:=jm ns k a2 b2 (.v (.int w)) s4 s5 s6) B2 (by omega) rfl;have q3:dc 6 (je (bb (bu bD (aF 2 1 aq (bi (ae (am (.int 121)) (ag)))) (pu (am (.int 60)))) (bb (vJ 2) (bi (ag))))) (jm ns k a1 b1 (.v (.int w)) s4 s5 s6)=.nx (jm ns k a3 b3 (.v (.int w)) s4 s5 (.v (pD (u-60,c)))):=
   (cQ (jR (ds:=[.int (u-60),.int c]) (bG (cg (y:=.int 60) e2 (dm rfl) (bU _ _)) (bG e3 rfl)) (by simp))).trans rfl
  obtain⟨T,a4,b4,e4,gT,lT,kT,nT,B4⟩:=oS (k:=1) (by omega) B3 (by omega);have q4:dc 5 (aF 2 1 cG (bi (ae (am (.int 1)) (ag)))) (jm ns k a3 b3 (.v (.int w)) s4 s5 (.v (pD (u-60,c))))=.nx (jm ns k a4 b4 (.v (.int w)) s4 (.v (.lst (T.map pD))) (.v (pD (u-60,c)))):=
   (cQ (gg (i:=2) (n:=1) (b0:=aS a3 b3) (ds:=[.int 1]) rfl (dS rfl) rfl rfl e4)).trans rfl
  obtain⟨S,a5,b5,e5,gS,lS,kS,_,B5⟩:=oS (k:=0) (by omega) B4 (by omega);obtain⟨gP,eP⟩:=pw_gs gS lS kS gT lT kT;have q5:dc 4 (kU (nF 2 cL) (bb (aF 2 1 cG (bi (ae (am (.int 0)) (ag)))) (bi (ae (ai 5) (ag))))) (jm ns k a4 b4 (.v (.int w)) s4 (.v (.lst (T.map pD))) (.v (pD (u-60,c))))=.nx (jm ns k a5 b5 (.v (.int w)) (.v (.lst ((bj (gu S T)).map pD))) (.v (.lst (T.map pD))) (.v (pD (u-60,c)))):=
   (cQ (A9 (ds:=[.lst (S.map pD),.lst (T.map pD)]) (bG (gg (i:=2) (n:=1) (b0:=aS a4 b4) (ds:=[.int 0]) rfl (dS rfl) rfl rfl e5) rfl) rfl eP)).trans rfl
  let P:=bj (gu S T)
  have lP:P.length<=121:=gP.len;have t2: ∀(a b:Int) (s4 s5 s6:Sl),bH (ao zJ (ai 3) (am (.int 1))) (jm ns k a b (.v (.int w)) s4 s5 s6)=some (decide (1<w)):=λ_ _ _ _ _=>cC ((az (x:=.int w) (y:=.int 1) rfl rfl).trans rfl)
  have t3: ∀(a b:Int) (s4 s5 s6:Sl),bH (ao nZ (ai 3) (am (.int 1))) (jm ns k a b (.v (.int w)) s4 s5 s6)=some (decide (w=1)):=λ_ _ _ _ _=>cC ((az (x:=.int w) (y:=.int 1) rfl rfl).trans (by rw[kK (by rw[db];omega),fC]))
  obtain⟨O,gO,q6⟩: ∃O:bf,Gs O 30000/\fI (bH (ao zJ (ai 3) (am (.int 1)))) (bK 4 (aA (nF 1 bh) (ae (ao ip (ai 4) (aX (ae (ai 6) (ag)))) (ag)))) (skip) (jm ns k a5 b5 (.v (.int w)) (.v (.lst (P.map pD))) (.v (.lst (T.map pD))) (.v (pD (u-60,c))))=.nx (jm ns k a5 b5 (.v (.int w)) (.v (.lst (O.map pD))) (.v (.lst (T.map pD))) (.v (pD (u-60,c)))):=by
   by_cases h1:1<w
   ·have kO: ∀q∈P++[(u-60,c)], -(60:Int)<=q.1/\q.1<=60:=λq hq=>by
     rcases List.mem_append.mp hq with hq|hq
     ·exact gP.ky q hq
     ·rw[List.mem_singleton.mp hq];dsimp only;omega
    refine⟨bj (P++[(u-60,c)]),oV kO λp=>?_,(kX ((t2 _ _ _ _ _).trans (by rw[decide_eq_true h1]))).trans ((fD ((fx (ds:=[.lst ((P++[(u-60,c)]).map pD)]) (ay ?_ rfl) rfl).trans (iN _ λq hq=>by have:=kO q hq;omega))).trans rfl)⟩
    ·rw[tu,er,kA];have h1:=nR gP.sm gP.cf p;have h2:((if(u-60,c).1=p then(u-60,c).2 else 0)+0:Int).natAbs<=9:=by
      show((if u-60=p then c else 0)+0:Int).natAbs<=9;split<;>omega
     show(sg P p+_).natAbs<=_;have h1:(sg P p).natAbs<=20736:=h1;omega
    ·refine(az (x:=.lst (P.map pD)) (y:=.lst ([(u-60,c)].map pD)) rfl (bW rfl (by simp))).trans ?_
     rw[List.map_append];show(if _ then _ else _)=_;rw[if_pos (pT (by rw[List.length_map,List.length_map];simp;omega))]
   ·exact⟨P,gP.mono (by decide),eE ((t2 _ _ _ _ _).trans (by rw[decide_eq_false h1]))⟩
  obtain⟨M,a6,b6,gM,nM,q7⟩: ∃(M:bf) (a6 b6:Int),Gs M 36/\M≠[]/\fI (bH (ao nZ (ai 3) (am (.int 1)))) (dc 5 (aF 2 1 cG (bi (ae (am (.int 1)) (ag))))) (skip) (jm ns k a5 b5 (.v (.int w)) (.v (.lst (O.map pD))) (.v (.lst (T.map pD))) (.v (pD (u-60,c))))=.nx (jm ns k a6 b6 (.v (.int w)) (.v (.lst (O.map pD))) (.v (.lst (M.map pD))) (.v (pD (u-60,c)))):=by
   by_cases h1:w=1
   ·obtain⟨M,a6,b6,e6,gM,_,_,nM,_⟩:=oS (k:=1) (by omega) B5 (by omega);exact⟨M,a6,b6,gM,nM rfl,(kX ((t3 _ _ _ _ _).trans (by rw[decide_eq_true h1]))).trans ((cQ (gg (i:=2) (n:=1) (b0:=aS a5 b5) (ds:=[.int 1]) rfl (dS rfl) rfl rfl e6)).trans rfl)⟩
   ·exact⟨T,a5,b5,gT,nT rfl,eE ((t3 _ _ _ _ _).trans (by rw[decide_eq_false h1]))⟩
  have c9:=iU (rt (ρ:=jm ns k a6 b6 (.v (.int w)) (.v (.lst (O.map pD))) (.v (.lst (M.map pD))) (.v (pD (u-60,c)))) (f:=ai 4) (g:=ai 5) gO gM nM rfl rfl) (rt (ρ:=jm ns k a6 b6 (.v (.int w)) (.v (.lst (O.map pD))) (.v (.lst (M.map pD))) (.v (pD (u-60,c)))) (f:=aX (ag)) (g:=ai 5) (Gs.nil 30000) gM nM (bW rfl (by simp)) rfl);exact⟨_,_,rfl,.inl ((aE q1).trans ((aE q2).trans ((aE i1).trans ((aE q3).trans ((aE q4).trans ((aE q5).trans ((aE q6).trans ((aE q7).trans (eE c9))))))))),⟨_,_,_,_,_,_,rfl⟩⟩
set_option maxHeartbeats 4000000
theorem all_mk {l:W.OpenLaw}{w:World}{K:W.Frag}{h:Heap}{mg:Str->Option Value}{fa:Addr}{f0:Addr}{od0 an0:Option Addr}{sl0:Array (Option Value)}{oc0 kV0 dc0 pm0 cd0 ct0:Value}{f1:Addr}{od1 an1:Option Addr}{sl1:Array (Option Value)}{oc1 kV1 dc1 pm1 cd1 ct1:Value}{f2:Addr}{od2 an2:Option Addr}{sl2:Array (Option Value)}{oc2 kV2 dc2 pm2 cd2 ct2:Value}{f3:Addr}{od3 an3:Option Addr}{sl3:Array (Option Value)}{oc3 kV3 dc3 pm3 cd3 ct3:Value}{f4:Addr}{od4 an4:Option Addr}{sl4:Array (Option Value)}{oc4 kV4 dc4 pm4 cd4 ct4:Value}{f5:Addr}{od5 an5:Option Addr}{sl5:Array (Option Value)}{oc5 kV5 dc5 pm5 cd5 ct5:Value}{f6:Addr}{od6 an6:Option Addr}{sl6:Array (Option Value)}{oc6 kV6 dc6 pm6 cd6 ct6:Value}{f7:Addr}{od7 an7:Option Addr}{sl7:Array (Option Value)}{oc7 kV7 dc7 pm7 cd7 ct7:Value}{f8:Addr}{od8 an8:Option Addr}{sl8:Array (Option Value)}{oc8 kV8 dc8 pm8 cd8 ct8:Value}{f9:Addr}{od9 an9:Option Addr}{sl9:Array (Option Value)}{oc9 kV9 dc9 pm9 cd9 ct9:Value}{f10:Addr}{od10 an10:Option Addr}{sl10:Array (Option Value)}{oc10 kV10 dc10 pm10 cd10 ct10:Value}{f11:Addr}{od11 an11:Option Addr}{sl11:Array (Option Value)}{oc11 kV11 dc11 pm11 cd11 ct11:Value}{f12:Addr}{od12 an12:Option Addr}{sl12:Array (Option Value)}{oc12 kV12 dc12 pm12 cd12 ct12:Value}{f13:Addr}{od13 an13:Option Addr}{sl13:Array (Option Value)}{oc13 kV13 dc13 pm13 cd13 ct13:Value}{f14:Addr}{od14 an14:Option Addr}{sl14:Array (Option Value)}{oc14 kV14 dc14 pm14 cd14 ct14:Value}{f15:Addr}{od15 an15:Option Addr}{sl15:Array (Option Value)}{oc15 kV15 dc15 pm15 cd15 ct15:Value}{f16:Addr}{od16 an16:Option Addr}{sl16:Array (Option Value)}{oc16 kV16 dc16 pm16 cd16 ct16:Value}{f17:Addr}{od17 an17:Option Addr}{sl17:Array (Option Value)}{oc17 kV17 dc17 pm17 cd17 ct17:Value}{f18:Addr}{od18 an18:Option Addr}{sl18:Array (Option Value)}{oc18 kV18 dc18 pm18 cd18 ct18:Value}{kx0 kx1 kx2 kx3 kx4 kx5 kx6 kx7 kx8 kx9:Addr}{xn0 xq0:Str}{xb0 xu0:List Value}{xs0:Addr}{xd0 xl0 xe0:Bool}{xv0:List Str}{xc0:Option Bool}{xn1 xq1:Str}{xb1 xu1:List Value}{xs1:Addr}{xd1 xl1 xe1:Bool}{xv1:List Str}{xc1:Option Bool}{xn2 xq2:Str}{xb2 xu2:List Value}{xs2:Addr}{xd2 xl2 xe2:Bool}{xv2:List Str}{xc2:Option Bool}{xn3 xq3:Str}{xb3 xu3:List Value}{xs3:Addr}{xd3 xl3 xe3:Bool}{xv3:List Str}{xc3:Option Bool}{xn4 xq4:Str}{xb4 xu4:List Value}{xs4:Addr}{xd4 xl4 xe4:Bool}{xv4:List Str}{xc4:Option Bool}{xn5 xq5:Str}{xb5 xu5:List Value}{xs5:Addr}{xd5 xl5 xe5:Bool}{xv5:List Str}{xc5:Option Bool}{xn6 xq6:Str}{xb6 xu6:List Value}{xs6:Addr}{xd6 xl6 xe6:Bool}{xv6:List Str}{xc6:Option Bool}{xn7 xq7:Str}{xb7 xu7:List Value}{xs7:Addr}{xd7 xl7 xe7:Bool}{xv7:List Str}{xc7:Option Bool}{xn8 xq8:Str}{xb8 xu8:List Value}{xs8:Addr}{xd8 xl8 xe8:Bool}{xv8:List Str}{xc8:Option Bool}{xn9 xq9:Str}{xb9 xu9:List Value}{xs9:Addr}{xd9 xl9 xe9:Bool}{xv9:List Str}{xc9:Option Bool}(X:K.In h)(G:h.Ns mainGlobals mg)(hfa:mg "law"=some (.ref fa))
 (a0:W.nsIn K mainGlobals "tidy"=some (some (.ref f0))) (l0:K.lookup f0=some ⟨oc0,od0,.func (W.fnOf "tidy" "tidy" (bd jx) (aR jx) (au jx) .none kV0 dc0 pm0 an0 cd0 ct0),sl0⟩) (c0:W.codeIn K cd0 "tidy"=true) (k0:W.keepIn K (.ref f0)=true)
 (a1:W.nsIn K mainGlobals "minus"=some (some (.ref f1))) (l1:K.lookup f1=some ⟨oc1,od1,.func (W.fnOf "minus" "minus" (bd ii) (aR ii) (au ii) .none kV1 dc1 pm1 an1 cd1 ct1),sl1⟩) (c1:W.codeIn K cd1 "minus"=true) (k1:W.keepIn K (.ref f1)=true)
 (a2:W.nsIn K mainGlobals "times"=some (some (.ref f2))) (l2:K.lookup f2=some ⟨oc2,od2,.func (W.fnOf "times" "times" (bd g8) (aR g8) (au g8) .none kV2 dc2 pm2 an2 cd2 ct2),sl2⟩) (c2:W.codeIn K cd2 "times"=true) (k2:W.keepIn K (.ref f2)=true)
 (a3:W.nsIn K mainGlobals "parted"=some (some (.ref f3))) (l3:K.lookup f3=some ⟨oc3,od3,.func (W.fnOf "parted" "parted" (bd fY) (aR fY) (au fY) .none kV3 dc3 pm3 an3 cd3 ct3),sl3⟩) (c3:W.codeIn K cd3 "parted"=true) (k3:W.keepIn K (.ref f3)=true)
 (a4:W.nsIn K mainGlobals "_law_cell"=some (some (.ref f4))) (l4:K.lookup f4=some ⟨oc4,od4,.func (W.fnOf "_law_cell" "_law_cell" (bd dC) (aR dC) (au dC) .none kV4 dc4 pm4 an4 cd4 ct4),sl4⟩) (c4:W.codeIn K cd4 "_law_cell"=true) (k4:W.keepIn K (.ref f4)=true)
 (a5:W.nsIn K mainGlobals "_law_bag"=some (some (.ref f5))) (l5:K.lookup f5=some ⟨oc5,od5,.func (W.fnOf "_law_bag" "_law_bag" (bd eM) (aR eM) (au eM) .none kV5 dc5 pm5 an5 cd5 ct5),sl5⟩) (c5:W.codeIn K cd5 "_law_bag"=true) (k5:W.keepIn K (.ref f5)=true)
 (a6:W.nsIn K mainGlobals "_law_take"=some (some (.ref f6))) (l6:K.lookup f6=some ⟨oc6,od6,.func (W.fnOf "_law_take" "_law_take" (bd dD) (aR dD) (au dD) .none kV6 dc6 pm6 an6 cd6 ct6),sl6⟩) (c6:W.codeIn K cd6 "_law_take"=true) (k6:W.keepIn K (.ref f6)=true)
 (a7:W.nsIn K mainGlobals "_law_whole"=some (some (.ref f7))) (l7:K.lookup f7=some ⟨oc7,od7,.func (W.fnOf "_law_whole" "_law_whole" (bd cT) (aR cT) (au cT) .none kV7 dc7 pm7 an7 cd7 ct7),sl7⟩) (c7:W.codeIn K cd7 "_law_whole"=true) (k7:W.keepIn K (.ref f7)=true)
 (a8:W.nsIn K mainGlobals "_law_is_sum"=some (some (.ref f8))) (l8:K.lookup f8=some ⟨oc8,od8,.func (W.fnOf "_law_is_sum" "_law_is_sum" (bd cH) (aR cH) (au cH) .none kV8 dc8 pm8 an8 cd8 ct8),sl8⟩) (c8:W.codeIn K cd8 "_law_is_sum"=true) (k8:W.keepIn K (.ref f8)=true)
 (a9:W.nsIn K mainGlobals "_law_summed"=some (some (.ref f9))) (l9:K.lookup f9=some ⟨oc9,od9,.func (W.fnOf "_law_summed" "_law_summed" (bd cE) (aR cE) (au cE) .none kV9 dc9 pm9 an9 cd9 ct9),sl9⟩) (c9:W.codeIn K cd9 "_law_summed"=true) (k9:W.keepIn K (.ref f9)=true)
 (a10:W.nsIn K mainGlobals "_law_product"=some (some (.ref f10))) (l10:K.lookup f10=some ⟨oc10,od10,.func (W.fnOf "_law_product" "_law_product" (bd ck) (aR ck) (au ck) .none kV10 dc10 pm10 an10 cd10 ct10),sl10⟩) (c10:W.codeIn K cd10 "_law_product"=true) (k10:W.keepIn K (.ref f10)=true)
 (a11:W.nsIn K mainGlobals "_law_kind"=some (some (.ref f11))) (l11:K.lookup f11=some ⟨oc11,od11,.func (W.fnOf "_law_kind" "_law_kind" (bd dJ) (aR dJ) (au dJ) .none kV11 dc11 pm11 an11 cd11 ct11),sl11⟩) (c11:W.codeIn K cd11 "_law_kind"=true) (k11:W.keepIn K (.ref f11)=true)
 (a12:W.nsIn K mainGlobals "_law_some"=some (some (.ref f12))) (l12:K.lookup f12=some ⟨oc12,od12,.func (W.fnOf "_law_some" "_law_some" (bd dL) (aR dL) (au dL) .none kV12 dc12 pm12 an12 cd12 ct12),sl12⟩) (c12:W.codeIn K cd12 "_law_some"=true) (k12:W.keepIn K (.ref f12)=true)
 (a13:W.nsIn K mainGlobals "_law_upward"=some (some (.ref f13))) (l13:K.lookup f13=some ⟨oc13,od13,.func (W.fnOf "_law_upward" "_law_upward" (bd cI) (aR cI) (au cI) .none kV13 dc13 pm13 an13 cd13 ct13),sl13⟩) (c13:W.codeIn K cd13 "_law_upward"=true) (k13:W.keepIn K (.ref f13)=true)
 (a14:W.nsIn K mainGlobals "_law_said"=some (some (.ref f14))) (l14:K.lookup f14=some ⟨oc14,od14,.func (W.fnOf "_law_said" "_law_said" (bd cU) (aR cU) (au cU) .none kV14 dc14 pm14 an14 cd14 ct14),sl14⟩) (c14:W.codeIn K cd14 "_law_said"=true) (k14:W.keepIn K (.ref f14)=true)
 (a15:W.nsIn K mainGlobals "_law_right"=some (some (.ref f15))) (l15:K.lookup f15=some ⟨oc15,od15,.func (W.fnOf "_law_right" "_law_right" (bd cV) (aR cV) (au cV) .none kV15 dc15 pm15 an15 cd15 ct15),sl15⟩) (c15:W.codeIn K cd15 "_law_right"=true) (k15:W.keepIn K (.ref f15)=true)
 (a16:W.nsIn K mainGlobals "_law_long_row"=some (some (.ref f16))) (l16:K.lookup f16=some ⟨oc16,od16,.func (W.fnOf "_law_long_row" "_law_long_row" (bd bP) (aR bP) (au bP) .none kV16 dc16 pm16 an16 cd16 ct16),sl16⟩) (c16:W.codeIn K cd16 "_law_long_row"=true) (k16:W.keepIn K (.ref f16)=true)
 (a17:W.nsIn K mainGlobals "_law_many"=some (some (.ref f17))) (l17:K.lookup f17=some ⟨oc17,od17,.func (W.fnOf "_law_many" "_law_many" (bd dG) (aR dG) (au dG) .none kV17 dc17 pm17 an17 cd17 ct17),sl17⟩) (c17:W.codeIn K cd17 "_law_many"=true) (k17:W.keepIn K (.ref f17)=true)
 (a18:W.nsIn K mainGlobals "law"=some (some (.ref f18))) (l18:K.lookup f18=some ⟨oc18,od18,.func (W.fnOf "law" "law" (bd jh) (aR jh) (au jh) .none kV18 dc18 pm18 an18 cd18 ct18),sl18⟩) (c18:W.codeIn K cd18 "law"=true) (k18:W.keepIn K (.ref f18)=true)
 (z_ValueError:W.nsIn K mainGlobals "ValueError"=some none)
 (z_abs:W.nsIn K mainGlobals "abs"=some none)
 (z_all:W.nsIn K mainGlobals "all"=some none)
 (z_any:W.nsIn K mainGlobals "any"=some none)
 (z_bool:W.nsIn K mainGlobals "bool"=some none)
 (z_dict:W.nsIn K mainGlobals "dict"=some none)
 (z_int:W.nsIn K mainGlobals "int"=some none)
 (z_isinstance:W.nsIn K mainGlobals "isinstance"=some none)
 (z_len:W.nsIn K mainGlobals "len"=some none)
 (z_list:W.nsIn K mainGlobals "list"=some none)
 (z_min:W.nsIn K mainGlobals "min"=some none)
 (z_range:W.nsIn K mainGlobals "range"=some none)
 (z_sorted:W.nsIn K mainGlobals "sorted"=some none)
 (z_tuple:W.nsIn K mainGlobals "tuple"=some none)
 (z_zip:W.nsIn K mainGlobals "zip"=some none)
 (ya0:W.nsIn K mainGlobals "RookError"=some (some (.ref kx0)))
 (yb0:W.findIn K (.ref kx0) "__getattribute__"=some (some (.builtin "BaseException.__getattribute__")))
 (yc0:W.findIn K (.ref kx0) "__getattr__"=some none)
 (yd0:W.findIn K (.ref kx0) "__class__"=some (some (.builtin "object.__class__")))
 (yg0:W.mroIn K kx0 (.type "object")=some true)
 (yh0:W.mroIn K kx0 (.type "BaseException")=some true)
 (yt0:W.typeIn K (.ref kx0)=some (.type "type"))
 (ym0:W.clsIn K kx0=some ⟨xn0,xb0,.ref kx0::pN,xs0,xq0,xd0,xv0,xu0,xl0,xc0,xe0⟩)
 (ya1:W.nsIn K mainGlobals "NoSquare"=some (some (.ref kx1)))
 (yb1:W.findIn K (.ref kx1) "__getattribute__"=some (some (.builtin "BaseException.__getattribute__")))
 (yc1:W.findIn K (.ref kx1) "__getattr__"=some none)
 (yd1:W.findIn K (.ref kx1) "__class__"=some (some (.builtin "object.__class__")))
 (yg1:W.mroIn K kx1 (.type "object")=some true)
 (yh1:W.mroIn K kx1 (.type "BaseException")=some true)
 (yt1:W.typeIn K (.ref kx1)=some (.type "type"))
 (ym1:W.clsIn K kx1=some ⟨xn1,xb1,.ref kx1:: .ref kx0::pN,xs1,xq1,xd1,xv1,xu1,xl1,xc1,xe1⟩)
 (ya2:W.nsIn K mainGlobals "NoMove"=some (some (.ref kx2)))
 (yb2:W.findIn K (.ref kx2) "__getattribute__"=some (some (.builtin "BaseException.__getattribute__")))
 (yc2:W.findIn K (.ref kx2) "__getattr__"=some none)
 (yd2:W.findIn K (.ref kx2) "__class__"=some (some (.builtin "object.__class__")))
 (yg2:W.mroIn K kx2 (.type "object")=some true)
 (yh2:W.mroIn K kx2 (.type "BaseException")=some true)
 (yt2:W.typeIn K (.ref kx2)=some (.type "type"))
 (ym2:W.clsIn K kx2=some ⟨xn2,xb2,.ref kx2:: .ref kx0::pN,xs2,xq2,xd2,xv2,xu2,xl2,xc2,xe2⟩)
 (ya3:W.nsIn K mainGlobals "TooMany"=some (some (.ref kx3)))
 (yb3:W.findIn K (.ref kx3) "__getattribute__"=some (some (.builtin "BaseException.__getattribute__")))
 (yc3:W.findIn K (.ref kx3) "__getattr__"=some none)
 (yd3:W.findIn K (.ref kx3) "__class__"=some (some (.builtin "object.__class__")))
 (yg3:W.mroIn K kx3 (.type "object")=some true)
 (yh3:W.mroIn K kx3 (.type "BaseException")=some true)
 (yt3:W.typeIn K (.ref kx3)=some (.type "type"))
 (ym3:W.clsIn K kx3=some ⟨xn3,xb3,.ref kx3:: .ref kx0::pN,xs3,xq3,xd3,xv3,xu3,xl3,xc3,xe3⟩)
 (ya4:W.nsIn K mainGlobals "NoPart"=some (some (.ref kx4)))
 (yb4:W.findIn K (.ref kx4) "__getattribute__"=some (some (.builtin "BaseException.__getattribute__")))
 (yc4:W.findIn K (.ref kx4) "__getattr__"=some none)
 (yd4:W.findIn K (.ref kx4) "__class__"=some (some (.builtin "object.__class__")))
 (yg4:W.mroIn K kx4 (.type "object")=some true)
 (yh4:W.mroIn K kx4 (.type "BaseException")=some true)
 (yt4:W.typeIn K (.ref kx4)=some (.type "type"))
 (ym4:W.clsIn K kx4=some ⟨xn4,xb4,.ref kx4:: .ref kx0::pN,xs4,xq4,xd4,xv4,xu4,xl4,xc4,xe4⟩)
 (ya5:W.nsIn K mainGlobals "NotOne"=some (some (.ref kx5)))
 (yb5:W.findIn K (.ref kx5) "__getattribute__"=some (some (.builtin "BaseException.__getattribute__")))
 (yc5:W.findIn K (.ref kx5) "__getattr__"=some none)
 (yd5:W.findIn K (.ref kx5) "__class__"=some (some (.builtin "object.__class__")))
 (yg5:W.mroIn K kx5 (.type "object")=some true)
 (yh5:W.mroIn K kx5 (.type "BaseException")=some true)
 (yt5:W.typeIn K (.ref kx5)=some (.type "type"))
 (ym5:W.clsIn K kx5=some ⟨xn5,xb5,.ref kx5:: .ref kx0::pN,xs5,xq5,xd5,xv5,xu5,xl5,xc5,xe5⟩)
 (ya6:W.nsIn K mainGlobals "NoPaper"=some (some (.ref kx6)))
 (yb6:W.findIn K (.ref kx6) "__getattribute__"=some (some (.builtin "BaseException.__getattribute__")))
 (yc6:W.findIn K (.ref kx6) "__getattr__"=some none)
 (yd6:W.findIn K (.ref kx6) "__class__"=some (some (.builtin "object.__class__")))
 (yg6:W.mroIn K kx6 (.type "object")=some true)
 (yh6:W.mroIn K kx6 (.type "BaseException")=some true)
 (yt6:W.typeIn K (.ref kx6)=some (.type "type"))
 (ym6:W.clsIn K kx6=some ⟨xn6,xb6,.ref kx6:: .ref kx0::pN,xs6,xq6,xd6,xv6,xu6,xl6,xc6,xe6⟩)
 (ya7:W.nsIn K mainGlobals "NoText"=some (some (.ref kx7)))
 (yb7:W.findIn K (.ref kx7) "__getattribute__"=some (some (.builtin "BaseException.__getattribute__")))
 (yc7:W.findIn K (.ref kx7) "__getattr__"=some none)
 (yd7:W.findIn K (.ref kx7) "__class__"=some (some (.builtin "object.__class__")))
 (yg7:W.mroIn K kx7 (.type "object")=some true)
 (yh7:W.mroIn K kx7 (.type "BaseException")=some true)
 (yt7:W.typeIn K (.ref kx7)=some (.type "type"))
 (ym7:W.clsIn K kx7=some ⟨xn7,xb7,.ref kx7:: .ref kx0::pN,xs7,xq7,xd7,xv7,xu7,xl7,xc7,xe7⟩)
 (ya8:W.nsIn K mainGlobals "NoRow"=some (some (.ref kx8)))
 (yb8:W.findIn K (.ref kx8) "__getattribute__"=some (some (.builtin "BaseException.__getattribute__")))
 (yc8:W.findIn K (.ref kx8) "__getattr__"=some none)
 (yd8:W.findIn K (.ref kx8) "__class__"=some (some (.builtin "object.__class__")))
 (yg8:W.mroIn K kx8 (.type "object")=some true)
 (yh8:W.mroIn K kx8 (.type "BaseException")=some true)
 (yt8:W.typeIn K (.ref kx8)=some (.type "type"))
 (ym8:W.clsIn K kx8=some ⟨xn8,xb8,.ref kx8:: .ref kx0::pN,xs8,xq8,xd8,xv8,xu8,xl8,xc8,xe8⟩)
 (ya9:W.nsIn K mainGlobals "NoStep"=some (some (.ref kx9)))
 (yb9:W.findIn K (.ref kx9) "__getattribute__"=some (some (.builtin "BaseException.__getattribute__")))
 (yc9:W.findIn K (.ref kx9) "__getattr__"=some none)
 (yd9:W.findIn K (.ref kx9) "__class__"=some (some (.builtin "object.__class__")))
 (yg9:W.mroIn K kx9 (.type "object")=some true)
 (yh9:W.mroIn K kx9 (.type "BaseException")=some true)
 (yt9:W.typeIn K (.ref kx9)=some (.type "type"))
 (ym9:W.clsIn K kx9=some ⟨xn9,xb9,.ref kx9:: .ref kx0::pN,xs9,xq9,xd9,xv9,xu9,xl9,xc9,xe9⟩)
 (ye:W.specialIn K (.builtin "object.__class__") "__get__"=some (some (.builtin "getset_descriptor.__get__")))
 (yf:W.takesIn K (.builtin "object.__class__")=some true)
 (yo_NoPart:W.excIn K kx4 pN "ValueError.__new__"=true)
 (yn:[kx0,kx1,kx2,kx3,kx4,kx5,kx6,kx7,kx8,kx9].Nodup):
 ∃fd:FuncData,(∀(s:Shared) (v:Value),BindsTo s fd ⟨[v],[]⟩ [("_law_script",v)])/\ ∀base:Heap,K.In base->base.Ns mainGlobals mg->FnOk l.prog w K mg base nU 6 fa fd ["_law_script"] (tT K):=by
 have e:=hfa.symm.trans (W.mg_of X G a18);cases e;have F0:=cF (st:=jx) l0 c0 k0;have b0:=F0.binds (ps:=["tuples"]) λ_ _ _ _ _ _ us hl=>ar1 us hl (λ_=>rfl)
 have d0:Df K mg "tidy" jx ["tuples"]:=⟨_,_,F0,W.mg_of X G a0,b0⟩
 have F1:=cF (st:=ii) l1 c1 k1;have b1:=F1.binds (ps:=["one","other"]) λ_ _ _ _ _ _ us hl=>ar2 us hl (λ_ _=>rfl)
 have d1:Df K mg "minus" ii ["one","other"]:=⟨_,_,F1,W.mg_of X G a1,b1⟩
 have F2:=cF (st:=g8) l2 c2 k2;have b2:=F2.binds (ps:=["one","other"]) λ_ _ _ _ _ _ us hl=>ar2 us hl (λ_ _=>rfl)
 have d2:Df K mg "times" g8 ["one","other"]:=⟨_,_,F2,W.mg_of X G a2,b2⟩
 have F3:=cF (st:=fY) l3 c3 k3;have b3:=F3.binds (ps:=["one","other"]) λ_ _ _ _ _ _ us hl=>ar2 us hl (λ_ _=>rfl)
 have d3:Df K mg "parted" fY ["one","other"]:=⟨_,_,F3,W.mg_of X G a3,b3⟩
 have F4:=cF (st:=dC) l4 c4 k4;have b4:=F4.binds (ps:=["_law_script","_law_k"]) λ_ _ _ _ _ _ us hl=>ar2 us hl (λ_ _=>rfl)
 have d4:Df K mg "_law_cell" dC ["_law_script","_law_k"]:=⟨_,_,F4,W.mg_of X G a4,b4⟩
 have F5:=cF (st:=eM) l5 c5 k5;have b5:=F5.binds (ps:=["_law_script","_law_at"]) λ_ _ _ _ _ _ us hl=>ar2 us hl (λ_ _=>rfl)
 have d5:Df K mg "_law_bag" eM ["_law_script","_law_at"]:=⟨_,_,F5,W.mg_of X G a5,b5⟩
 have F6:=cF (st:=dD) l6 c6 k6;have b6:=F6.binds (ps:=["_law_bag_here","_law_many_here"]) λ_ _ _ _ _ _ us hl=>ar2 us hl (λ_ _=>rfl)
 have d6:Df K mg "_law_take" dD ["_law_bag_here","_law_many_here"]:=⟨_,_,F6,W.mg_of X G a6,b6⟩
 have F7:=cF (st:=cT) l7 c7 k7;have b7:=F7.binds (ps:=["_law_thing"]) λ_ _ _ _ _ _ us hl=>ar1 us hl (λ_=>rfl)
 have d7:Df K mg "_law_whole" cT ["_law_thing"]:=⟨_,_,F7,W.mg_of X G a7,b7⟩
 have F8:=cF (st:=cH) l8 c8 k8;have b8:=F8.binds (ps:=["_law_found"]) λ_ _ _ _ _ _ us hl=>ar1 us hl (λ_=>rfl)
 have d8:Df K mg "_law_is_sum" cH ["_law_found"]:=⟨_,_,F8,W.mg_of X G a8,b8⟩
 have F9:=cF (st:=cE) l9 c9 k9;have b9:=F9.binds (ps:=["_law_tuples"]) λ_ _ _ _ _ _ us hl=>ar1 us hl (λ_=>rfl)
 have d9:Df K mg "_law_summed" cE ["_law_tuples"]:=⟨_,_,F9,W.mg_of X G a9,b9⟩
 have F10:=cF (st:=ck) l10 c10 k10;have b10:=F10.binds (ps:=["_law_one","_law_other"]) λ_ _ _ _ _ _ us hl=>ar2 us hl (λ_ _=>rfl)
 have d10:Df K mg "_law_product" ck ["_law_one","_law_other"]:=⟨_,_,F10,W.mg_of X G a10,b10⟩
 have F11:=cF (st:=dJ) l11 c11 k11;have b11:=F11.binds (ps:=["_law_e"]) λ_ _ _ _ _ _ us hl=>ar1 us hl (λ_=>rfl)
 have d11:Df K mg "_law_kind" dJ ["_law_e"]:=⟨_,_,F11,W.mg_of X G a11,b11⟩
 have F12:=cF (st:=dL) l12 c12 k12;have b12:=F12.binds (ps:=["_law_bag_here","_law_least"]) λ_ _ _ _ _ _ us hl=>ar2 us hl (λ_ _=>rfl)
 have d12:Df K mg "_law_some" dL ["_law_bag_here","_law_least"]:=⟨_,_,F12,W.mg_of X G a12,b12⟩
 have F13:=cF (st:=cI) l13 c13 k13;have b13:=F13.binds (ps:=["_law_one","_law_other"]) λ_ _ _ _ _ _ us hl=>ar2 us hl (λ_ _=>rfl)
 have d13:Df K mg "_law_upward" cI ["_law_one","_law_other"]:=⟨_,_,F13,W.mg_of X G a13,b13⟩
 have F14:=cF (st:=cU) l14 c14 k14;have b14:=F14.binds (ps:=["_law_one","_law_other"]) λ_ _ _ _ _ _ us hl=>ar2 us hl (λ_ _=>rfl)
 have d14:Df K mg "_law_said" cU ["_law_one","_law_other"]:=⟨_,_,F14,W.mg_of X G a14,b14⟩
 have F15:=cF (st:=cV) l15 c15 k15;have b15:=F15.binds (ps:=["_law_one","_law_other"]) λ_ _ _ _ _ _ us hl=>ar2 us hl (λ_ _=>rfl)
 have d15:Df K mg "_law_right" cV ["_law_one","_law_other"]:=⟨_,_,F15,W.mg_of X G a15,b15⟩
 have F16:=cF (st:=bP) l16 c16 k16;have b16:=F16.binds (ps:=["_law_bag_here"]) λ_ _ _ _ _ _ us hl=>ar1 us hl (λ_=>rfl)
 have d16:Df K mg "_law_long_row" bP ["_law_bag_here"]:=⟨_,_,F16,W.mg_of X G a16,b16⟩
 have F17:=cF (st:=dG) l17 c17 k17;have b17:=F17.binds (ps:=["_law_bag_here"]) λ_ _ _ _ _ _ us hl=>ar1 us hl (λ_=>rfl)
 have d17:Df K mg "_law_many" dG ["_law_bag_here"]:=⟨_,_,F17,W.mg_of X G a17,b17⟩
 have F18:=cF (st:=jh) l18 c18 k18;have b18:=F18.binds (ps:=["_law_script"]) λ_ _ _ _ _ _ us hl=>ar1 us hl (λ_=>rfl)
 have d18:Df K mg "law" jh ["_law_script"]:=⟨_,_,F18,W.mg_of X G a18,b18⟩
 have B:Bt mg:=⟨W.mg_none_of X G z_ValueError,W.mg_none_of X G z_abs,W.mg_none_of X G z_all,W.mg_none_of X G z_any,W.mg_none_of X G z_bool,W.mg_none_of X G z_dict,W.mg_none_of X G z_int,W.mg_none_of X G z_isinstance,W.mg_none_of X G z_len,W.mg_none_of X G z_list,W.mg_none_of X G z_min,W.mg_none_of X G z_range,W.mg_none_of X G z_sorted,W.mg_none_of X G z_tuple,W.mg_none_of X G z_zip⟩
 have r0:ExRow K mg kx0 "RookError" kx0:=⟨W.mg_of X G ya0,ya0,⟨yb0,yc0,yd0,ye,yf,yg0,yh0⟩,yt0,_,ym0,(if_pos rfl).symm⟩
 have r1:ExRow K mg kx0 "NoSquare" kx1:=⟨W.mg_of X G ya1,ya1,⟨yb1,yc1,yd1,ye,yf,yg1,yh1⟩,yt1,_,ym1,(if_neg (hJ yn (List.Mem.head _))).symm⟩
 have r2:ExRow K mg kx0 "NoMove" kx2:=⟨W.mg_of X G ya2,ya2,⟨yb2,yc2,yd2,ye,yf,yg2,yh2⟩,yt2,_,ym2,(if_neg (hJ yn (List.Mem.tail _ (List.Mem.head _)))).symm⟩
 have r3:ExRow K mg kx0 "TooMany" kx3:=⟨W.mg_of X G ya3,ya3,⟨yb3,yc3,yd3,ye,yf,yg3,yh3⟩,yt3,_,ym3,(if_neg (hJ yn (List.Mem.tail _ (List.Mem.tail _ (List.Mem.head _))))).symm⟩
 have r4:ExRow K mg kx0 "NoPart" kx4:=⟨W.mg_of X G ya4,ya4,⟨yb4,yc4,yd4,ye,yf,yg4,yh4⟩,yt4,_,ym4,(if_neg (hJ yn (List.Mem.tail _ (List.Mem.tail _ (List.Mem.tail _ (List.Mem.head _)))))).symm⟩
 have r5:ExRow K mg kx0 "NotOne" kx5:=⟨W.mg_of X G ya5,ya5,⟨yb5,yc5,yd5,ye,yf,yg5,yh5⟩,yt5,_,ym5,(if_neg (hJ yn (List.Mem.tail _ (List.Mem.tail _ (List.Mem.tail _ (List.Mem.tail _ (List.Mem.head _))))))).symm⟩
 have r6:ExRow K mg kx0 "NoPaper" kx6:=⟨W.mg_of X G ya6,ya6,⟨yb6,yc6,yd6,ye,yf,yg6,yh6⟩,yt6,_,ym6,(if_neg (hJ yn (List.Mem.tail _ (List.Mem.tail _ (List.Mem.tail _ (List.Mem.tail _ (List.Mem.tail _ (List.Mem.head _)))))))).symm⟩
 have r7:ExRow K mg kx0 "NoText" kx7:=⟨W.mg_of X G ya7,ya7,⟨yb7,yc7,yd7,ye,yf,yg7,yh7⟩,yt7,_,ym7,(if_neg (hJ yn (List.Mem.tail _ (List.Mem.tail _ (List.Mem.tail _ (List.Mem.tail _ (List.Mem.tail _ (List.Mem.tail _ (List.Mem.head _))))))))).symm⟩
 have r8:ExRow K mg kx0 "NoRow" kx8:=⟨W.mg_of X G ya8,ya8,⟨yb8,yc8,yd8,ye,yf,yg8,yh8⟩,yt8,_,ym8,(if_neg (hJ yn (List.Mem.tail _ (List.Mem.tail _ (List.Mem.tail _ (List.Mem.tail _ (List.Mem.tail _ (List.Mem.tail _ (List.Mem.tail _ (List.Mem.head _)))))))))).symm⟩
 have r9:ExRow K mg kx0 "NoStep" kx9:=⟨W.mg_of X G ya9,ya9,⟨yb9,yc9,yd9,ye,yf,yg9,yh9⟩,yt9,_,ym9,(if_neg (hJ yn (List.Mem.tail _ (List.Mem.tail _ (List.Mem.tail _ (List.Mem.tail _ (List.Mem.tail _ (List.Mem.tail _ (List.Mem.tail _ (List.Mem.tail _ (List.Mem.head _))))))))))).symm⟩
 have ET:Et K mg kx0 kx1 kx2 kx3 kx4 kx5 kx6 kx7 kx8 kx9:=⟨⟨(cN r0 (cN r1 (cN r2 (cN r3 (cN r4 (cN r5 (cN r6 (cN r7 (cN r8 (cN r9 wM)))))))))),List.Mem.head _,yn⟩,yo_NoPart⟩
 refine⟨W.fnOf "law" "law" (bd jh) (aR jh) (au jh) .none kV18 dc18 pm18 an18 cd18 ct18,λs v=>.of_eq rfl,λbase _ _=>?_⟩;have j5:=Bd (P:=l.prog) (w:=w) (base:=base) B d0 ET;have pE:=zW (P:=l.prog) (w:=w) (base:=base) B d1 ET j5;have i4:=yU (P:=l.prog) (w:=w) (base:=base) B d2 ET j5;have gK:=wB (P:=l.prog) (w:=w) (base:=base) B d3 ET pE i4;have jB:=sx (P:=l.prog) (w:=w) (base:=base) B d4 ET;have kI:=vK (P:=l.prog) (w:=w) (base:=base) B d5 ET jB;have aD:=tq (P:=l.prog) (w:=w) (base:=base) B d6 ET;have gp:=pX (P:=l.prog) (w:=w) (base:=base) B d7 ET;have hV:=ou (P:=l.prog) (w:=w) (base:=base) B d8 ET gp;have bJ:=n9 (P:=l.prog) (w:=w) (base:=base) B d9 ET;have gv:=ng (P:=l.prog) (w:=w) (base:=base) B d10 ET bJ;have fR:=sZ (P:=l.prog) (w:=w) (base:=base) B d11 ET;have gc:=rV (P:=l.prog) (w:=w) (base:=base) B d12 ET aD bJ;have gY:=oe (P:=l.prog) (w:=w) (base:=base) B d13 ET;have ie:=oQ (P:=l.prog) (w:=w) (base:=base) B d14 ET gK fR;have jA:=tB (P:=l.prog) (w:=w) (base:=base) B d14 ET gK fR;have dM:=rq (P:=l.prog) (w:=w) (base:=base) B d15 ET gY jA ie hV i4;have fT:=md (P:=l.prog) (w:=w) (base:=base) B d16 ET aD;have jv:=sS (P:=l.prog) (w:=w) (base:=base) B d17 ET aD;exact Bg (BJ (P:=l.prog) (w:=w) (base:=base) B F18 ET kI aD gc gv bJ fT jv dM) Be
end L2
theorem PySem.W.Fast.tw12637582822966473595:True:=⟨⟩
theorem PySem.W.Fast.tw12130275937737287309:True:=⟨⟩
theorem PySem.W.Fast.tw2621776368291057497:True:=⟨⟩
theorem PySem.W.Fast.tw9179818440851831437:True:=⟨⟩
theorem PySem.W.Fast.tw9540464799977723296:True:=⟨⟩
theorem PySem.W.Fast.tw2368499639386884936:True:=⟨⟩
theorem PySem.W.Fast.tw8309531753866201260:True:=⟨⟩
theorem PySem.W.Fast.tw16637322621441262584:True:=⟨⟩
theorem PySem.W.Fast.tw9390438932438670313:True:=⟨⟩
theorem PySem.W.Fast.tw10748833541873022915:True:=⟨⟩
theorem PySem.W.Fast.tw5477856575950094844:True:=⟨⟩
theorem PySem.W.Fast.tw1452003541485761435:True:=⟨⟩
theorem PySem.W.Fast.tw8219283454290499704:True:=⟨⟩
theorem PySem.W.Fast.tw159637973168835849:True:=⟨⟩
theorem PySem.W.Fast.tw4133616407742194603:True:=⟨⟩
theorem PySem.W.Fast.tw15839950515955055154:True:=⟨⟩
theorem PySem.W.Fast.tw5282172995914674452:True:=⟨⟩
theorem PySem.W.Fast.tw690223453163180309:True:=⟨⟩
theorem PySem.W.Fast.tw17153578392128170097:True:=⟨⟩
theorem PySem.W.Fast.tw4161870619529110765:True:=⟨⟩
theorem PySem.W.Fast.tw6653216181239799206:True:=⟨⟩
theorem PySem.W.Fast.tw2707657739406235213:True:=⟨⟩
theorem PySem.W.Fast.tw18345808571131784813:True:=⟨⟩
theorem PySem.W.Fast.tw9999573155051751764:True:=⟨⟩
theorem PySem.W.Fast.tw9468814635993145862:True:=⟨⟩
theorem PySem.W.Fast.tw1766600904310602107:True:=⟨⟩
theorem PySem.W.Fast.tw2853255068317918790:True:=⟨⟩
theorem PySem.W.Fast.tw17777421213326641304:True:=⟨⟩
theorem PySem.W.Fast.tw721524413087780754:True:=⟨⟩
theorem PySem.W.Fast.tw484441035886586955:True:=⟨⟩
theorem PySem.W.Fast.tw2614945862096105203:True:=⟨⟩
theorem PySem.W.Fast.tw13958614578084063372:True:=⟨⟩
theorem PySem.W.Fast.tw1691659068278973143:True:=⟨⟩
theorem PySem.W.Fast.tw16330839854887058366:True:=⟨⟩
theorem PySem.W.Fast.tw14940262060563032907:True:=⟨⟩
theorem PySem.W.Fast.tw15464228617261378170:True:=⟨⟩
theorem PySem.W.Fast.tw6701536534895188218:True:=⟨⟩
theorem PySem.W.Fast.tw2407221978547068664:True:=⟨⟩
theorem PySem.W.Fast.tw16267553028722700791:True:=⟨⟩
theorem PySem.W.Fast.tw1692000214758072273:True:=⟨⟩
theorem PySem.W.Fast.tw10542245327729695753:True:=⟨⟩
theorem PySem.W.Fast.tw10804835057969326140:True:=⟨⟩
theorem PySem.W.Fast.tw3914767539702061057:True:=⟨⟩
theorem PySem.W.Fast.tw10489297019203577593:True:=⟨⟩
theorem PySem.W.Fast.tw15480731156996605167:True:=⟨⟩
theorem PySem.W.Fast.tw16086957787128586762:True:=⟨⟩
theorem PySem.W.Fast.tw14257210089151543948:True:=⟨⟩
theorem PySem.W.Fast.tw15055781493948894826:True:=⟨⟩
theorem PySem.W.Fast.tw3073104667117245488:True:=⟨⟩
theorem PySem.W.Fast.tw16169035054767043584:True:=⟨⟩
theorem PySem.W.Fast.tw15359071913407754104:True:=⟨⟩
theorem PySem.W.Fast.tw16855933382112730922:True:=⟨⟩
theorem PySem.W.Fast.tw7907082710489804040:True:=⟨⟩
theorem PySem.W.Fast.tw4130962080922717486:True:=⟨⟩
theorem PySem.W.Fast.tw6250949294701695440:True:=⟨⟩
theorem PySem.W.Fast.tw1021808985450188723:True:=⟨⟩
theorem PySem.W.Fast.tw1577374676818587750:True:=⟨⟩
theorem PySem.W.Fast.tw6583002372135827263:True:=⟨⟩
theorem PySem.W.Fast.tw6213047561518481382:True:=⟨⟩
theorem PySem.W.Fast.tw4712262164276457719:True:=⟨⟩
theorem PySem.W.Fast.tw4331556929508926456:True:=⟨⟩
theorem PySem.W.Fast.tw17413129644240343834:True:=⟨⟩
theorem PySem.W.Fast.tw2474714219392970001:True:=⟨⟩
theorem PySem.W.Fast.tw1987587188390238366:True:=⟨⟩
theorem PySem.W.Fast.tw10873730464235611884:True:=⟨⟩
theorem PySem.W.Fast.tw10754667069993607235:True:=⟨⟩
theorem PySem.W.Fast.tw2569834120685944802:True:=⟨⟩
open PySem PySem.W PyProof.Rows
set_option maxRecDepth 100000 in
set_option maxHeartbeats 0 in
theorem PySem.Challenge.cw_rookborders_k61_sums_parted_holds : PySem.Challenge.rw_rookborders_k61_sums_parted.Holds := by
 w_on;o_law;k_head;(case hw=>w_witness2)
 k_fill
 refine L2.walkD (l:=PySem.Challenge.rw_rookborders_k61_sums_parted) (k:=6) (x:="_law_script") rfl rfl ⟨rfl,by decide,by decide⟩ (λw h Y=>W.kIn_of Y) ?F
 case F=>
  intro w mg fa h KX G hmg;refine' L2.all_mk KX G hmg ?a0 ?l0 ?c0 ?k0 ?a1 ?l1 ?c1 ?k1 ?a2 ?l2 ?c2 ?k2 ?a3 ?l3 ?c3 ?k3 ?a4 ?l4 ?c4 ?k4 ?a5 ?l5 ?c5 ?k5 ?a6 ?l6 ?c6 ?k6 ?a7 ?l7 ?c7 ?k7 ?a8 ?l8 ?c8 ?k8 ?a9 ?l9 ?c9 ?k9 ?a10 ?l10 ?c10 ?k10 ?a11 ?l11 ?c11 ?k11 ?a12 ?l12 ?c12 ?k12 ?a13 ?l13 ?c13 ?k13 ?a14 ?l14 ?c14 ?k14 ?a15 ?l15 ?c15 ?k15 ?a16 ?l16 ?c16 ?k16 ?a17 ?l17 ?c17 ?k17 ?a18 ?l18 ?c18 ?k18 ?z_ValueError ?z_abs ?z_all ?z_any ?z_bool ?z_dict ?z_int ?z_isinstance ?z_len ?z_list ?z_min ?z_range ?z_sorted ?z_tuple ?z_zip ?ya0 ?yb0 ?yc0 ?yd0 ?yg0 ?yh0 ?yt0 ?ym0 ?ya1 ?yb1 ?yc1 ?yd1 ?yg1 ?yh1 ?yt1 ?ym1 ?ya2 ?yb2 ?yc2 ?yd2 ?yg2 ?yh2 ?yt2 ?ym2 ?ya3 ?yb3 ?yc3 ?yd3 ?yg3 ?yh3 ?yt3 ?ym3 ?ya4 ?yb4 ?yc4 ?yd4 ?yg4 ?yh4 ?yt4 ?ym4 ?ya5 ?yb5 ?yc5 ?yd5 ?yg5 ?yh5 ?yt5 ?ym5 ?ya6 ?yb6 ?yc6 ?yd6 ?yg6 ?yh6 ?yt6 ?ym6 ?ya7 ?yb7 ?yc7 ?yd7 ?yg7 ?yh7 ?yt7 ?ym7 ?ya8 ?yb8 ?yc8 ?yd8 ?yg8 ?yh8 ?yt8 ?ym8 ?ya9 ?yb9 ?yc9 ?yd9 ?yg9 ?yh9 ?yt9 ?ym9 ?ye ?yf ?yo_NoPart ?yn
  (case a0=>k_is)
  (case l0=>k_is)
  (case c0=>k_is)
  (case k0=>k_is)
  (case a1=>k_is)
  (case l1=>k_is)
  (case c1=>k_is)
  (case k1=>k_is)
  (case a2=>k_is)
  (case l2=>k_is)
  (case c2=>k_is)
  (case k2=>k_is)
  (case a3=>k_is)
  (case l3=>k_is)
  (case c3=>k_is)
  (case k3=>k_is)
  (case a4=>k_is)
  (case l4=>k_is)
  (case c4=>k_is)
  (case k4=>k_is)
  (case a5=>k_is)
  (case l5=>k_is)
  (case c5=>k_is)
  (case k5=>k_is)
  (case a6=>k_is)
  (case l6=>k_is)
  (case c6=>k_is)
  (case k6=>k_is)
  (case a7=>k_is)
  (case l7=>k_is)
  (case c7=>k_is)
  (case k7=>k_is)
  (case a8=>k_is)
  (case l8=>k_is)
  (case c8=>k_is)
  (case k8=>k_is)
  (case a9=>k_is)
  (case l9=>k_is)
  (case c9=>k_is)
  (case k9=>k_is)
  (case a10=>k_is)
  (case l10=>k_is)
  (case c10=>k_is)
  (case k10=>k_is)
  (case a11=>k_is)
  (case l11=>k_is)
  (case c11=>k_is)
  (case k11=>k_is)
  (case a12=>k_is)
  (case l12=>k_is)
  (case c12=>k_is)
  (case k12=>k_is)
  (case a13=>k_is)
  (case l13=>k_is)
  (case c13=>k_is)
  (case k13=>k_is)
  (case a14=>k_is)
  (case l14=>k_is)
  (case c14=>k_is)
  (case k14=>k_is)
  (case a15=>k_is)
  (case l15=>k_is)
  (case c15=>k_is)
  (case k15=>k_is)
  (case a16=>k_is)
  (case l16=>k_is)
  (case c16=>k_is)
  (case k16=>k_is)
  (case a17=>k_is)
  (case l17=>k_is)
  (case c17=>k_is)
  (case k17=>k_is)
  (case a18=>k_is)
  (case l18=>k_is)
  (case c18=>k_is)
  (case k18=>k_is)
  (case z_ValueError=>k_is)
  (case z_abs=>k_is)
  (case z_all=>k_is)
  (case z_any=>k_is)
  (case z_bool=>k_is)
  (case z_dict=>k_is)
  (case z_int=>k_is)
  (case z_isinstance=>k_is)
  (case z_len=>k_is)
  (case z_list=>k_is)
  (case z_min=>k_is)
  (case z_range=>k_is)
  (case z_sorted=>k_is)
  (case z_tuple=>k_is)
  (case z_zip=>k_is)
  (case ya0=>k_is)
  (case yb0=>k_is)
  (case yc0=>k_is)
  (case yd0=>k_is)
  (case yg0=>k_is)
  (case yh0=>k_is)
  (case yt0=>k_is)
  (case ym0=>k_is)
  (case ya1=>k_is)
  (case yb1=>k_is)
  (case yc1=>k_is)
  (case yd1=>k_is)
  (case yg1=>k_is)
  (case yh1=>k_is)
  (case yt1=>k_is)
  (case ym1=>k_is)
  (case ya2=>k_is)
  (case yb2=>k_is)
  (case yc2=>k_is)
  (case yd2=>k_is)
  (case yg2=>k_is)
  (case yh2=>k_is)
  (case yt2=>k_is)
  (case ym2=>k_is)
  (case ya3=>k_is)
  (case yb3=>k_is)
  (case yc3=>k_is)
  (case yd3=>k_is)
  (case yg3=>k_is)
  (case yh3=>k_is)
  (case yt3=>k_is)
  (case ym3=>k_is)
  (case ya4=>k_is)
  (case yb4=>k_is)
  (case yc4=>k_is)
  (case yd4=>k_is)
  (case yg4=>k_is)
  (case yh4=>k_is)
  (case yt4=>k_is)
  (case ym4=>k_is)
  (case ya5=>k_is)
  (case yb5=>k_is)
  (case yc5=>k_is)
  (case yd5=>k_is)
  (case yg5=>k_is)
  (case yh5=>k_is)
  (case yt5=>k_is)
  (case ym5=>k_is)
  (case ya6=>k_is)
  (case yb6=>k_is)
  (case yc6=>k_is)
  (case yd6=>k_is)
  (case yg6=>k_is)
  (case yh6=>k_is)
  (case yt6=>k_is)
  (case ym6=>k_is)
  (case ya7=>k_is)
  (case yb7=>k_is)
  (case yc7=>k_is)
  (case yd7=>k_is)
  (case yg7=>k_is)
  (case yh7=>k_is)
  (case yt7=>k_is)
  (case ym7=>k_is)
  (case ya8=>k_is)
  (case yb8=>k_is)
  (case yc8=>k_is)
  (case yd8=>k_is)
  (case yg8=>k_is)
  (case yh8=>k_is)
  (case yt8=>k_is)
  (case ym8=>k_is)
  (case ya9=>k_is)
  (case yb9=>k_is)
  (case yc9=>k_is)
  (case yd9=>k_is)
  (case yg9=>k_is)
  (case yh9=>k_is)
  (case yt9=>k_is)
  (case ym9=>k_is)
  (case ye=>k_is)
  (case yf=>k_is)
  (case yo_NoPart=>k_exc)
  (case yn=>decide)
