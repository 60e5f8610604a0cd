import PyProof.Rows.All
import Wide.All
import OpenK.AllK
import Wide.FinOn
import PyProof.EqAt
import PyProof.EqKinds
import PyProof.TupleCall
import PyProof.NeKinds
import PyProof.FactsAll.tuple_2
import PyProof.FactsAll.tuple_3
import PyProof.ListRange
import KE.KSortTup
import PyProof.EnumMake
import PyProof.AutoSeq1
import PyProof.Rows.SeqMore
import KE.KIsAll
import PyProof.ExcArgsOwn
import PyProof.ExcBaseAll.ValueError
import PyProof.ExcAttrAll.ValueError
import OpenK.KOwn
import PyProof.RulesAs
import PyProof.AutoRange
import PyProof.SeqRoads2
import PyProof.ZipIter
import PyProof.StrCalls2
import KE.KDictSum
import PyProof.SumAny
import KE.KRevIter
import PyProof.Rows.FStr
import PyProof.Rows.FStrParts
import KE.KRevSl
import PyProof.Rows.SetFrom
import Lean
import PySem.Challenge.RW_rookborders_k73_surfaces
set_option bootstrap.genMatcherCode false
set_option Elab.async false
set_option linter.all false
set_option maxRecDepth 100000
set_option maxHeartbeats 1000000
namespace L2
open PySem
abbrev Pb:=SetTable.Probe
def El(mask:Nat)(p:Pb):Pb:=
 if p.more>0 then {p with j:=p.j+1,more:=p.more-1} else
 {p with j:=(SetTable.leap mask p.i p.perturb).1,more:=SetTable.runEnd mask (SetTable.leap mask p.i p.perturb).1- (SetTable.leap mask p.i p.perturb).1,i:=(SetTable.leap mask p.i p.perturb).1,perturb:=(SetTable.leap mask p.i p.perturb).2}
def BD(mask i perturb:Nat)(d:Option Nat):Pb:={j:=i,more:=SetTable.runEnd mask i-i,i:=i,perturb:=perturb,dummy:=d}
def BO(mask:Nat):Nat->Pb->Pb
 |0,p=>p
 |n+1,p=>BO mask n (El mask p)
def Ei(mask:Nat)(h:Int)(d:Option Nat):Pb:=BD mask (SetTable.bits h % (mask+1)) (SetTable.bits h) d
def Jx(mask:Nat)(h:Int)(m:Nat):Nat:=(BO mask m (Ei mask h none)).j
def D8(xs:Array Nat):Prop:=xs.toList.Pairwise (·< ·)
structure TOk(t:SetTable)(hs:List Int):Prop where
 pw: ∃k,3<=k/\k<=12/\t.mask+1=2^k
 sz:t.place.size=hs.length
 sp:D8 t.place
 sd:D8 t.dummies
 lp: ∀j∈t.place.toList,j<=t.mask
 ld: ∀j∈t.dummies.toList,j<=t.mask
 dj: ∀j∈t.dummies.toList,j∉t.place.toList
 fl:t.fill<=t.mask
 rc: ∀x∈hs.zip t.place.toList,∃m,Jx t.mask x.1 m=x.2/\ ∀m',m'<m->Jx t.mask x.1 m'∈t.place.toList\/Jx t.mask x.1 m'∈t.dummies.toList
open PySem PySem.Spec PyProof.Rows
def th(ks:List Int):Int:=reduceHash (Builtin.Tuple.tupleHashOf (ks.map hashInt))
def En(x:List Int×Addr):Int×Value:=(th x.1,.ref x.2)
abbrev DM:=List (List Int×Addr)
def Eo(xs:DM):List Int:=xs.map λx=>th x.1
structure SetAt(w:World)(o:Obj)(es:Array (Int×Value))(ep:Nat)(t:SetTable)(xs:DM):Prop where
 ex:o.ExactSet
 hd:o.data=.set es ep t
 he:es.toList=xs.map En
 T:TOk t (Eo xs)
 led:t.led= !w.params.followText "set-order"
 pl:t.plain=true
 nd:(xs.map (·.1)).Nodup
structure SetOk(w:World)(o:Obj)(es:Array (Int×Value))(ep:Nat)(t:SetTable)(xs:DM):Prop extends SetAt w o es ep t xs where
 f5:t.fill*5<t.mask*3
abbrev jE:=Sum Int Str
def yU:jE->Value->Bool
 | .inl k,v=>Value.isInt k v
 | .inr x,v=>Value.isStrOf x v
def DY(w:World):jE->Int
 | .inl k=>hashInt k
 | .inr x=>hashStr w x
theorem cf: ∀ {k:jE} {v:Value},yU k v=true->(∃i t,k=Sum.inl i/\v=Value.int i t)\/(∃x t,k=Sum.inr x/\v=Value.str x t)
 | .inl i,v,h=>by
   obtain⟨t,e⟩:=Value.isInt_shape (k:=i) (v:=v) h
   exact .inl ⟨i,t,rfl,e⟩
 | .inr x,v,h=>by
   obtain⟨t,e⟩:=Value.isStrOf_shape (x:=x) (v:=v) h
   exact .inr ⟨x,t,rfl,e⟩
theorem AC(a b:Int):decide ((Sum.inl a:jE)=Sum.inl b)=(a==b):=by
 by_cases e:a=b
 ·subst e;simp
 ·have h: ¬(Sum.inl a:jE)=Sum.inl b:=λq=>e (Sum.inl.inj q)
  rw[decide_eq_false h];exact(beq_eq_false_iff_ne.mpr e).symm
theorem AK(a b:Str):decide ((Sum.inr a:jE)=Sum.inr b)=decide (a=b):=by
 by_cases e:a=b
 ·subst e;simp
 ·have h: ¬(Sum.inr a:jE)=Sum.inr b:=λq=>e (Sum.inr.inj q)
  rw[decide_eq_false h,decide_eq_false e]
theorem Ae(a:Int)(b:Str):decide ((Sum.inl a:jE)=Sum.inr b)=false:=decide_eq_false (λq=>nomatch q)
theorem Ao(a:Str)(b:Int):decide ((Sum.inr a:jE)=Sum.inl b)=false:=decide_eq_false (λq=>nomatch q)
def pf(prog:Program)(w:World):PySem.KeyKind prog w jE where
 is:=yU
 hash:=DY w
 inj:=λv a b ha hb=>by
  rcases cf ha with⟨i,t,rfl,rfl⟩|⟨x,t,rfl,rfl⟩
  ·rcases cf hb with⟨j,u,rfl,e⟩|⟨y,u,rfl,e⟩
   ·injection e with e1 _;rw[e1]
   ·exact nomatch e
  ·rcases cf hb with⟨j,u,rfl,e⟩|⟨y,u,rfl,e⟩
   ·exact nomatch e
   ·injection e with e1 _;rw[e1]
 byValue:=λk v h=>by
  rcases cf h with⟨i,t,rfl,rfl⟩|⟨x,t,rfl,rfl⟩<;>rfl
 pyHash:=λhv h=>by
  rcases cf hv with⟨i,t,rfl,rfl⟩|⟨x,t,rfl,rfl⟩
  ·exact wpAny_pyHash_int h
  ·exact wpAny_pyHash_str h
 eqBool:=λhu hv h=>by
  rcases cf hu with⟨i,t,rfl,rfl⟩|⟨x,t,rfl,rfl⟩
  ·rcases cf hv with⟨j,u,rfl,rfl⟩|⟨y,u,rfl,rfl⟩
   ·rw[AC] at h;exact wpAny_eqBool_int h
   ·rw[Ae] at h;exact SeqAt.EqAt.int_str i t y u _ _ _ _ h
  ·rcases cf hv with⟨j,u,rfl,rfl⟩|⟨y,u,rfl,rfl⟩
   ·rw[Ao] at h;exact SeqAt.EqAt.str_int x t j u _ _ _ _ h
   ·rw[AK] at h;exact wpAny_eqBool_str h
 «strs»:=λk x t v h=>by
  rcases cf h with⟨i,u,rfl,e⟩|⟨y,u,rfl,e⟩
  ·exact nomatch e
  ·injection e with e1 _
   subst e1;cases v<;>rfl
inductive V where
 |non|bl (b:Bool)|int (i:Int)|str (x:Str)|byt (b:Array UInt8)|flt (b:UInt64)|ref (a:Addr)|ty (n:String)
 deriving DecidableEq
def RelV:V->Value->Prop
 | .non,u=>u=Value.none
 | .bl b,u=>u=Value.bool b
 | .int i,u=> ∃t,u=Value.int i t
 | .str x,u=> ∃t,u=Value.str x t
 | .byt b,u=> ∃t,u=Value.bytes b t
 | .flt b,u=> ∃t,u=Value.float b t
 | .ref a,u=>u=Value.ref a
 | .ty n,u=>u=Value.type n
abbrev Vals:List V->List Value->Prop:=Paired RelV
theorem Vals.length {xs:List V}{us:List Value}(r:Vals xs us):xs.length=us.length:=Paired.length r
theorem Vals.get: ∀ {xs:List V} {us:List Value} {i:Nat} {x:V},Vals xs us->xs[i]? =some x-> ∃u,us[i]? =some u/\RelV x u
 |_,_,_,_,.nil,e=>by simp at e
 |_,_,0,_,.cons r _,e=>by simp at e;subst e;exact⟨_,rfl,r⟩
 |_,_,i+1,x,.cons _ t,e=>by
  obtain⟨u,h1,h2⟩:=Vals.get (i:=i) (x:=x) t (by simpa using e)
  exact⟨u,by simpa using h1,h2⟩
theorem Vals.set {x:V}{u:Value}(r:RelV x u): ∀ {xs:List V} {us:List Value} (i:Nat),Vals xs us->Vals (xs.set i x) (us.set i u)
 |_,_,_,.nil=>.nil
 |_,_,0,.cons _ t=>.cons r t
 |_,_,i+1,.cons q t=>.cons q (Vals.set r i t)
theorem Vals.append: ∀ {xs ys:List V} {us ws:List Value},Vals xs us->Vals ys ws->Vals (xs++ys) (us++ws)
 |_,_,_,_,.nil,s=>s
 |_,_,_,_,.cons r t,s=>.cons r (Vals.append t s)
def Cr:Option V->Option Value->Prop
 |some v,some u=>RelV v u
 |none,none=>True
 |_,_=>False
def KV {κ:Type}:List (κ×V)->List (κ×Value)->Prop:=Paired λ(p:κ×V) (q:κ×Value)=>p.1=q.1/\RelV p.2 q.2
def kV:jE->V
 | .inl i=>.int i
 | .inr x=>.str x
inductive HO where
 |lst (xs:List V)
 |tup (xs:List V)
 |dK (kvs:List (jE×V))|dT (kvs:List (List jE×V))
 |set (S:Int->Bool) (n:Nat)
 |tst (xs:List (List Int×Addr))
 |ins (C dx:Addr) (fs:List (Str×V))
 |own (x:Addr)
 |xd (fs:List (Str×V))
 |met (f x:Addr)
 |rng (lo hi:Int)
 |frz (o:Obj) (u:HO)
 |nst (p:Addr) (u:HO)
 |tbl (ps:Array Value)
 |ext (φ:Heap->Prop)
abbrev Hp:=Addr->Option HO
def cw(H:Hp)(a:Addr)(o:HO):Hp:=λb=>if b=a then some o else H b
theorem aY {H:Hp}{a:Addr}{o:HO}:cw H a o a=some o:=by unfold cw;rw[if_pos rfl]
theorem aI {H:Hp}{a b:Addr}{o:HO}(h:b≠a):cw H a o b=H b:=by unfold cw;rw[if_neg h]
theorem bR {H:Hp}{a b:Addr}{o:HO}(h:H a=some o)(h':H b=none):a≠b:=by
 intro e;subst e;rw[h] at h';cases h'
section
variable(P:Program)(w:World)
def ObjOk(H:Hp)(h:Heap)(a:Addr):HO->Prop
 | .lst xs=>xs.length<=sizeLine/\ ∃(its:List Value) (n:Nat),Vals xs its/\h.get? a=some {cls:=.type "list",data:=.seq its.toArray n}
 | .tup xs=>xs.length<=sizeLine/\ ∃its:List Value,Vals xs its/\IsTup h a its.toArray/\ ∃o,h.get? a=some o/\o.dict=none
 | .dK kvs=>kvs.length<=sizeLine/\(a==sysModules)=false/\ ∃vs,KV kvs vs/\h.DictOf (pf P w) a vs
 | .dT kvs=>kvs.length<=sizeLine/\(a==sysModules)=false/\ ∃xs:List (List jE×Addr×Value),
    Paired (λ(p:List jE×V) (q:List jE×Addr×Value)=>p.1=q.1/\H q.2.1=some (.tup (p.1.map kV))/\RelV p.2 q.2.2) kvs xs/\
    ∃o es ep,h.get? a=some o/\o.ExactDict/\o.data=.dict es ep/\es.toList=xs.map (entryOfKey (tupleKind (pf P w)))/\(xs.map (·.1)).Nodup
 | .set S n=>h.SetOf (intKind P w) a S n
 | .tst xs=> ∃o es ep t,h.get? a=some o/\SetOk w o es ep t xs
 | .ins C dx fs=>H dx=some (.own a)/\fs.length<=1000/\dx≠a/\h.get? a=some (W.instObj C dx)/\
    ∃mA,h.Ns1 dx mA/\(∀f,Cr (fs.lookup f) (mA f))/\PySem.Within mA (fs.map (·.1))
 | .own _=> ∃o,h.get? a=some o
 | .xd fs=> ∃mA,h.Ns1 a mA/\ ∀f,Cr (fs.lookup f) (mA f)
 | .rng lo hi=> ∃t u v,h.get? a=some {cls:=.type "range",data:=.fields #[.int lo t,.int hi u,.int 1 v]}
 | .frz o u=>h.get? a=some o/\ObjOk H h a u
 | .nst _ u=>ObjOk H h a u
 | .tbl ps=>h.get? a=some {cls:=.none,data:=.fields ps}
 | .met f x=>h.get? a=some (W.methodObj (.ref f) (.ref x))
 | .ext φ=>φ h/\(∃o,h.get? a=some o)/\ ∀h1 h2:Heap,φ h1->(∀o,h1.get? a=some o->h2.get? a=some o)->φ h2
def HOk(H:Hp)(h:Heap):Prop:= ∀a o,H a=some o->ObjOk P w H h a o
end
section
variable {P:Program}{w:World}{H H':Hp}{h h':Heap}{a:Addr}{o:HO}
theorem ObjOk.lt(x:ObjOk P w H h a o):a<h.objs.size:=by
 induction o with
 |lst xs=>obtain⟨_,_,_,_,e⟩:=x;exact Heap.lt_size e
 |tup xs=>obtain⟨_,_,_,p,_⟩:=x;exact p.lt
 |dK kvs=>obtain⟨_,_,_,_,o,_,_,e,_⟩:=x;exact Heap.lt_size e
 |dT kvs=>obtain⟨_,_,_,_,o,_,_,e,_⟩:=x;exact Heap.lt_size e
 |set S n=>obtain⟨o,_,_,_,e,_⟩:=x;exact Heap.lt_size e
 |tst xs=>obtain⟨o,_,_,_,e,_⟩:=x;exact Heap.lt_size e
 |ins C dx fs=>obtain⟨_,_,_,e,_⟩:=x;exact Heap.lt_size e
 |own y=>obtain⟨_,e⟩:=x;exact Heap.lt_size e
 |xd fs=>obtain⟨_,⟨_,_,_,e,_⟩,_⟩:=x;exact Heap.lt_size e
 |rng lo hi=>obtain⟨_,_,_,e⟩:=x;exact Heap.lt_size e
 |frz ob u ih=>obtain⟨e,_⟩:=x;exact Heap.lt_size e
 |nst p u ih=>exact ih x
 |tbl ps=>exact Heap.lt_size (show h.get? a=some _ from x)
 |met f y=>exact Heap.lt_size (show h.get? a=some _ from x)
 |ext φ=>obtain⟨_,⟨_,e⟩,_⟩:=x;exact Heap.lt_size e
theorem Paired.mapP {α β:Type}{F G:α->β->Prop}: ∀ {l₁:List α} {l₂:List β},Paired F l₁ l₂->(∀a b,F a b->G a b)->Paired G l₁ l₂
 |_,_,.nil,_=>.nil
 |_,_,.cons r t,f=>.cons (f _ _ r) (Paired.mapP t f)
theorem ObjOk.stay(x:ObjOk P w H h a o)(k: ∀b u,(b=a\/H b=some (.own a))->h.get? b=some u->h'.get? b=some u)
 (ho: ∀b,H b=some (.own a)->H' b=some (.own a)) (ht: ∀b xs,H b=some (.tup xs)->H' b=some (.tup xs)):ObjOk P w H' h' a o:=by
 induction o with
 |lst xs=>obtain⟨z,its,n,r,e⟩:=x;exact⟨z,its,n,r,k _ _ (.inl rfl) e⟩
 |tup xs=>obtain⟨z,its,r,⟨ob,e,c⟩,ob2,e2,c2⟩:=x;exact⟨z,its,r,⟨ob,k _ _ (.inl rfl) e,c⟩,ob2,k _ _ (.inl rfl) e2,c2⟩
 |dK kvs=>obtain⟨z,y,vs,r,ob,es,ep,e,c⟩:=x;exact⟨z,y,vs,r,ob,es,ep,k _ _ (.inl rfl) e,c⟩
 |dT kvs=>
  obtain⟨z,y,xs,r,ob,es,ep,e,c⟩:=x
  exact⟨z,y,xs,Paired.mapP r λp q z=>⟨z.1,ht _ _ z.2.1,z.2.2⟩,ob,es,ep,k _ _ (.inl rfl) e,c⟩
 |set S n=>obtain⟨ob,es,ep,t,e,c⟩:=x;exact⟨ob,es,ep,t,k _ _ (.inl rfl) e,c⟩
 |tst xs=>obtain⟨ob,es,ep,t,e,c⟩:=x;exact⟨ob,es,ep,t,k _ _ (.inl rfl) e,c⟩
 |ins C dx fs=>
  obtain⟨d,z,ne,e,mA,⟨od,es,ep,e2,c⟩,r⟩:=x
  exact⟨ho _ d,z,ne,k _ _ (.inl rfl) e,mA,⟨od,es,ep,k _ _ (.inr d) e2,c⟩,r⟩
 |own y=>obtain⟨ob,e⟩:=x;exact⟨ob,k _ _ (.inl rfl) e⟩
 |xd fs=>obtain⟨mA,⟨od,es,ep,e,c⟩,r⟩:=x;exact⟨mA,⟨od,es,ep,k _ _ (.inl rfl) e,c⟩,r⟩
 |rng lo hi=>obtain⟨t,u,v,e⟩:=x;exact⟨t,u,v,k _ _ (.inl rfl) e⟩
 |frz ob u ih=>obtain⟨e,q⟩:=x;exact⟨k _ _ (.inl rfl) e,ih q⟩
 |nst p u ih=>exact ih x
 |tbl ps=>
  have e:h.get? a=some {cls:=.none,data:=.fields ps}:=x
  show h'.get? a=some {cls:=.none,data:=.fields ps};exact k a _ (.inl rfl) e
 |met f y=>
  have e:h.get? a=some (W.methodObj (.ref f) (.ref y)):=x
  show h'.get? a=some (W.methodObj (.ref f) (.ref y));exact k a _ (.inl rfl) e
 |ext φ=>obtain⟨p,⟨o,e⟩,st⟩:=x;exact⟨st _ _ p λo q=>k _ _ (.inl rfl) q,⟨o,k _ _ (.inl rfl) e⟩,st⟩
theorem HOk.lt(x:HOk P w H h)(e:H a=some o):a<h.objs.size:=(x a o e).lt
theorem HOk.fresh(x:HOk P w H h)(e:h.objs.size<=a):H a=none:=by
 cases q:H a with
 |none=>rfl
 |some u=>exact absurd (Nat.lt_of_lt_of_le (x.lt q) e) (Nat.lt_irrefl _)
theorem HOk.kept(x:HOk P w H h)(k: ∀b u,h.get? b=some u->h'.get? b=some u):HOk P w H h':=λa o e=>
 (x a o e).stay (λb u _ q=>k b u q) (λ_ q=>q) λ_ _ q=>q
theorem HOk.laid(x:HOk P w H h)(k: ∀b u,h.get? b=some u->h'.get? b=some u)(hp:h.objs.size<=a)(new:ObjOk P w (cw H a o) h' a o):HOk P w (cw H a o) h':=λb u e=>by
 have hn:=x.fresh hp
 by_cases hb:b=a
 ·subst hb;rw[aY] at e;cases e;exact new
 ·rw[aI hb] at e
  exact(x b u e).stay (λc v _ q=>k c v q) (λc q=>by rw[aI (bR q hn)];exact q) λc xs q=>by rw[aI (bR q hn)];exact q
end
def Rd(H:Hp)(a:Addr)(u:HO):Prop:=H a=some u\/ ∃o,H a=some (.frz o u)
theorem Rd.ok {P:Program}{w:World}{H:Hp}{h:Heap}{a:Addr}{u:HO}(r:Rd H a u)(x:HOk P w H h):ObjOk P w H h a u:=by
 rcases r with r|⟨o,r⟩
 ·exact x a u r
 ·obtain⟨_,q⟩:=x a _ r
  exact q
def CK:Option HO->Prop
 |some (.lst _)=>True
 |some (.dK _)=>True
 |some (.dT _)=>True
 |some (.set _ _)=>True
 |some (.tst _)=>True
 |some (.ins _ _ _)=>True
 |some (.ext _)=>True
 |some (.nst _ _)=>True
 |_=>False
section
variable {P:Program}{w:World}{H:Hp}{h h':Heap}{x e:Addr}{o':HO}
theorem HOk.write(ok:HOk P w H h)(mu:CK (H x))(he:e=x\/H e=some (.own x))(k: ∀b u,b≠e->h.get? b=some u->h'.get? b=some u)(heo: ∃u,h'.get? e=some u)
 (new:ObjOk P w (cw H x o') h' x o'):HOk P w (cw H x o') h':=λb u q=>by
 have nown: ∀c y,H c=some (.own y)->c≠x:=λc y r z=>by subst z;rw[r] at mu;exact mu
 have ntup: ∀c xs,H c=some (.tup xs)->c≠x:=λc xs r z=>by subst z;rw[r] at mu;exact mu
 by_cases hb:b=x
 ·subst hb;rw[aY] at q;cases q;exact new
 ·rw[aI hb] at q
  by_cases hbe:b=e
  ·have q':H b=some (.own x):=by
    rcases he with z|z
    ·exact absurd (hbe.trans z) hb
    ·rw[hbe];exact z
   rw[q] at q';cases q';obtain⟨v,hv⟩:=heo
   exact⟨v,by rw[hbe];exact hv⟩
  ·refine(ok b u q).stay (λc v hc r=>k c v ?_ r) (λc r=>by rw[aI (nown c b r)];exact r) λc xs r=>by rw[aI (ntup c xs r)];exact r
   rcases hc with rfl|hc
   ·exact hbe
   ·rintro rfl
    rcases he with z|z
    ·exact nown c b hc z
    ·rw[hc] at z;cases z;exact hb rfl
end
structure Un(fs ex:List Addr)(H H':Hp)(h h':Heap):Prop where
 keep: ∀b o,h.get? b=some o->H b=none->b∉fs->b∉ex->h'.get? b=some o
 slot: ∀b o,h.get? b=some o->H b=none->b∈fs->b∉ex-> ∃sl,h'.get? b=some {o with slots:=sl}
 free: ∀b o,h.get? b=some o->H b=none->b∉ex->H' b=none
 there: ∀b o,h.get? b=some o->b∉ex-> ∃o',h'.get? b=some o'
 tups: ∀b xs,H b=some (.tup xs)->H' b=some (.tup xs)
 frzs: ∀b o u,H b=some (.frz o u)->H' b=some (.frz o u)
 tbls: ∀b ps,H b=some (.tbl ps)-> ∃more,H' b=some (.tbl (ps++more))
section
variable {fs fs' ex ex':List Addr}{H H1 H2:Hp}{h h1 h2 h':Heap}{a x e:Addr}{o:HO}
theorem Un.any(u:Un fs ex H H1 h h1){b:Addr}{ob:Obj}(q:h.get? b=some ob)(n:H b=none)(hx:b∉ex): ∃sl,h1.get? b=some {ob with slots:=sl}:=by
 by_cases hb:b∈fs
 ·exact u.slot b ob q n hb hx
 ·exact⟨ob.slots,u.keep b ob q n hb hx⟩
theorem Un.trans(a:Un fs ex H H1 h h1)(b:Un fs ex H1 H2 h1 h2):Un fs ex H H2 h h2 where
 keep:=λc ob q n hc hx=>b.keep c ob (a.keep c ob q n hc hx) (a.free c ob q n hx) hc hx
 slot:=λc ob q n hc hx=>by
  obtain⟨sl,e1⟩:=a.slot c ob q n hc hx
  obtain⟨sl',e2⟩:=b.slot c _ e1 (a.free c ob q n hx) hc hx
  exact⟨sl',e2⟩
 free:=λc ob q n hx=>by
  obtain⟨o',e1⟩:=a.there c ob q hx
  exact b.free c o' e1 (a.free c ob q n hx) hx
 there:=λc ob q hx=>by
  obtain⟨o',e1⟩:=a.there c ob q hx
  exact b.there c o' e1 hx
 tups:=λc xs q=>b.tups c xs (a.tups c xs q)
 frzs:=λc ob xs q=>b.frzs c ob xs (a.frzs c ob xs q)
 tbls:=λc ps q=>by
  obtain⟨m1,e1⟩:=a.tbls c ps q
  obtain⟨m2,e2⟩:=b.tbls c _ e1
  exact⟨m1++m2,by rw[e2,Array.append_assoc]⟩
theorem Un.kept(k: ∀b u,h.get? b=some u->h'.get? b=some u):Un fs ex H H h h':=
 ⟨λb ob q _ _ _=>k b ob q,λb ob q _ _ _=>⟨ob.slots,k b ob q⟩,λ_ _ _ n _=>n,λb ob q _=>⟨ob,k b ob q⟩,λ_ _ q=>q,λ_ _ _ q=>q,λ_ ps q=>⟨#[],by rw[q];simp⟩⟩
theorem Un.refl:Un fs ex H H h h:=Un.kept λ_ _ q=>q
theorem Un.laid(k: ∀b u,h.get? b=some u->h'.get? b=some u)(hp:h.objs.size<=a)(hn:H a=none):Un fs ex H (cw H a o) h h' where
 keep:=λb u q _ _ _=>k b u q
 slot:=λb u q _ _ _=>⟨u.slots,k b u q⟩
 free:=λb u q n _=>by rw[aI (Nat.ne_of_lt (Nat.lt_of_lt_of_le (Heap.lt_size q) hp))];exact n
 there:=λb u q _=>⟨u,k b u q⟩
 tups:=λb xs q=>by rw[aI (bR q hn)];exact q
 frzs:=λb u xs q=>by rw[aI (bR q hn)];exact q
 tbls:=λb ps q=>⟨#[],by rw[aI (bR q hn),q];simp⟩
theorem Un.write(mu:CK (H x))(he:e=x\/H e=some (.own x))(k: ∀b u,b≠e->h.get? b=some u->h'.get? b=some u)(heo: ∃u,h'.get? e=some u):Un fs ex H (cw H x o) h h':=by
 have hx: ∀b,H b=none->b≠x:=λb n z=>by subst z;rw[n] at mu;exact mu
 have hb: ∀b,H b=none->b≠e:=λb n z=>by
  subst z;rcases he with r|r
  ·exact hx b n r
  ·rw[n] at r;cases r
 have hm: ∀b u,H b=some u-> ¬CK (some u)->b≠x:=λb u q nm z=>by subst z;rw[q] at mu;exact nm mu
 refine⟨λb u q n _ _=>k b u (hb b n) q,λb u q n _ _=>⟨u.slots,k b u (hb b n) q⟩,λb u q n _=>by rw[aI (hx b n)];exact n,λb u q _=>?_,
  λb xs q=>by rw[aI (hm b _ q λz=>z)];exact q,λb u xs q=>by rw[aI (hm b _ q λz=>z)];exact q,λb ps q=>⟨#[],by rw[aI (hm b _ q λz=>z),q];simp⟩⟩
 by_cases hbe:b=e
 ·subst hbe;exact heo
 ·exact⟨u,k b u hbe q⟩
end
def trk(h:Heap)(H:Hp):List Addr:=(List.range h.objs.size).filter λa=>(H a).isSome
def pd(h:Heap)(H:Hp):Heap:=W.hideAll h (trk h H)
theorem t9(h:Heap)(H:Hp):(pd h H).objs.size=h.objs.size:=W.hideAll_size _ _
theorem wZ {h:Heap}{H:Hp}{b:Addr}{o:Obj}(e:h.get? b=some o)(n:H b=none):(pd h H).get? b=some o:=
 W.hideAll_get _ e λhm=>by
  have q:(H b).isSome=true:=(List.mem_filter.mp hm).2
  rw[n] at q;simp at q
theorem yK {h:Heap}{H:Hp}{b:Addr}{o:Obj}(e:(pd h H).get? b=some o):h.get? b=some o/\H b=none:=by
 have e':h.get? b=some o:=W.of_hideAll (trk h H) e
 refine⟨e',?_⟩
 cases q:H b with
 |none=>rfl
 |some x=>
  have hm:b∈trk h H:=List.mem_filter.mpr ⟨List.mem_range.mpr (Heap.lt_size e'),by simp[q]⟩
  have z:(pd h H).get? b=none:=W.hideAll_none (trk h H) hm
  rw[z] at e;cases e
structure Mod(K:W.Frag)(mg:Str->Option Value)(base:Heap):Prop where
 kin:K.In base
 glob:base.Ns mainGlobals mg
 blt: ∃mb,base.Ns builtinsNs mb/\ ∀x:Str,x≠"__name__"->mb x=bootBuiltins x
 nolimit:base.NoLimit
structure Cx where
 prog:Program
 w:World
 K:W.Frag
 mg:Str->Option Value
 base:Heap
 A:Around
 N:List Str
 s₀:Shared
 H₀:Hp
 env:Env
 outer:List Env
 stack:List Env
 ex:List Addr
 fn:Str->Bool
 calm:Bool
 pn:List (Addr×Obj)
 xe:Value->Shared->Prop
def frs(l:List Env):List Addr:=l.filterMap (·.frame)
abbrev Cx.fs(X:Cx):List Addr:=frs X.outer
def rf(sc:Scope)(x:Str):Prop:=sc.names.lookup x=some .local\/sc.names.lookup x=some .cell\/sc.names.lookup x=some .free
def xc(sc:Scope)(x:Str):Prop:=sc.names.lookup x=some .local\/sc.names.lookup x=some .cell
def CQ(env:Env)(h:Heap)(m:Str->Option Value)(x:Str)(u:Value):Prop:=
 (env.kindOf x=some .local/\m x=some u)\/((env.kindOf x=some .cell\/env.kindOf x=some .free)/\ ∃c,env.cells.lookup x=some c/\h.IsCell c (some u))
structure Cx.Ok(X:Cx):Prop where
 mod:Mod X.K X.mg X.base
 kind:X.env.scope.kind=.function
 glob:X.env.globals=mainGlobals
 blt:X.env.builtins=builtinsNs
 above:X.s₀.heap.objs.size<=X.env.locals
 inj: ∀x y c,X.env.cells.lookup x=some c->X.env.cells.lookup y=some c->x=y
 has: ∀x,(X.env.kindOf x=some .cell\/X.env.kindOf x=some .free)-> ∃c,X.env.cells.lookup x=some c
 cab: ∀x c,X.fn x=true->X.env.cells.lookup x=some c->X.s₀.heap.objs.size<=c
 hd:X.calm=true->X.A.handled=none
 frames:X.A.frames=some X.stack
 stk:X.stack=X.outer\/(X.stack=X.env::X.outer/\X.env.frame=some X.env.locals)
 exf: ∀b∈X.ex,b≠X.env.locals/\ ∀x c,X.env.cells.lookup x=some c->c≠b
 bs: ∀b o,X.base.get? b=some o->X.s₀.heap.get? b=some o/\X.H₀ b=none
 bsz:X.base.objs.size<=X.s₀.heap.objs.size
 noex: ∀b o,X.base.get? b=some o->b∉X.ex
 exfs: ∀b∈X.ex,b∉X.fs
 funs:X.s₀.heap.FunFrames X.base X.outer
 frf: ∀b∈X.fs,X.H₀ b=none
structure Inv(X:Cx)(ae:List (Addr×Obj))(σ:List (Option V))(H:Hp)(s:Shared):Prop where
 ok:X.Ok
 os:s.os=X.s₀.os
 bare:AllBare s.gens
 base:Un X.fs X.ex X.H₀ H X.s₀.heap s.heap
 loc: ∃m,s.heap.Ns X.env.locals m/\ ∀(i:Nat) (x:Str) (v:V),X.N[i]? =some x->σ[i]? =some (some v)->rf X.env.scope x-> ∃u,RelV v u/\CQ X.env s.heap m x u
 cell: ∀x c,X.env.cells.lookup x=some c-> ∃v,s.heap.IsCell c v
 free:H X.env.locals=none
 freeC: ∀x c,X.env.cells.lookup x=some c->H c=none
 pin: ∀p∈X.pn++ae,s.heap.get? p.1=some p.2/\H p.1=none/\p.1≠X.env.locals/\p.1∉X.fs/\ ∀v,p.2.data≠ .cell v
 hok:HOk X.prog X.w H s.heap
 len:σ.length=X.N.length
section
variable {X:Cx}{ae:List (Addr×Obj)}{σ:List (Option V)}{H H':Hp}{s:Shared}{h':Heap}
theorem Cx.Ok.nofr(ok:X.Ok){b:Addr}{o:Obj}(e:X.base.get? b=some o):b∉X.fs:=λhb=>by
 have:=(ok.funs.mem hb).1
 rw[e] at this;cases this
theorem Inv.bs(I:Inv X ae σ H s): ∀b o,X.base.get? b=some o->s.heap.get? b=some o/\H b=none:=λb o e=>
 ⟨I.base.keep b o (I.ok.bs b o e).1 (I.ok.bs b o e).2 (I.ok.nofr e) (I.ok.noex b o e),I.base.free b o (I.ok.bs b o e).1 (I.ok.bs b o e).2 (I.ok.noex b o e)⟩
theorem Inv.bk(I:Inv X ae σ H s): ∀b o,X.base.get? b=some o->s.heap.get? b=some o:=λb o e=>(I.bs b o e).1
theorem Inv.mod(I:Inv X ae σ H s):Mod X.K X.mg X.base:=I.ok.mod
theorem Inv.kIn(I:Inv X ae σ H s):X.K.In s.heap:=I.ok.mod.kin.keeps I.bk
theorem Inv.lt(I:Inv X ae σ H s):X.env.locals<s.heap.objs.size:=let⟨_,hn,_⟩:=I.loc;hn.lt
theorem Inv.sz(I:Inv X ae σ H s):X.s₀.heap.objs.size<=s.heap.objs.size:=Nat.le_trans I.ok.above (Nat.le_of_lt I.lt)
theorem Inv.nofs(I:Inv X ae σ H s){a:Addr}(h:s.heap.objs.size<=a):a∉X.fs:=λhb=>by
 obtain⟨_,o,ho,_⟩:=I.ok.funs.mem hb
 exact absurd (Nat.lt_of_lt_of_le (Heap.lt_size ho) (Nat.le_trans I.sz h)) (Nat.lt_irrefl _)
theorem Inv.cne(I:Inv X ae σ H s): ∀x c,X.env.cells.lookup x=some c->c≠X.env.locals:=λx c e z=>by
 obtain⟨v,o,ho,hd⟩:=I.cell x c e
 obtain⟨m,⟨o',es,ep,ho',hd',_⟩,_⟩:=I.loc
 rw[z,ho'] at ho;cases ho;rw[hd'] at hd;cases hd
theorem Inv.funs(I:Inv X ae σ H s):s.heap.FunFrames X.base X.outer:=by
 have all: ∀(l:List Env),(∀b∈frs l,b∈X.fs)->X.s₀.heap.FunFrames X.base l->s.heap.FunFrames X.base l:=by
  intro l
  induction l with
  |nil=>intro _ _;trivial
  |cons env r ih=>
   intro hs hl;obtain⟨hk,⟨L,o,hf,hn,ho,hd⟩,hr⟩:=hl
   have hL:L∈X.fs:=hs L (by unfold frs;rw[List.filterMap_cons,hf];exact List.mem_cons_self)
   obtain⟨sl,e⟩:=I.base.slot L o ho (I.ok.frf L hL) hL λz=>I.ok.exfs L z hL
   exact⟨hk,⟨L,_,hf,hn,e,hd⟩,ih (λb hb=>hs b (by unfold frs;rw[List.filterMap_cons,hf];exact List.mem_cons_of_mem _ hb)) hr⟩
 exact all X.outer (λ_ hb=>hb) I.ok.funs
theorem Inv.stack(I:Inv X ae σ H s):s.heap.FunFrames X.base X.stack:=by
 rcases I.ok.stk with e|⟨e,hf⟩
 ·rw[e];exact I.funs
 ·rw[e]
  obtain⟨m,hn,_⟩:=I.loc
  refine .cons (by rw[I.ok.kind];decide) hf hn ?_ I.funs
  exact Heap.get?_none_of_le (Nat.le_trans I.ok.bsz I.ok.above)
theorem Inv.stkSub(I:Inv X ae σ H s): ∀b∈frs X.stack,b∈X.env.locals::X.fs:=λb hb=>by
 rcases I.ok.stk with e|⟨e,hf⟩
 ·rw[e] at hb;exact List.mem_cons_of_mem _ hb
 ·rw[e] at hb
  unfold frs at hb;rw[List.filterMap_cons,hf] at hb;exact hb
theorem Inv.stkFree(I:Inv X ae σ H s): ∀b∈frs X.stack,H b=none:=λb hb=>by
 rcases List.mem_cons.mp (I.stkSub b hb) with e|hb
 ·rw[e];exact I.free
 ·obtain⟨_,o,ho,_⟩:=I.ok.funs.mem hb
  exact I.base.free b o ho (I.ok.frf b hb) λz=>I.ok.exfs b z hb
theorem Inv.step {g':Array GenState}{t':Nat}{d':Drawn}{ch:List Addr}(I:Inv X ae σ H s)
 (hch: ∀b∈ch,(b∈X.ex\/X.s₀.heap.objs.size<=b)/\b≠X.env.locals/\(∀x c,X.env.cells.lookup x=some c->c≠b)/\ ∀p∈X.pn++ae,p.1≠b)
 (keep: ∀b o,b≠X.env.locals->b∉X.fs->b∉ch->s.heap.get? b=some o->H b=none->h'.get? b=some o)
 (slot: ∀b o,b≠X.env.locals->b∈X.fs->b∉ch->s.heap.get? b=some o->H b=none-> ∃sl,h'.get? b=some {o with slots:=sl}) (free: ∀b o,b∉ch->s.heap.get? b=some o->H b=none->H' b=none)
 (there: ∀b o,b∉ch->s.heap.get? b=some o-> ∃o',h'.get? b=some o')
 (tups: ∀b xs,H b=some (.tup xs)->H' b=some (.tup xs)) (frzs: ∀b o u,H b=some (.frz o u)->H' b=some (.frz o u)) (tbls: ∀b ps,H b=some (.tbl ps)-> ∃more,H' b=some (.tbl (ps++more)))
 (ns: ∀m,s.heap.Ns X.env.locals m->h'.Ns X.env.locals m) (hok:HOk X.prog X.w H' h') (hg:AllBare g'):
 Inv X ae σ H' {s with heap:=h',gens:=g',drawn:=d',toks:=t'}:=by
 have neL: ∀b o,X.s₀.heap.get? b=some o->b≠X.env.locals:=λb o e=>Nat.ne_of_lt (Nat.lt_of_lt_of_le (Heap.lt_size e) I.ok.above)
 have neC: ∀b o,X.s₀.heap.get? b=some o->b∉X.ex->b∉ch:=λb o e hx hb=>by
  rcases(hch b hb).1 with z|z
  ·exact hx z
  ·exact absurd (Nat.lt_of_lt_of_le (Heap.lt_size e) z) (Nat.lt_irrefl _)
 have cellK: ∀x c,X.env.cells.lookup x=some c-> ∀v,s.heap.IsCell c v->h'.IsCell c v:=λx c e v hq_=>by
  obtain⟨o,ho,hd⟩:=hq_
  have nch:c∉ch:=λz=>(hch c z).2.2.1 x c e rfl
  by_cases hc:c∈X.fs
  ·obtain⟨sl,q⟩:=slot c o (I.cne x c e) hc nch ho (I.freeC x c e)
   exact⟨_,q,hd⟩
  ·exact⟨o,keep c o (I.cne x c e) hc nch ho (I.freeC x c e),hd⟩
 refine⟨I.ok,I.os,hg,⟨λb o e n hb hx=>?_,λb o e n hb hx=>?_,λb o e n hx=>?_,λb o e hx=>?_,λb xs e=>tups b xs (I.base.tups b xs e),λb o xs e=>frzs b o xs (I.base.frzs b o xs e),λb ps e=>?_⟩,?_,λx c e=>?_,?_,λx c e=>?_,λp hp=>?_,hok,I.len⟩
 ·exact keep b o (neL b o e) hb (neC b o e hx) (I.base.keep b o e n hb hx) (I.base.free b o e n hx)
 ·obtain⟨sl,e1⟩:=I.base.slot b o e n hb hx
  obtain⟨sl',e2⟩:=slot b _ (neL b o e) hb (neC b o e hx) e1 (I.base.free b o e n hx)
  exact⟨sl',e2⟩
 ·obtain⟨o',e1⟩:=I.base.there b o e hx
  exact free b o' (neC b o e hx) e1 (I.base.free b o e n hx)
 ·obtain⟨o',e1⟩:=I.base.there b o e hx
  exact there b o' (neC b o e hx) e1
 ·obtain⟨m1,e1⟩:=I.base.tbls b ps e
  obtain⟨m2,e2⟩:=tbls b _ e1
  exact⟨m1++m2,by rw[e2,Array.append_assoc]⟩
 ·obtain⟨m,hn,hl⟩:=I.loc
  refine⟨m,ns m hn,λi x v e1 e2 e3=>?_⟩
  obtain⟨u,r,l⟩:=hl i x v e1 e2 e3
  refine⟨u,r,?_⟩
  rcases l with l|⟨k,c,e,z⟩
  ·exact .inl l
  ·exact .inr ⟨k,c,e,cellK x c e _ z⟩
 ·obtain⟨v,z⟩:=I.cell x c e
  exact⟨v,cellK x c e v z⟩
 ·obtain⟨m,⟨o,_,_,ho,_⟩,_⟩:=I.loc
  exact free _ o (λz=>(hch _ z).2.1 rfl) ho I.free
 ·obtain⟨v,o,ho,hd⟩:=I.cell x c e
  exact free c o (λz=>(hch c z).2.2.1 x c e rfl) ho (I.freeC x c e)
 ·obtain⟨e,n,ne,nf,d⟩:=I.pin p hp
  have nch:p.1∉ch:=λz=>(hch p.1 z).2.2.2 p hp rfl
  exact⟨keep p.1 p.2 ne nf nch e n,free p.1 p.2 nch e n,ne,nf,d⟩
theorem Inv.un {t':Nat}(I:Inv X ae σ H s)(u:Un X.fs [] H H' s.heap h')(hok:HOk X.prog X.w H' h'):Inv X ae σ H' {s with heap:=h',toks:=t'}:=by
 obtain⟨m,⟨o,es,ep,ho,r⟩,_⟩:=id I.loc
 obtain⟨sl,hL⟩:=u.any ho I.free (by simp)
 exact I.step (g':=s.gens) (d':=s.drawn) (ch:=[]) (λ_ z=>nomatch z) (λb o _ hb _ e n=>u.keep b o e n hb (by simp)) (λb o _ hb _ e n=>u.slot b o e n hb (by simp)) (λb o _ e n=>u.free b o e n (by simp)) (λb o _ e=>u.there b o e (by simp)) u.tups u.frzs u.tbls (λm' hm=>by
  obtain⟨o',es',ep',ho',r'⟩:=hm
  rw[ho] at ho';cases ho';exact⟨_,es',ep',hL,r'⟩) hok I.bare
theorem Inv.call {g':Array GenState}{t':Nat}{d':Drawn}{ch:List Addr}(I:Inv X ae σ H s)(u:Un (frs X.stack) ch H H' s.heap h')(hok:HOk X.prog X.w H' h')(hg:AllBare g')
 (hch: ∀b∈ch,(b∈X.ex\/X.s₀.heap.objs.size<=b)/\b≠X.env.locals/\(∀x c,X.env.cells.lookup x=some c->c≠b)/\ ∀p∈X.pn++ae,p.1≠b):
 Inv X ae σ H' {s with heap:=h',gens:=g',drawn:=d',toks:=t'}:=by
 obtain⟨m,⟨o,es,ep,ho,r⟩,_⟩:=id I.loc
 obtain⟨sl,hL⟩:=u.any ho I.free λz=>(hch _ z).2.1 rfl
 exact I.step (ch:=ch) hch (λb o hL hb hc e n=>u.keep b o e n (λz=>(List.mem_cons.mp (I.stkSub b z)).elim hL hb) hc) (λb o _ _ hc e n=>u.any e n hc) (λb o hc e n=>u.free b o e n hc) (λb o hc e=>u.there b o e hc) u.tups u.frzs u.tbls (λm' hm=>by
  obtain⟨o',es',ep',ho',r'⟩:=hm
  rw[ho] at ho';cases ho';exact⟨_,es',ep',hL,r'⟩) hok hg
theorem Inv.turned {t':Nat}{it:Addr}(I:Inv X ae σ H s)(k: ∀b o,b≠it->s.heap.get? b=some o->h'.get? b=some o)(hn:H it=none)(hL:it≠X.env.locals)
 (h1:it∈X.ex\/X.s₀.heap.objs.size<=it) (h2: ∀x c,X.env.cells.lookup x=some c->c≠it) (h3: ∀p∈X.pn++ae,p.1≠it):Inv X ae σ H {s with heap:=h',toks:=t'}:=by
 have nit: ∀b u,H b=some u->b≠it:=λb u e z=>by rw[z,hn] at e;cases e
 refine I.step (g':=s.gens) (d':=s.drawn) (ch:=[it]) (λb hb=>?_) (λb o _ _ hc e _=>k b o (λz=>hc (by simp[z])) e) (λb o _ _ hc e _=>⟨o.slots,k b o (λz=>hc (by simp[z])) e⟩) (λ_ _ _ _ n=>n)
  (λb o hc e=>⟨o,k b o (λz=>hc (by simp[z])) e⟩) (λ_ _ e=>e) (λ_ _ _ e=>e) (λb ps e=>⟨#[],by rw[e];simp⟩) (λm hm=>?_) (λb u e=>?_) I.bare
 ·have e:b=it:=by simpa using hb
  subst e;exact⟨h1,hL,h2,h3⟩
 ·obtain⟨o,es,ep,ho,r⟩:=hm
  exact⟨o,es,ep,k _ o (Ne.symm hL) ho,r⟩
 ·refine(I.hok b u e).stay (λc v hc q=>k c v ?_ q) (λ_ q=>q) λ_ _ q=>q
  rcases hc with z|z
  ·rw[z];exact nit b u e
  ·exact nit c _ z
theorem Inv.tok(I:Inv X ae σ H s)(t:Nat):Inv X ae σ H {s with toks:=t}:=I.un (h':=s.heap) (t':=t) Un.refl I.hok
theorem Inv.kept {t':Nat}(I:Inv X ae σ H s)(k: ∀b u,s.heap.get? b=some u->h'.get? b=some u):Inv X ae σ H {s with heap:=h',toks:=t'}:=I.un (Un.kept k) (I.hok.kept k)
theorem Inv.laid {a:Addr}{o:HO}{t':Nat}(I:Inv X ae σ H s)(k: ∀b u,s.heap.get? b=some u->h'.get? b=some u)(hp:s.heap.objs.size<=a)(new:ObjOk X.prog X.w (cw H a o) h' a o):
 Inv X ae σ (cw H a o) {s with heap:=h',toks:=t'}:=I.un (Un.laid k hp (I.hok.fresh hp)) (I.hok.laid k hp new)
theorem Inv.write {x e:Addr}{o:HO}{t':Nat}(I:Inv X ae σ H s)(mu:CK (H x))(he:e=x\/H e=some (.own x))(k: ∀b u,b≠e->s.heap.get? b=some u->h'.get? b=some u)(heo: ∃u,h'.get? e=some u)
 (new:ObjOk X.prog X.w (cw H x o) h' x o):Inv X ae σ (cw H x o) {s with heap:=h',toks:=t'}:=I.un (Un.write mu he k heo) (I.hok.write mu he k heo new)
theorem Inv.pins_of {pins':List (Addr×Obj)}(I:Inv X ae σ H s)(h: ∀p∈pins',s.heap.get? p.1=some p.2/\H p.1=none/\p.1≠X.env.locals/\p.1∉X.fs/\ ∀v,p.2.data≠ .cell v):Inv X pins' σ H s:=
 ⟨I.ok,I.os,I.bare,I.base,I.loc,I.cell,I.free,I.freeC,λp hp=>(List.mem_append.mp hp).elim (λz=>I.pin p (List.mem_append_left _ z)) (h p),I.hok,I.len⟩
theorem pN {N:List Str}(hN:N.Nodup){i j:Nat}{x:Str}(a:N[i]? =some x)(b:N[j]? =some x):i=j:=by
 obtain⟨h1,e1⟩:=List.getElem?_eq_some_iff.mp a
 obtain⟨h2,e2⟩:=List.getElem?_eq_some_iff.mp b
 exact(List.getElem_inj hN).mp (e1.trans e2.symm)
theorem nH {M:Model}{A:Around}{E:Value->Shared->Prop}{i:Nat}{x:Str}{v:V}{u:Value}{Q:Unit->Shared->Prop}(I:Inv X ae σ H s)(hN:X.N.Nodup)(hi:X.N[i]? =some x)(hx:xc X.env.scope x)(r:RelV v u)
 (h: ∀s',Inv X ae (σ.set i (some v)) H s'->(∃a,Heap.SameBut a s.heap s'.heap/\(a=X.env.locals\/X.env.cells.lookup x=some a))->Q () s') (hf:X.fn x=true\/X.env.scope.names.lookup x=some .local:=by first|exact .inl rfl|exact .inr rfl|assumption):wpAny M A (storeName X.env x u) Q E s:=by
 obtain⟨m,hn,hl⟩:=id I.loc
 have hcls:(X.env.scope.kind== .class||(X.env.scope.kind== .module&&X.env.locals !=X.env.globals))=false:=by rw[I.ok.kind];rfl
 have hiσ:i<σ.length:=by rw[I.len];exact(List.getElem?_eq_some_iff.mp hi).1
 have cne:=I.cne
 have tracked: ∀ {a:Addr} {h':Heap},(∃o,s.heap.get? a=some o/\H a=none)->Heap.SameBut a s.heap h'->HOk X.prog X.w H h':=λ{a h'} ha hs b ob e=>by
  obtain⟨_,_,hfree⟩:=ha
  refine(I.hok b ob e).stay (λc w' hc q=>(hs.2 c ?_).trans q) (λ_ q=>q) λ_ _ q=>q
  rintro rfl
  rcases hc with rfl|hc
  ·rw[hfree] at e;cases e
  ·rw[hfree] at hc;cases hc
 rcases hx with hk|hk
 ·refine wpAny_storeName_local hk hn (λh' hn' hs=>?_) hcls
  obtain⟨oL,_,_,hoL,_⟩:=id hn
  refine h _ ⟨I.ok,I.os,I.bare,⟨λb o e n hb hx=>?_,λb o e n hb hx=>?_,I.base.free,λb o e hx=>?_,I.base.tups,I.base.frzs,I.base.tbls⟩,⟨_,hn',λj y v' e1 e2 e3=>?_⟩,λy c e=>?_,I.free,I.freeC,λp hp=>?_,tracked ⟨oL,hoL,I.free⟩ hs,by simpa using I.len⟩ ⟨_,hs,.inl rfl⟩
  ·exact(hs.2 b (Nat.ne_of_lt (Nat.lt_of_lt_of_le (Heap.lt_size e) I.ok.above))).trans (I.base.keep b o e n hb hx)
  ·obtain⟨sl,e1⟩:=I.base.slot b o e n hb hx
   exact⟨sl,(hs.2 b (Nat.ne_of_lt (Nat.lt_of_lt_of_le (Heap.lt_size e) I.ok.above))).trans e1⟩
  ·obtain⟨o',e1⟩:=I.base.there b o e hx
   exact⟨o',(hs.2 b (Nat.ne_of_lt (Nat.lt_of_lt_of_le (Heap.lt_size e) I.ok.above))).trans e1⟩
  ·by_cases hj:j=i
   ·subst hj
    rw[hi] at e1;cases e1;rw[List.getElem?_set_self hiσ] at e2;cases e2
    exact⟨u,r,.inl ⟨hk,by simp⟩⟩
   ·rw[List.getElem?_set_ne (Ne.symm hj)] at e2
    obtain⟨u',r',q⟩:=hl j y v' e1 e2 e3
    refine⟨u',r',?_⟩
    rcases q with⟨k,e⟩|⟨k,c,e,z⟩
    ·refine .inl ⟨k,?_⟩
     have:y≠x:=λe=>hj (pN hN e1 (e▸hi))
     simp[this,e]
    ·exact .inr ⟨k,c,e,z.sameBut hs (cne y c e)⟩
  ·obtain⟨w',z⟩:=I.cell y c e
   exact⟨w',z.sameBut hs (cne y c e)⟩
  ·obtain⟨e,n,ne,nf,d⟩:=I.pin p hp
   exact⟨(hs.2 p.1 ne).trans e,n,ne,nf,d⟩
 ·have hfn:X.fn x=true:=by
   rcases hf with z|z
   ·exact z
   ·rw[z] at hk;cases hk
  obtain⟨c,hc⟩:=I.ok.has x (.inl hk)
  obtain⟨w',z⟩:=I.cell x c hc
  refine wpAny_storeName_cell I.ok.kind hk hc z (λh' hc' hs=>?_)
  obtain⟨oc,hoc,hocd⟩:=id z
  refine h {s with heap:=h'} ⟨I.ok,I.os,I.bare,⟨λb o e n hb hx=>?_,λb o e n hb hx=>?_,I.base.free,λb o e hx=>?_,I.base.tups,I.base.frzs,I.base.tbls⟩,⟨m,hn.sameBut hs (Ne.symm (cne x c hc)),λj y v' e1 e2 e3=>?_⟩,λy c' e=>?_,I.free,I.freeC,λp hp=>?_,tracked ⟨oc,hoc,I.freeC x c hc⟩ hs,by simpa using I.len⟩ ⟨c,hs,.inr hc⟩
  ·exact(hs.2 b (Nat.ne_of_lt (Nat.lt_of_lt_of_le (Heap.lt_size e) (I.ok.cab x c hfn hc)))).trans (I.base.keep b o e n hb hx)
  ·obtain⟨sl,e1⟩:=I.base.slot b o e n hb hx
   exact⟨sl,(hs.2 b (Nat.ne_of_lt (Nat.lt_of_lt_of_le (Heap.lt_size e) (I.ok.cab x c hfn hc)))).trans e1⟩
  ·obtain⟨o',e1⟩:=I.base.there b o e hx
   exact⟨o',(hs.2 b (Nat.ne_of_lt (Nat.lt_of_lt_of_le (Heap.lt_size e) (I.ok.cab x c hfn hc)))).trans e1⟩
  ·by_cases hj:j=i
   ·subst hj
    rw[hi] at e1;cases e1;rw[List.getElem?_set_self hiσ] at e2;cases e2
    exact⟨u,r,.inr ⟨.inl hk,c,hc,hc'⟩⟩
   ·rw[List.getElem?_set_ne (Ne.symm hj)] at e2
    obtain⟨u',r',q⟩:=hl j y v' e1 e2 e3
    refine⟨u',r',?_⟩
    rcases q with q|⟨k,c',e,z'⟩
    ·exact .inl q
    ·refine .inr ⟨k,c',e,z'.sameBut hs ?_⟩
     rintro rfl
     exact hj (pN hN e1 (I.ok.inj _ _ _ e hc▸hi))
  ·by_cases hcc:c'=c
   ·subst hcc;exact⟨_,hc'⟩
   ·obtain⟨w2,z2⟩:=I.cell y c' e
    exact⟨w2,z2.sameBut hs hcc⟩
  ·obtain⟨e,n,ne,nf,d⟩:=I.pin p hp
   refine⟨(hs.2 p.1 ?_).trans e,n,ne,nf,d⟩
   intro q;rw[q,hoc] at e;have q':oc=p.2:=Option.some.inj e
   exact d w' (by rw[<-q'];exact hocd)
theorem lT {M:Model}{A:Around}{E:Value->Shared->Prop}{i:Nat}{x:Str}{v:V}{u:Value}{Q:Unit->Shared->Prop}(I:Inv X ae σ H s)(hN:X.N.Nodup)(hi:X.N[i]? =some x)(hx:xc X.env.scope x)(r:RelV v u)
 (h: ∀s',Inv X ae (σ.set i (some v)) H s'->Q () s') (hf:X.fn x=true\/X.env.scope.names.lookup x=some .local:=by first|exact .inl rfl|exact .inr rfl|assumption):wpAny M A (storeName X.env x u) Q E s:=
 nH I hN hi hx r (λs' I' _=>h s' I') hf
theorem Inv.call' {s':Shared}{ch:List Addr}(I:Inv X ae σ H s)(ho:s'.os=s.os)(u:Un (frs X.stack) ch H H' s.heap s'.heap)(hok:HOk X.prog X.w H' s'.heap)(hg:AllBare s'.gens)
 (hch: ∀b∈ch,(b∈X.ex\/X.s₀.heap.objs.size<=b)/\b≠X.env.locals/\(∀x c,X.env.cells.lookup x=some c->c≠b)/\ ∀p∈X.pn++ae,p.1≠b):Inv X ae σ H' s':=by
 obtain⟨h',g',d',t',o'⟩:=s'
 have e:o'=s.os:=ho
 subst e;exact I.call (g':=g') (t':=t') (d':=d') u hok hg hch
end
abbrev XK:=Value->Option Addr->Hp->Prop
abbrev St:=List (Option V)
abbrev VK:=V->Hp->Prop
abbrev TE:=St->Hp->VK->Prop
abbrev TT:=St->Hp->(Bool->Hp->Prop)->Prop
abbrev TA:=St->Hp->(List V->Hp->Prop)->Prop
structure Ends where
 nx:St->Hp->Prop
 rt:VK
 bk:St->Hp->Prop:=λ_ _=>False
 ct:St->Hp->Prop:=λ_ _=>False
abbrev TS:=Ends->St->Hp->Prop
def EP(X:Cx)(ae:List (Addr×Obj))(σ:St)(Q:VK)(u:Value)(s':Shared):Prop:= ∃v H',Inv X ae σ H' s'/\RelV v u/\Q v H'
def TP(X:Cx)(ae:List (Addr×Obj))(σ:St)(Q:Bool->Hp->Prop)(b:Bool)(s':Shared):Prop:= ∃H',Inv X ae σ H' s'/\Q b H'
def AP(X:Cx)(ae:List (Addr×Obj))(σ:St)(Q:List V->Hp->Prop)(us:List Value)(s':Shared):Prop:= ∃vs H',Inv X ae σ H' s'/\Vals vs us/\Q vs H'
def SP(X:Cx)(ae:List (Addr×Obj))(D:Ends)(f:Flow)(s':Shared):Prop:=
 match f with
 | .next=> ∃σ' H',Inv X ae σ' H' s'/\D.nx σ' H'
 | .brk=> ∃σ' H',Inv X ae σ' H' s'/\D.bk σ' H'
 | .cont=> ∃σ' H',Inv X ae σ' H' s'/\D.ct σ' H'
 | .ret u=> ∃v σ' H',Inv X ae σ' H' s'/\RelV v u/\D.rt v H'
def PE(X:Cx)(e:Expr)(t:TE):Prop:=
 ∀(ae:List (Addr×Obj)) (s:Shared) (σ:St) (H:Hp) (Q:VK),Inv X ae σ H s->t σ H Q->wpAny (model X.prog X.w) X.A (eval e X.env) (EP X ae σ Q) X.xe s
def PT(X:Cx)(e:Expr)(t:TT):Prop:=
 ∀(ae:List (Addr×Obj)) (s:Shared) (σ:St) (H:Hp) (Q:Bool->Hp->Prop),Inv X ae σ H s->t σ H Q->wpAny (model X.prog X.w) X.A (isTrue e X.env (eval e X.env)) (TP X ae σ Q) X.xe s
def PW(X:Cx)(e:Expr)(t:TT):Prop:=
 ∀(whole:Sem Value) (ae:List (Addr×Obj)) (s:Shared) (σ:St) (H:Hp) (Q:Bool->Hp->Prop),Inv X ae σ H s->t σ H Q->wpAny (model X.prog X.w) X.A (isTrue e X.env whole) (TP X ae σ Q) X.xe s
theorem PW.pt {X:Cx}{e:Expr}{t:TT}(h:PW X e t):PT X e t:=h _
def PA(X:Cx)(es:List Expr)(t:TA):Prop:=
 ∀(pos:Pos) (ae:List (Addr×Obj)) (s:Shared) (σ:St) (H:Hp) (Q:List V->Hp->Prop),Inv X ae σ H s->t σ H Q->wpAny (model X.prog X.w) X.A (spliced (backTo pos (starEach es X.env))) (AP X ae σ Q) X.xe s
def PS(X:Cx)(st:Stmt)(t:TS):Prop:=
 ∀(ae:List (Addr×Obj)) (s:Shared) (σ:St) (H:Hp) (D:Ends),Inv X ae σ H s->t D σ H->wpAny (model X.prog X.w) X.A (exec st X.env) (SP X ae D) X.xe s
def PSs(X:Cx)(st:List Stmt)(t:TS):Prop:=
 ∀(ae:List (Addr×Obj)) (s:Shared) (σ:St) (H:Hp) (D:Ends),Inv X ae σ H s->t D σ H->wpAny (model X.prog X.w) X.A (execs st X.env) (SP X ae D) X.xe s
theorem cI {α:Type}{t:Sem α}{Q Q':α->Shared->Prop}{M:Model}{A:Around}{E:Value->Shared->Prop}{s:Shared}(h:wpAny M A t Q E s)(hQ: ∀a s,Q a s->Q' a s):wpAny M A t Q' E s:=wpAny_mono h hQ λ_ _ x=>x
section
variable {X:Cx}
def Ce(i:Nat):TE:=λσ H Q=> ∃v,σ[i]? =some (some v)/\Q v H
def tC(v:V):TE:=λ_ H Q=>Q v H
theorem AT {i:Nat}{x:Str}{pos:Pos}(hN:X.N[i]? =some x)(hv:rf X.env.scope x)(hd:(x==("__debug__":Str))=false:=by decide)(hcd:(x==("__classdict__":Str))=false:=by decide):PE X (.Name x pos) (Ce i):=by
 intro ae s σ H Q I h;obtain⟨v,e,h⟩:=h
 obtain⟨m,hn,hl⟩:=I.loc
 obtain⟨u,r,l⟩:=hl i x v hN e hv
 have fin:EP X ae σ Q u s:=⟨v,H,I,r,h⟩
 rcases l with⟨hk,hm⟩|⟨hk,c,hc,hcell⟩
 ·exact wpAny_Name (wpAny_loadName_local I.ok.kind hk hn hm fin) hd
 ·rcases hk with hk|hk
  ·exact wpAny_Name (wpAny_loadName_cell I.ok.kind hk hc hcell fin) hd
  ·exact wpAny_Name (wpAny_loadName_free I.ok.kind hk hc hcell fin hcd) hd
theorem AL {i j pos}:PE X (.Constant (.int i) j pos) (tC (.int i)):=λ_ _ _ H _ I h=>wpAny_Constant_int ⟨.int i,H,I.tok _,⟨_,rfl⟩,h⟩
theorem BE {b j pos}:PE X (.Constant (.bool b) j pos) (tC (.bl b)):=λ_ _ _ H _ I h=>Constant_bool ⟨.bl b,H,I,rfl,h⟩
theorem zi {x j pos}:PE X (.Constant (.str x) j pos) (tC (.str x)):=λ_ _ _ H _ I h=>Calls.Constant_str ⟨.str x,H,I.tok _,⟨_,rfl⟩,h⟩
def Gl(X:Cx)(x:Str):Prop:=X.env.kindOf x=some .globalImplicit
theorem jj {E:Value->Shared->Prop}{ae:List (Addr×Obj)}{s:Shared}{σ:St}{H:Hp}{x:Str}{u:Value}{pos:Pos}{Q:Value->Shared->Prop}(I:Inv X ae σ H s)(hg:Gl X x)(hm:X.mg x=some u)(h:Q u s)
 (hd:(x==("__debug__":Str))=false:=by decide):wpAny (model X.prog X.w) X.A (eval (.Name x pos) X.env) Q E s:=
 Calls.Name_function_global I.ok.kind hg (Calls.loadGlobal_global (by rw[I.ok.glob];exact I.mod.glob.keeps I.bk) hm h) hd
theorem ml {E:Value->Shared->Prop}{ae:List (Addr×Obj)}{s:Shared}{σ:St}{H:Hp}{x:Str}{u:Value}{pos:Pos}{Q:Value->Shared->Prop}(I:Inv X ae σ H s)(hg:Gl X x)(hm:X.mg x=none)(hv:bootBuiltins x=some u)(h:Q u s)
 (hn:x≠"__name__":=by decide) (hd:(x==("__debug__":Str))=false:=by decide):wpAny (model X.prog X.w) X.A (eval (.Name x pos) X.env) Q E s:=by
 obtain⟨mb,h1,h2⟩:=I.mod.blt
 exact Calls.Name_function_global I.ok.kind hg (Calls.loadGlobal_builtin (by rw[I.ok.glob];exact I.mod.glob.keeps I.bk) hm (by rw[I.ok.blt];exact h1.keeps I.bk) ((h2 x hn).trans hv) h) hd
theorem xF {x:Str}{v:V}{u:Value}{pos:Pos}(hg:Gl X x)(hm:X.mg x=some u)(r:RelV v u)(hd:(x==("__debug__":Str))=false:=by decide):PE X (.Name x pos) (tC v):=
 λ_ _ _ H _ I h=>jj I hg hm ⟨v,H,I,r,h⟩ hd
theorem tX {x:Str}{v:V}{u:Value}{pos:Pos}(hg:Gl X x)(hm:X.mg x=none)(hv:bootBuiltins x=some u)(r:RelV v u)(hn:x≠"__name__":=by decide)(hd:(x==("__debug__":Str))=false:=by decide):PE X (.Name x pos) (tC v):=
 λ_ _ _ H _ I h=>ml I hg hm hv ⟨v,H,I,r,h⟩ hn hd
variable {a b:Expr}{ta tb:TE}{pos:Pos}
variable {tA tB':TT}{rest:List Expr}
def CS(t u:TT):TT:=λσ H Q=>t σ H λc H1=>if c=true then u σ H1 Q else Q false H1
def Ek(t u:TT):TT:=λσ H Q=>t σ H λc H1=>if c=true then Q true H1 else u σ H1 Q
def DC(t:TT):TT:=λσ H Q=>t σ H λc H1=>Q (!c) H1
theorem pw_and1(ha:PT X a tA):PW X (.BoolOp .And [a] pos) tA:=by
 intro wh ae s σ H Q I h;refine isTrue_and (cI (ha ae s σ H Q I h) λc s1 e=>?_)
 cases c with
 |true=>exact isTrue_and_nil e
 |false=>exact e
theorem pw_or1(ha:PT X a tA):PW X (.BoolOp .Or [a] pos) tA:=by
 intro wh ae s σ H Q I h;refine isTrue_or (cI (ha ae s σ H Q I h) λc s1 e=>?_)
 cases c with
 |false=>exact isTrue_or_nil e
 |true=>exact e
theorem pw_and(ha:PT X a tA)(hb:PW X (.BoolOp .And (b::rest) pos) tB'):PW X (.BoolOp .And (a::b::rest) pos) (CS tA tB'):=by
 intro wh ae s σ H Q I h;refine isTrue_and (cI (ha ae s σ H _ I h) λc s1 hq_=>?_)
 obtain⟨H1,I1,q1⟩:=hq_
 cases c with
 |true=>exact hb wh ae s1 σ H1 Q I1 q1
 |false=>exact⟨H1,I1,q1⟩
theorem pw_or(ha:PT X a tA)(hb:PW X (.BoolOp .Or (b::rest) pos) tB'):PW X (.BoolOp .Or (a::b::rest) pos) (Ek tA tB'):=by
 intro wh ae s σ H Q I h;refine isTrue_or (cI (ha ae s σ H _ I h) λc s1 hq_=>?_)
 obtain⟨H1,I1,q1⟩:=hq_
 cases c with
 |true=>exact⟨H1,I1,q1⟩
 |false=>exact hb wh ae s1 σ H1 Q I1 q1
theorem z0(ha:PT X a tA):PT X (.UnaryOp .Not a pos) (DC tA):=by
 intro ae s σ H Q I h;exact isTrue_not (ha ae s σ H (λc H1=>Q (!c) H1) I h)
def BS(ta tb:TE):TE:=λσ H Q=>ta σ H λx H1=> ∃c,x=.bl c/\if c=true then tb σ H1 Q else Q (.bl false) H1
def Bq(ta:TE):TE:=λσ H Q=>ta σ H λx H1=> ∃c,x=.bl c/\Q (.bl (!c)) H1
theorem AD {op}{t:TE}(h:PE X a t):PE X (.BoolOp op [a] pos) t:=λae s σ H Q I hw=>BoolOp_one (h ae s σ H Q I hw)
theorem zo(ha:PE X a ta)(hb:PE X (.BoolOp .And (b::rest) pos) tb):PE X (.BoolOp .And (a::b::rest) pos) (BS ta tb):=by
 intro ae s σ H Q I h;refine BoolOp_and (cI (ha ae s σ H _ I h) λv s1 hq_=>?_)
 obtain⟨x,H1,I1,r1,q1⟩:=hq_
 obtain⟨c,rfl,q1⟩:=q1
 cases r1
 refine wpAny_truthy_bool ?_
 cases c with
 |true=>exact hb ae s1 σ H1 Q I1 q1
 |false=>exact⟨.bl false,H1,I1,rfl,q1⟩
theorem Al(ha:PE X a ta):PE X (.UnaryOp .Not a pos) (Bq ta):=by
 intro ae s σ H Q I h;refine UnaryOp_ (cI (ha ae s σ H _ I h) λv s1 hq_=>?_)
 obtain⟨x,H1,I1,r1,q1⟩:=hq_
 obtain⟨c,rfl,q1⟩:=q1
 cases r1
 exact not_of (wpAny_truthy_bool ⟨.bl (!c),H1,I1,rfl,q1⟩)
def Ez(t:TT)(ta tb:TE):TE:=λσ H Q=>t σ H λc H1=>if c=true then ta σ H1 Q else tb σ H1 Q
theorem wW {c:Expr}(hc:PT X c tA)(ha:PE X a ta)(hb:PE X b tb):PE X (.IfExp c a b pos) (Ez tA ta tb):=by
 intro ae s σ H Q I h;refine wpAny_IfExp (cI (hc ae s σ H _ I h) λd s1 hq_=>?_)
 obtain⟨H1,I1,q1⟩:=hq_
 cases d with
 |true=>exact ha ae s1 σ H1 Q I1 q1
 |false=>exact hb ae s1 σ H1 Q I1 q1
end
def SqL(K:W.Frag)(H:Hp)(a:Addr)(xs:List V):Prop:=
 Rd H a (.lst xs)\/
  ∃(o:Obj) (its:Array Value) (n:Nat),K.lookup a=some o/\o.cls=.type "list"/\o.dict=none/\o.data=.seq its n/\its.size<=sizeLine/\Vals xs its.toList
def SqT(K:W.Frag)(H:Hp)(a:Addr)(xs:List V):Prop:=
 Rd H a (.tup xs)\/
  ∃(o:Obj) (its:Array Value) (n:Nat),K.lookup a=some o/\o.cls=.type "tuple"/\o.data=.seq its n/\its.size<=sizeLine/\Vals xs its.toList/\o.dict=none
def D4:Value->Option V
 | .none=>some .non
 | .bool b=>some (.bl b)
 | .int i _=>some (.int i)
 | .str x _=>some (.str x)
 | .bytes b _=>some (.byt b)
 | .float b _=>some (.flt b)
 | .ref a=>some (.ref a)
 | .type n=>some (.ty n)
 |_=>none
theorem RelV.abs {x:V}{u:Value}(r:RelV x u):D4 u=some x:=by
 cases x with
 |non=>cases r;rfl
 |bl _=>cases r;rfl
 |int _=>obtain⟨t,rfl⟩:=r;rfl
 |str _=>obtain⟨t,rfl⟩:=r;rfl
 |byt _=>obtain⟨t,rfl⟩:=r;rfl
 |flt _=>obtain⟨t,rfl⟩:=r;rfl
 |ref _=>cases r;rfl
 |ty _=>cases r;rfl
theorem RelV.inj {x y:V}{u:Value}(r:RelV x u)(q:RelV y u):x=y:=Option.some.inj (r.abs.symm.trans q.abs)
theorem Vals.inj: ∀ {xs ys:List V} {us:List Value},Vals xs us->Vals ys us->xs=ys
 |_,_,_,.nil,.nil=>rfl
 |_,_,_,.cons r t,.cons r' t'=>by rw[r.inj r',Vals.inj t t']
section
variable {X:Cx}{ae:List (Addr×Obj)}{σ:St}{H:Hp}{s:Shared}{a:Addr}{xs ys:List V}
theorem SqL.of {K:W.Frag}(h:H a=some (.lst xs)):SqL K H a xs:=.inl (.inl h)
theorem SqT.of {K:W.Frag}(h:H a=some (.tup xs)):SqT K H a xs:=.inl (.inl h)
theorem Inv.list(I:Inv X ae σ H s)(h:SqL X.K H a xs): ∃its:List Value,Vals xs its/\PlainL s.heap a its.toArray/\xs.length<=sizeLine:=by
 rcases h with h|⟨o,its,n,hk,hc,hd,hs,hz,r⟩
 ·obtain⟨z,its,n,r,e⟩:=h.ok I.hok
  exact⟨its,r,⟨_,n,e,rfl,rfl,rfl⟩,z⟩
 ·refine⟨its.toList,r,⟨o,n,I.kIn a o hk,hc,hd,by simpa using hs⟩,?_⟩
  have e:=r.length
  simp only[Array.length_toList] at e;omega
theorem Inv.tuple(I:Inv X ae σ H s)(h:SqT X.K H a xs): ∃its:List Value,Vals xs its/\IsTup s.heap a its.toArray/\xs.length<=sizeLine:=by
 rcases h with h|⟨o,its,n,hk,hc,hs,hz,r,_⟩
 ·obtain⟨z,its,r,p,_⟩:=h.ok I.hok
  exact⟨its,r,p,z⟩
 ·refine⟨its.toList,r,⟨o,I.kIn a o hk,hc,n,by simpa using hs⟩,?_⟩
  have e:=r.length
  simp only[Array.length_toList] at e;omega
theorem Inv.tupleN(I:Inv X ae σ H s)(h:SqT X.K H a xs):(∃o,s.heap.get? a=some o/\o.cls=.type "tuple")/\ ∃o,s.heap.get? a=some o/\o.dict=none:=by
 rcases h with h|⟨o,its,n,hk,hc,hs,hz,r,hd⟩
 ·obtain⟨z,its,r,⟨ob,e,c,_⟩,o2,e2,d2⟩:=h.ok I.hok
  exact⟨⟨ob,e,c⟩,o2,e2,d2⟩
 ·exact⟨⟨o,I.kIn a o hk,hc⟩,o,I.kIn a o hk,hd⟩
theorem Inv.list_inj(I:Inv X ae σ H s)(h:SqL X.K H a xs)(h':SqL X.K H a ys):xs=ys:=by
 obtain⟨its,r,⟨o,n,e,_,_,d⟩,_⟩:=I.list h
 obtain⟨its',r',⟨o',n',e',_,_,d'⟩,_⟩:=I.list h'
 rw[e] at e';cases e';rw[d] at d';injection d' with d1 _
 have:its=its':=by simpa using congrArg Array.toList d1
 subst this;exact r.inj r'
theorem Inv.tuple_inj(I:Inv X ae σ H s)(h:SqT X.K H a xs)(h':SqT X.K H a ys):xs=ys:=by
 obtain⟨its,r,⟨o,e,_,n,d⟩,_⟩:=I.tuple h
 obtain⟨its',r',⟨o',e',_,n',d'⟩,_⟩:=I.tuple h'
 rw[e] at e';cases e';rw[d] at d';injection d' with d1 _
 have:its=its':=by simpa using congrArg Array.toList d1
 subst this;exact r.inj r'
end
abbrev Cx.wish(X:Cx)(E:Value->Shared->Prop):Cx:={X with xe:=E}
abbrev Cx.nox(X:Cx):Cx:=X.wish λ_ _=>False
theorem Cx.Ok.wish {X:Cx}(ok:X.Ok)(E:Value->Shared->Prop):(X.wish E).Ok:=
 ⟨ok.mod,ok.kind,ok.glob,ok.blt,ok.above,ok.inj,ok.has,ok.cab,ok.hd,ok.frames,ok.stk,ok.exf,ok.bs,ok.bsz,ok.noex,ok.exfs,ok.funs,ok.frf⟩
theorem Cx.Ok.unwish {X:Cx}{E:Value->Shared->Prop}(ok:(X.wish E).Ok):X.Ok:=
 ⟨ok.mod,ok.kind,ok.glob,ok.blt,ok.above,ok.inj,ok.has,ok.cab,ok.hd,ok.frames,ok.stk,ok.exf,ok.bs,ok.bsz,ok.noex,ok.exfs,ok.funs,ok.frf⟩
section
variable {X:Cx}{ae:List (Addr×Obj)}{σ:St}{H:Hp}{s:Shared}{E:Value->Shared->Prop}
theorem Inv.wish(I:Inv X ae σ H s)(E:Value->Shared->Prop):Inv (X.wish E) ae σ H s:=⟨I.ok.wish E,I.os,I.bare,I.base,I.loc,I.cell,I.free,I.freeC,I.pin,I.hok,I.len⟩
theorem Inv.unwish(I:Inv (X.wish E) ae σ H s):Inv X ae σ H s:=⟨I.ok.unwish,I.os,I.bare,I.base,I.loc,I.cell,I.free,I.freeC,I.pin,I.hok,I.len⟩
theorem SP.unwish {D:Ends}{f:Flow}{s':Shared}(h:SP (X.wish E) ae D f s'):SP X ae D f s':=by
 cases f with
 |next=>obtain⟨σ',H',I,q⟩:=h;exact⟨σ',H',I.unwish,q⟩
 |brk=>obtain⟨σ',H',I,q⟩:=h;exact⟨σ',H',I.unwish,q⟩
 |cont=>obtain⟨σ',H',I,q⟩:=h;exact⟨σ',H',I.unwish,q⟩
 |ret u=>obtain⟨v,σ',H',I,r,q⟩:=h;exact⟨v,σ',H',I.unwish,r,q⟩
theorem PE.nox {e:Expr}{t:TE}(h:PE X.nox e t):PE X e t:=λae s σ H Q I hw=>
 wpAny_mono (h ae s σ H Q (I.wish _) hw) (λ_ _ ⟨v,H',I',r,q⟩=>⟨v,H',I'.unwish,r,q⟩) λ_ _ z=>False.elim z
theorem PT.nox {e:Expr}{t:TT}(h:PT X.nox e t):PT X e t:=λae s σ H Q I hw=>
 wpAny_mono (h ae s σ H Q (I.wish _) hw) (λ_ _ ⟨H',I',q⟩=>⟨H',I'.unwish,q⟩) λ_ _ z=>False.elim z
theorem PSs.nox {st:List Stmt}{t:TS}(h:PSs X.nox st t):PSs X st t:=λae s σ H D I hw=>
 wpAny_mono (h ae s σ H D (I.wish _) hw) (λ_ _ q=>q.unwish) λ_ _ z=>False.elim z
end
section
variable {X:Cx}{st:Stmt}{rest:List Stmt}{t u:TS}{e:Expr}{te:TE}{pos:Pos}
def Ci:TS:=λD σ H=>D.nx σ H
def Dm(t u:TS):TS:=λD σ H=>t {D with nx:=u D} σ H
theorem tz:PSs X [] Ci:=λ_ _ σ H _ I h=>wpAny_execs_nil ⟨σ,H,I,h⟩
theorem pq(h1:PS X st t)(h2:PSs X rest u):PSs X (st::rest) (Dm t u):=by
 intro ae s σ H D I h;refine wpAny_execs_cons (cI (h1 ae s σ H {D with nx:=u D} I h) λf s1 q=>?_)
 cases f with
 |next=>
  obtain⟨σ',H',I',q⟩:=q
  exact h2 ae s1 σ' H' D I' q
 |ret v=>exact q
 |brk=>exact q
 |cont=>exact q
theorem tw(h1:PS X st t):PSs X [st] t:=by
 intro ae s σ H D I h;refine wpAny_execs_cons (cI (h1 ae s σ H D I h) λf s1 q=>?_)
 cases f with
 |next=>exact wpAny_execs_nil q
 |ret v=>exact q
 |brk=>exact q
 |cont=>exact q
def A1:TS:=λD σ H=>D.bk σ H
theorem wG:PS X (.Break pos) A1:=λ_ _ σ H _ I h=>wpAny_Break ⟨σ,H,I,h⟩
theorem Inv.quiet {ae:List (Addr×Obj)}{σ:St}{H:Hp}{s:Shared}(I:Inv X ae σ H s):interactive X.env=false:=by simp[interactive,I.ok.kind]
def By(te:TE):TS:=λD σ H=>te σ H λ_ H1=>D.nx σ H1
theorem sO(he:PE X e te)(hs:swapsWith e none pos.line X.env=pure false:=by rfl):PS X (.Expr e pos) (By te):=by
 intro ae s σ H D I h;exact wpAny_Expr_any (cI (he ae s σ H _ I h) λv s1 ⟨x,H1,I1,r1,q1⟩=>⟨σ,H1,I1,q1⟩) I.quiet hs
def CT(te:TE):TS:=λD σ H=>te σ H D.rt
theorem rJ(he:PE X e te):PS X (.Return (some e) pos) (CT te):=by
 intro ae s σ H D I h;exact wpAny_Return_some (cI (he ae s σ H _ I h) λv s1 ⟨x,H1,I1,r1,q1⟩=>⟨x,σ,H1,I1,r1,q1⟩)
def DJ(c:TT)(t u:TS):TS:=λD σ H=>c σ H λb H1=>if b=true then t D σ H1 else u D σ H1
theorem zc {c:Expr}{a b:List Stmt}{tc:TT}(hc:PT X c tc)(ha:PSs X a t)(hb:PSs X b u):PS X (.If c a b pos) (DJ tc t u):=by
 intro ae s σ H D I h;refine wpAny_If (cI (hc ae s σ H _ I h) λd s1 hq_=>?_)
 obtain⟨H1,I1,q1⟩:=hq_
 cases d with
 |true=>exact ha ae s1 σ H1 D I1 q1
 |false=>exact hb ae s1 σ H1 D I1 q1
end
abbrev TG:=V->St->Hp->(St->Hp->Prop)->Prop
abbrev vP:=List V->St->Hp->(St->Hp->Prop)->Prop
def PG(X:Cx)(target:Expr)(t:TG):Prop:=
 ∀(ae:List (Addr×Obj)) (s:Shared) (σ:St) (H:Hp) (v:V) (u:Value) (Q:St->Hp->Prop),Inv X ae σ H s->RelV v u->t v σ H Q->
  wpAny (model X.prog X.w) X.A (assign target X.env u) (λ_ s'=> ∃σ' H',Inv X ae σ' H' s'/\Q σ' H') X.xe s
def PGs(X:Cx)(ts:List Expr)(t:vP):Prop:=
 ∀(ae:List (Addr×Obj)) (s:Shared) (σ:St) (H:Hp) (vs:List V) (us:List Value) (Q:St->Hp->Prop),Inv X ae σ H s->Vals vs us->t vs σ H Q->
  wpAny (model X.prog X.w) X.A (assignInOrder ((assignEach ts X.env).map (·.2)) us) (λ_ s'=> ∃σ' H',Inv X ae σ' H' s'/\Q σ' H') X.xe s
abbrev zN:=V->V->V->Hp->(Hp->Prop)->Prop
def BP(X:Cx)(t:zN):Prop:=
 ∀(ae:List (Addr×Obj)) (s:Shared) (σ:St) (H:Hp) (o i v:V) (ov iv u:Value) (Q:Hp->Prop),Inv X ae σ H s->RelV o ov->RelV i iv->RelV v u->t o i v H Q->
  wpAny (model X.prog X.w) X.A (setItem ov iv u) (λ_ s'=> ∃H',Inv X ae σ H' s'/\Q H') X.xe s
section
variable {X:Cx}{pos:Pos}
def vx(i:Nat):TG:=λv σ H Q=>Q (σ.set i (some v)) H
theorem yJ {i:Nat}{x:Str}(hN:X.N.Nodup)(hi:X.N[i]? =some x)(hx:xc X.env.scope x)(hf:X.fn x=true\/X.env.scope.names.lookup x=some .local:=by first|exact .inl rfl|exact .inr rfl|assumption):PG X (.Name x pos) (vx i):=by
 intro ae s σ H v u Q I r h;exact wpAny_assign_Name (lT I hN hi hx r (λs' I'=>⟨_,H,I',h⟩) hf)
def DF:vP:=λvs σ H Q=>vs=[]/\Q σ H
def Bl(t:TG)(u:vP):vP:=λvs σ H Q=> ∃v r,vs=v::r/\t v σ H λσ' H'=>u r σ' H' Q
theorem tB:PGs X [] DF:=by
 intro ae s σ H vs us Q I r h;obtain⟨e,h⟩:=h
 subst e;cases r
 exact assignInOrder_nil ⟨σ,H,I,h⟩
theorem qA {e:Expr}{es:List Expr}{t:TG}{u:vP}(h1:PG X e t)(h2:PGs X es u)
 (hs:(assignEach (e::es) X.env).map (·.2)=assign e X.env::(assignEach es X.env).map (·.2):=by rfl):PGs X (e::es) (Bl t u):=by
 intro ae s σ H vs us Q I r h;obtain⟨v,vr,e1,h⟩:=h
 subst e1;cases r with
 |cons r rr=>
  rw[hs];refine assignInOrder_cons (cI (h1 ae s σ H _ _ _ I r h) λ_ s1 hq_=>?_)
  obtain⟨σ1,H1,I1,q1⟩:=hq_
  exact h2 ae s1 σ1 H1 _ _ Q I1 rr q1
def Dj(K:W.Frag)(n:Nat)(t:vP):TG:=λv σ H Q=> ∃a xs,v=.ref a/\SqT K H a xs/\xs.length=n/\t xs σ H Q
theorem vW {es:List Expr}{k:Nat}{t:vP}{n:Nat}(hc:X.calm=true)(h:PGs X es t)
 (hn:(assignEach es X.env).length=n:=by rfl) (hst:(assignEach es X.env).findIdx? (·.1)=none:=by rfl):PG X (.Tuple es k pos) (Dj X.K n t):=by
 intro ae s σ H v u Q I r hw;obtain⟨a,xs,e1,hq,hl,hw⟩:=hw
 subst e1;cases r
 obtain⟨its,rv,ht,hz⟩:=I.tuple hq
 refine assign_Tuple_tuple (I.ok.hd hc) ht (by simp[hn,<-hl,rv.length]) hst λh' hx=>?_
 have I1:Inv X ae σ H {s with heap:=h'}:=I.kept (t':=s.toks) λb o e=>hx b o (Nat.ne_of_lt (Heap.lt_size e)) e
 exact h ae _ σ H xs _ Q I1 (by simpa using rv) hw
def Du(to ti:TE)(t:zN):TG:=λv σ H Q=>to σ H λo H1=>ti σ H1 λi H2=>t o i v H2 λH3=>Q σ H3
theorem zh {o i:Expr}{to ti:TE}{t:zN}(ho:PE X o to)(hi:PE X i ti)(hs:BP X t)
 (ha: ∀v,assign (.Subscript o i pos) X.env v=(do
   let ov <-holding [v] (eval o X.env)
   let iv <-holding [v,ov] (eval i X.env)
   standAt pos
   holding [v,ov,iv] (setItem ov iv v)
   release [v,ov,iv] []):=by intro _;rfl):PG X (.Subscript o i pos) (Du to ti t):=by
 intro ae s σ H v u Q I r h;rw[ha];refine wpAny_bind (wpAny_holding (cI (ho ae s σ H _ I h) λov s1 hq_=>?_))
 obtain⟨x,H1,I1,r1,q1⟩:=hq_
 refine wpAny_bind (wpAny_holding (cI (hi ae s1 σ H1 _ I1 q1) λiv s2 hq_=>?_))
 obtain⟨y,H2,I2,r2,q2⟩:=hq_
 refine wpAny_bind (wpAny_standAt (wpAny_bind (wpAny_holding (cI (hs ae s2 σ H2 x y v ov iv u _ I2 r1 r2 r q2) λ_ s3 hq_=>?_))))
 obtain⟨H3,I3,q3⟩:=hq_
 exact wpAny_release ⟨σ,H3,I3,q3⟩
def zY(te:TE)(g:TG):TS:=λD σ H=>te σ H λx H1=>g x σ H1 D.nx
theorem wV {tg e:Expr}{te:TE}{g:TG}(he:PE X e te)(hg:PG X tg g)(hs:swapsWithSole [tg] e pos.line X.env=pure false:=by rfl)(hw:swappedStores [tg] e X.env=pure none:=by rfl)
 (h1:(assignEach [tg] X.env).map (·.2)=[assign tg X.env]:=by rfl):PS X (.Assign [tg] e pos) (zY te g):=by
 intro ae s σ H D I h;refine wpAny_Assign_stores (cI (he ae s σ H _ I h) λv s1 ⟨x,H1,I1,r1,q1⟩=>?_) hs hw
 rw[h1];exact cI (hg ae s1 σ H1 x v _ I1 r1 q1) λ_ s2 q=>q
theorem oR {i:Nat}{x:Str}{e:Expr}{te:TE}{pos':Pos}(hN:X.N.Nodup)(hi:X.N[i]? =some x)(hx:xc X.env.scope x)(he:PE X e te)(hs:swapsWith e (some (.Name x pos')) pos.line X.env=pure false:=by rfl)(hf:X.fn x=true\/X.env.scope.names.lookup x=some .local:=by first|exact .inl rfl|exact .inr rfl|assumption):
 PS X (.Assign [.Name x pos'] e pos) (zY te (vx i)):=by
 intro ae s σ H D I h;refine wpAny_Assign_Name (cI (he ae s σ H _ I h) λv s1 ⟨y,H1,I1,r1,q1⟩=>?_) hs
 exact lT I1 hN hi hx r1 (λs2 I2=>⟨_,H1,I2,q1⟩) hf
end
section
variable {X:Cx}{pos:Pos}
def Ak(c:TT)(tb:TS):TS:=λD σ H=> ∃W:Nat->St->Hp->Prop,(∃m,W m σ H)/\ ∀m σ H,W m σ H->
 c σ H λb H1=>if b=true then∃N:St->Hp->Prop,(∀σ' H',N σ' H'-> ∃m',m'<m/\W m' σ' H')/\tb {D with nx:=N,ct:=N,bk:=D.nx} σ H1 else D.nx σ H1
theorem wF {c:Expr}{body:List Stmt}{tc:TT}{tb:TS}(hp:PassesOwn (model X.prog X.w) X.A X.env X.xe)(hc:PT X c tc)(hb:PSs X body tb):PS X (.While c body [] pos) (Ak tc tb):=by
 intro ae s σ H D I h;obtain⟨W,⟨m0,w0⟩,turn⟩:=h
 refine wpAny_While (codeAny_whileLoop (λn s'=> ∃σ' H',Inv X ae σ' H' s'/\W n σ' H') ?_ m0 ⟨σ,H,I,w0⟩)
 rintro n s1 ⟨σ1,H1,I1,w1⟩
 refine wpAny_passesOwn hp (cI (hc ae s1 σ1 H1 _ I1 (turn n σ1 H1 w1)) λb s2 hq_=>?_)
 obtain⟨H2,I2,q2⟩:=hq_
 cases b with
 |true=>
  obtain⟨N,hN,q2⟩:=q2
  rw[if_pos rfl];refine wpAny_passesOwn hp (cI (hb ae s2 σ1 H2 _ I2 q2) λf s3 q3=>?_)
  cases f with
  |next=>
   obtain⟨σ3,H3,I3,n3⟩:=q3
   obtain⟨m',hm,w3⟩:=hN σ3 H3 n3
   exact⟨m',hm,σ3,H3,I3,w3⟩
  |cont=>
   obtain⟨σ3,H3,I3,n3⟩:=q3
   obtain⟨m',hm,w3⟩:=hN σ3 H3 n3
   exact⟨m',hm,σ3,H3,I3,w3⟩
  |brk=>exact q3
  |ret v=>exact q3
 |false=>
  rw[if_neg Bool.false_ne_true];exact wpAny_execs_nil ⟨σ1,H2,I2,q2⟩
end
structure It where
 go:Nat->Hp->Prop
 yld:Nat->Hp->V->Hp->Prop
 stop:Nat->Hp->Prop
def jq(X:Cx)(ae:List (Addr×Obj))(H:Hp)(b:Addr):Prop:=
 H b=none/\b≠X.env.locals/\b∉X.fs/\(b∈X.ex\/X.s₀.heap.objs.size<=b)/\(∀x c,X.env.cells.lookup x=some c->c≠b)/\ ∀p∈X.pn++ae,p.1≠b
theorem Inv.fpOk {X:Cx}{ae:List (Addr×Obj)}{σ:St}{H H':Hp}{s:Shared}{b:Addr}(I:Inv X ae σ H s)(hb:s.heap.objs.size<=b)(hn:H' b=none):jq X ae H' b:=by
 refine⟨hn,Nat.ne_of_gt (Nat.lt_of_lt_of_le I.lt hb),I.nofs hb,.inr (Nat.le_trans I.sz hb),λx c e z=>?_,λp hp z=>?_⟩
 ·obtain⟨v,q⟩:=I.cell x c e
  exact absurd (Nat.lt_of_lt_of_le q.lt (by rw[z];exact hb)) (Nat.lt_irrefl _)
 ·exact absurd (Nat.lt_of_lt_of_le (Heap.lt_size (I.pin p hp).1) (by rw[z];exact hb)) (Nat.lt_irrefl _)
structure Turn(P:Program)(w:World)(K:W.Frag)(tg:Expr)(J:It)(fp:List Addr)(it:Addr)(tn:Nat->Heap->Prop):Prop where
 mem:it∈fp
 obj: ∀i h,tn i h-> ∀b∈fp,∃o,h.get? b=some o/\ ∀v,o.data≠ .cell v
 keep: ∀i h h',tn i h->(∀b∈fp,∀o,h.get? b=some o->h'.get? b=some o)->tn i h'
 item: ∀(X:Cx),X.prog=P->X.w=w->X.K=K->X.calm=true-> ∀(i:Nat) (ae:List (Addr×Obj)) (s:Shared) (σ:St) (H:Hp) (E:Value->Shared->Prop),Inv X ae σ H s->(∀b∈fp,jq X ae H b)->tn i s.heap->J.go i H->
  wpAny (model P w) X.A (pyNext (.ref it)) (λr s1=> ∃u,r=some u/\
   wpAny (model P w) X.A (letOwnedTupleGo tg (.ref it) u) (λ_ s2=> ∃x H',Inv X ae σ H' s2/\RelV x u/\J.yld i H x H'/\tn (i+1) s2.heap/\ ∀b∈fp,H' b=none) E s1) E s
 done: ∀(X:Cx),X.prog=P->X.w=w->X.K=K->X.calm=true-> ∀(i:Nat) (ae:List (Addr×Obj)) (s:Shared) (σ:St) (H:Hp) (E:Value->Shared->Prop),Inv X ae σ H s->(∀b∈fp,jq X ae H b)->tn i s.heap->J.stop i H->
  wpAny (model P w) X.A (pyNext (.ref it)) (λr s1=>r=none/\Inv X ae σ H s1) E s
 self: ∀(A:Around) (i:Nat) (s:Shared) (Q:Value->Shared->Prop) (E:Value->Shared->Prop),tn i s.heap->Q (.ref it) s->wpAny (model P w) A (pyIter (.ref it)) Q E s
abbrev TI:=St->Hp->(It->Hp->Prop)->Prop
def D9(X:Cx)(ae:List (Addr×Obj))(σ:St)(tg:Expr)(R:It->Hp->Prop)(itv:Value)(s2:Shared):Prop:=
 ∃(it:Addr) (fp:List Addr) (tn:Nat->Heap->Prop) (J:It) (H':Hp),itv=.ref it/\Inv X ae σ H' s2/\Turn X.prog X.w X.K tg J fp it tn/\tn 0 s2.heap/\(∀b∈fp,jq X ae H' b)/\R J H'
def PI(X:Cx)(tg iter:Expr)(wi:TI):Prop:=
 ∀(ae:List (Addr×Obj)) (s:Shared) (σ:St) (H:Hp) (R:It->Hp->Prop),Inv X ae σ H s->wi σ H R->
  wpAny (model X.prog X.w) X.A (eval iter X.env) (λv s1=>wpAny (model X.prog X.w) X.A (pyIter v) (D9 X ae σ tg R) X.xe s1) X.xe s
theorem vu {M:Model}{A:Around}{E:Value->Shared->Prop}{s:Shared}{tg:Expr}{it:Addr}{u:Value}{o:Obj}{n:String}{vs:Array Value}{Q:Unit->Shared->Prop}(ho:s.heap.get? it=some o)(hc:o.cls=.type n)(hd:o.data=.fields vs)
 (hn:["enumerate","zip","dict_itemiterator","dict_reverseitemiterator","odict_iterator","itertools.zip_longest","itertools.pairwise"].contains n=false) (hQ:Q () s):wpAny M A (letOwnedTupleGo tg (.ref it) u) Q E s:=by
 unfold letOwnedTupleGo;cases tg<;>first
  |exact wpAny_pure hQ
  |(cases u<;>first
     |exact wpAny_pure hQ
     |(refine wpAny_bind (wpAny_load ho ?_)
       rw[hc,hd];show wpAny M A (if(["enumerate","zip","dict_itemiterator","dict_reverseitemiterator","odict_iterator","itertools.zip_longest","itertools.pairwise"].contains n&&vs[0]? ==some (rawInt _))=true then _ else _) Q E s
       rw[if_neg (by intro h;rw[hn,Bool.false_and] at h;cases h)]
       exact wpAny_pure hQ))
def Dg(K:W.Frag)(a:Addr):It:=
 ⟨λi H=> ∃xs x,SqL K H a xs/\xs[i]? =some x,λi H x H'=>H'=H/\ ∀xs,SqL K H a xs->xs[i]? =some x,λi H=> ∃xs,SqL K H a xs/\xs.length<=i⟩
def Db(K:W.Frag)(a:Addr):It:=
 ⟨λi H=> ∃xs x,SqT K H a xs/\xs[i]? =some x,λi H x H'=>H'=H/\ ∀xs,SqT K H a xs->xs[i]? =some x,λi H=> ∃xs,SqT K H a xs/\xs.length<=i⟩
def CA(lo:Int)(n:Nat):It:=⟨λi _=>i<n,λi H x H'=>H'=H/\x=.int (lo+i),λi _=>n<=i⟩
theorem ud {P:Program}{w:World}{K:W.Frag}{tg:Expr}(a it:Addr):Turn P w K tg (Dg K a) [it] it (λi h=>h.IsListIter it a i) where
 mem:=by simp
 obj:=λi h st b hb=>by
  have e:b=it:=by simpa using hb
  subst e;obtain⟨o,e,c,d⟩:=st
  exact⟨o,e,λv z=>by rw[d] at z;cases z⟩
 keep:=λi h h' st k=>st.at λo e=>k it (by simp) o e
 item:=by
  intro X hP hw hK hc i ae s σ H E I hf st hg;subst hP hw hK;obtain⟨xs,x,hq,hx⟩:=hg
  obtain⟨its,rv,p,hz⟩:=I.list hq
  obtain⟨u,hu,ru⟩:=rv.get hx
  obtain⟨f0,f1,f2,f3,f4,f5⟩:=hf it (by simp)
  refine wpAny_pyNext_list_item st p.isList (x:=u) (by simpa using hu) λh' st' sb=>?_
  have I1:Inv X ae σ H {s with heap:=h'}:=I.turned (t':=s.toks) (λb o hb e=>(sb.2 b hb).trans e) f0 f1 f3 f4 f5
  obtain⟨o,e,c,d⟩:=id st'
  exact⟨u,rfl,vu (s:={s with heap:=h'}) e c d (by decide) ⟨x,H,I1,ru,⟨rfl,λys hy=>by rw[I.list_inj hy hq];exact hx⟩,st',λb hb=>(hf b hb).1⟩⟩
 done:=by
  intro X hP hw hK hc i ae s σ H E I hf st hg;subst hP hw hK;obtain⟨xs,hq,hx⟩:=hg
  obtain⟨its,rv,p,hz⟩:=I.list hq
  obtain⟨f0,f1,f2,f3,f4,f5⟩:=hf it (by simp)
  have hl:=rv.length
  exact wpAny_pyNext_list_end (I.ok.hd hc) st p.isList (by simp;omega) λh' eb=>⟨rfl,I.turned (t':=s.toks) (λb o hb e=>eb b o hb e) f0 f1 f3 f4 f5⟩
 self:=λ_ _ _ _ _ st h=>wpAny_pyIter_listiter st h
theorem rO {P:Program}{w:World}{K:W.Frag}{tg:Expr}(a it:Addr):Turn P w K tg (Db K a) [it] it (λi h=>h.IsTupleIter it a i) where
 mem:=by simp
 obj:=λi h st b hb=>by
  have e:b=it:=by simpa using hb
  subst e;obtain⟨o,e,c,d⟩:=st
  exact⟨o,e,λv z=>by rw[d] at z;cases z⟩
 keep:=λi h h' st k=>st.at λo e=>k it (by simp) o e
 item:=by
  intro X hP hw hK hc i ae s σ H E I hf st hg;subst hP hw hK;obtain⟨xs,x,hq,hx⟩:=hg
  obtain⟨its,rv,p,hz⟩:=I.tuple hq
  obtain⟨u,hu,ru⟩:=rv.get hx
  obtain⟨f0,f1,f2,f3,f4,f5⟩:=hf it (by simp)
  refine wpAny_pyNext_tuple_item st (show s.heap.IsTuple a its.toArray from p) (x:=u) (by simpa using hu) λh' st' sb=>?_
  have I1:Inv X ae σ H {s with heap:=h'}:=I.turned (t':=s.toks) (λb o hb e=>(sb.2 b hb).trans e) f0 f1 f3 f4 f5
  obtain⟨o,e,c,d⟩:=id st'
  exact⟨u,rfl,vu (s:={s with heap:=h'}) e c d (by decide) ⟨x,H,I1,ru,⟨rfl,λys hy=>by rw[I.tuple_inj hy hq];exact hx⟩,st',λb hb=>(hf b hb).1⟩⟩
 done:=by
  intro X hP hw hK hc i ae s σ H E I hf st hg;subst hP hw hK;obtain⟨xs,hq,hx⟩:=hg
  obtain⟨its,rv,p,hz⟩:=I.tuple hq
  obtain⟨f0,f1,f2,f3,f4,f5⟩:=hf it (by simp)
  have hl:=rv.length
  exact wpAny_pyNext_tuple_end (I.ok.hd hc) st (show s.heap.IsTuple a its.toArray from p) (by simp;omega) λh' eb=>⟨rfl,I.turned (t':=s.toks) (λb o hb e=>eb b o hb e) f0 f1 f3 f4 f5⟩
 self:=λ_ _ _ _ _ st h=>wpAny_pyIter_tupleiter st h
theorem sf {P:Program}{w:World}{K:W.Frag}{tg:Expr}(it:Addr)(lo:Int)(n:Nat):Turn P w K tg (CA lo n) [it] it (λi h=>IsRangeIter h it (lo+(i:Nat)*1) ((n:Int) - (i:Nat)) 1) where
 mem:=by simp
 obj:=λi h st b hb=>by
  have e:b=it:=by simpa using hb
  subst e;exact⟨_,st,λv z=>by
   have z':Data.fields _=Data.cell v:=z
   cases z'⟩
 keep:=λi h h' st k=>k it (by simp) _ st
 item:=by
  intro X hP hw hK hc i ae s σ H E I hf st hg;subst hP hw hK;obtain⟨f0,f1,f2,f3,f4,f5⟩:=hf it (by simp)
  have W:=Walks.range (prog:=X.prog) (w:=X.w) (I.ok.hd hc) it lo 1 n
  refine W.item i s _ _ hg st λv h' tk hv st' kk=>?_
  obtain⟨t,rfl⟩:=hv
  have I1:Inv X ae σ H {s with heap:=h',toks:=tk}:=I.turned (λb o hb e=>kk b o (by simpa using hb) e) f0 f1 f3 f4 f5
  refine⟨_,rfl,vu (s:={s with heap:=h',toks:=tk}) (n:="range_iterator") st' rfl rfl (by decide) ⟨.int (lo+i),H,I1,⟨t,?_⟩,⟨rfl,rfl⟩,st',λb hb=>(hf b hb).1⟩⟩
  rw[Int.mul_one]
 done:=by
  intro X hP hw hK hc i ae s σ H E I hf st hg;subst hP hw hK;obtain⟨f0,f1,f2,f3,f4,f5⟩:=hf it (by simp)
  exact wpAny_pyNext_range_end (I.ok.hd hc) st (by have:n<=i:=hg;omega) λh' eb=>⟨rfl,I.turned (t':=s.toks) (λb o hb e=>eb b o hb e) f0 f1 f3 f4 f5⟩
 self:=λ_ _ _ _ _ st h=>wpAny_pyIter_rangeiter st h
section
variable {X:Cx}{tg:Expr}
def Bj(K:W.Frag)(tl:TE):TI:=λσ H R=>tl σ H λx H1=> ∃a,x=.ref a/\(∃xs,SqL K H1 a xs)/\R (Dg K a) H1
def DZ(K:W.Frag)(tl:TE):TI:=λσ H R=>tl σ H λx H1=> ∃a,x=.ref a/\(∃xs,SqT K H1 a xs)/\R (Db K a) H1
theorem sE {l:Expr}{tl:TE}(hl:PE X l tl):PI X tg l (Bj X.K tl):=by
 intro ae s σ H R I h;refine cI (hl ae s σ H _ I h) λv s1 hq_=>?_
 obtain⟨x,H1,I1,r1,q1⟩:=hq_
 obtain⟨a,e,⟨xs,hq⟩,q⟩:=q1
 subst e;cases r1
 obtain⟨its,rv,p,hz⟩:=I1.list hq
 refine wpAny_pyIter_list p.isList ?_
 refine⟨s1.heap.objs.size,[s1.heap.objs.size],_,_,H1,rfl,I1.kept (t':=s1.toks) λb o e=>Heap.get?_push_of_some _ e,ud a _,⟨_,Heap.get?_push_size _ rfl,rfl,rfl⟩,λb hb=>?_,q⟩
 have e:b=s1.heap.objs.size:=by simpa using hb
 subst e;exact I1.fpOk (Nat.le_refl _) (I1.hok.fresh (Nat.le_refl _))
theorem AR {l:Expr}{tl:TE}(hl:PE X l tl):PI X tg l (DZ X.K tl):=by
 intro ae s σ H R I h;refine cI (hl ae s σ H _ I h) λv s1 hq_=>?_
 obtain⟨x,H1,I1,r1,q1⟩:=hq_
 obtain⟨a,e,⟨xs,hq⟩,q⟩:=q1
 subst e;cases r1
 obtain⟨its,rv,p,hz⟩:=I1.tuple hq
 refine wpAny_pyIter_tuple (show s1.heap.IsTuple a its.toArray from p) ?_
 refine⟨s1.heap.objs.size,[s1.heap.objs.size],_,_,H1,rfl,I1.kept (t':=s1.toks) λb o e=>Heap.get?_push_of_some _ e,rO a _,⟨_,Heap.get?_push_size _ rfl,rfl,rfl⟩,λb hb=>?_,q⟩
 have e:b=s1.heap.objs.size:=by simpa using hb
 subst e;exact I1.fpOk (Nat.le_refl _) (I1.hok.fresh (Nat.le_refl _))
theorem ve {ae:List (Addr×Obj)}{σ:St}{H:Hp}{s:Shared}{R:It->Hp->Prop}{E:Value->Shared->Prop}{lo hi:Int}{t u v:Tok}{tk:Nat}(I:Inv X ae σ H s)(h1: -(2^62)<=lo)(h2:lo<2^62)(h3: -(2^62)<=hi)(h4:hi<2^62)
 (q:R (CA lo (hi-lo).toNat) H):wpAny (model X.prog X.w) X.A (pyIter (.ref s.heap.objs.size)) (D9 X ae σ tg R) E {s with heap:=s.heap.push {cls:=.type "range",data:=.fields #[.int lo t,.int hi u,.int 1 v]},toks:=tk}:=by
 refine wpAny_pyIter_range (IsRange.new ..) (small_one h1 h2 h3 h4) ?_
 have I1:Inv X ae σ H {s with heap:=s.heap.push {cls:=.type "range",data:=.fields #[.int lo t,.int hi u,.int 1 v]},toks:=tk}:=I.kept λb o e=>Heap.get?_push_of_some _ e
 refine⟨(s.heap.push {cls:=.type "range",data:=.fields #[.int lo t,.int hi u,.int 1 v]}).objs.size,[(s.heap.push {cls:=.type "range",data:=.fields #[.int lo t,.int hi u,.int 1 v]}).objs.size],_,_,H,rfl,
  I1.kept (t':=tk) λb o e=>Heap.get?_push_of_some _ e,sf _ lo (hi-lo).toNat,?_,λb hb=>?_,q⟩
 ·have e1:lo+((0:Nat):Int)*1=lo:=by simp
  have e2:(((hi-lo).toNat:Nat):Int) - ((0:Nat):Int)=Builtin.Range.rangeSize lo hi 1:=by rw[rangeSize_one];split<;>omega
  show IsRangeIter _ _ (lo+((0:Nat):Int)*1) ((((hi-lo).toNat:Nat):Int) - ((0:Nat):Int)) 1;rw[e1,e2];exact Heap.get?_push_size _ rfl
 ·have e:b=(s.heap.push {cls:=.type "range",data:=.fields #[.int lo t,.int hi u,.int 1 v]}).objs.size:=by simpa using hb
  subst e;exact I1.fpOk (Nat.le_refl _) (I1.hok.fresh (Nat.le_refl _))
def BF(ta:TA):TI:=λσ H R=>ta σ H λvs H1=> ∃j:Int,vs=[.int j]/\ -(2^62)<=j/\j<2^62/\R (CA 0 j.toNat) H1
theorem uU {a:Expr}{ta:TA}{p pos:Pos}(hg:Gl X "range")(hm:X.mg "range"=none)(ha:PA X [a] ta)(hs:starEach [a] X.env=[(false,eval a X.env)]:=by rfl):PI X tg (.Call (.Name "range" p) [a] [] pos) (BF ta):=by
 intro ae s σ H R I h;refine Call_ (ml I hg hm boot_range (PyProof.Rows.callWith_type1 (cI (ha pos ae s σ H _ I h) λus s1 ⟨vs,H1,I1,r1,q1⟩=>?_) hs rfl))
 obtain⟨j,e,q1,q2,q⟩:=q1
 subst e;cases r1 with
 |cons r rr=>
  cases rr
  obtain⟨t,rfl⟩:=r
  exact call_range_1 (ve I1 (by omega) (by omega) q1 q2 (by simpa using q))
def Do(wi:TI)(g:TG)(tb:TS):TS:=λD σ H=>wi σ H λJ H1=> ∃W:Nat->Nat->St->Hp->Prop,(∃m,W 0 m σ H1)/\ ∀i m σ H,W i m σ H->
 (J.stop i H/\D.nx σ H)\/(J.go i H/\ ∃N:St->Hp->Prop,(∀σ' H',N σ' H'-> ∃m',m'<m/\W (i+1) m' σ' H')/\ ∀x H',J.yld i H x H'->g x σ H' λσ2 H2=>tb {D with nx:=N,ct:=N,bk:=D.nx} σ2 H2)
def kx(fp:List Addr)(h:Heap):List (Addr×Obj):=fp.filterMap λb=>(h.get? b).map λo=>(b,o)
theorem fe {fp:List Addr}{h:Heap}{b:Addr}{o:Obj}(hb:b∈fp)(e:h.get? b=some o):(b,o)∈kx fp h:=List.mem_filterMap.mpr ⟨b,hb,by rw[e];rfl⟩
theorem uV {fp:List Addr}{h:Heap}{p:Addr×Obj}(hp:p∈kx fp h):p.1∈fp/\h.get? p.1=some p.2:=by
 obtain⟨b,hb,e⟩:=List.mem_filterMap.mp hp
 cases q:h.get? b with
 |none=>rw[q] at e;cases e
 |some o=>
  rw[q] at e;have e':(b,o)=p:=Option.some.inj e
  subst e';exact⟨hb,q⟩
theorem Inv.pinned {ae:List (Addr×Obj)}{σ:St}{H:Hp}{s:Shared}{fp:List Addr}(I:Inv X ae σ H s)(hf: ∀b∈fp,jq X ae H b)(ho: ∀b∈fp,∃o,s.heap.get? b=some o/\ ∀v,o.data≠ .cell v):Inv X (ae++kx fp s.heap) σ H s:=
 I.pins_of λp hp=>(List.mem_append.mp hp).elim (λz=>I.pin p (List.mem_append_right _ z)) λz=>by
  obtain⟨hb,e⟩:=uV z
  obtain⟨f0,f1,f2,_⟩:=hf p.1 hb
  obtain⟨o,e',d⟩:=ho p.1 hb
  rw[e] at e';cases e';exact⟨e,f0,f1,f2,d⟩
theorem Inv.unpinned {ae pl:List (Addr×Obj)}{σ:St}{H:Hp}{s:Shared}(I:Inv X (ae++pl) σ H s):Inv X ae σ H s:=I.pins_of λp hp=>I.pin p (List.mem_append_right _ (List.mem_append_left _ hp))
theorem zn {iter:Expr}{body:List Stmt}{wi:TI}{g:TG}{tb:TS}{pos:Pos}(hp:PassesOwn (model X.prog X.w) X.A X.env X.xe)(hc:X.calm=true)(hi:PI X tg iter wi)(hg:PG X tg g)(hb:PSs X body tb)
 (hs: ∀x,foldedSetIterable iter X.env x=pure x:=by intro _;rfl):PS X (.For tg iter body [] pos) (Do wi g tb):=by
 intro ae s σ H D I h;refine wpAny_For (cI (hi ae s σ H _ I h) λv s1 h1=>cI h1 λitv s2 h2=>?_) hs
 obtain⟨it,fp,tn,J,H2,e,I2,T,st2,f2,W,⟨m0,w0⟩,turn⟩:=h2
 subst e;have stat: ∀ {H':Hp},(∀b∈fp,H' b=none)-> ∀b∈fp,jq X ae H' b:=λhn b hb=>⟨hn b hb,(f2 b hb).2⟩
 refine codeAny_forLoop_any (λn s'=> ∃i σ' H',Inv X ae σ' H' s'/\tn i s'.heap/\(∀b∈fp,H' b=none)/\W i n σ' H') ?_ m0 ⟨0,σ,H2,I2,st2,λb hb=>(f2 b hb).1,w0⟩
 rintro n s3 ⟨i,σ3,H3,I3,st3,fr3,w3⟩
 rcases turn i n σ3 H3 w3 with⟨stop,qn⟩|⟨go,N,hN,step⟩
 ·refine wpAny_passesOwn hp (cI (T.done X rfl rfl rfl hc i ae s3 σ3 H3 X.xe I3 (stat fr3) st3 stop) λr s4 hq_=>?_)
  obtain⟨hr,I4⟩:=hq_
  subst hr;exact wpAny_execs_nil ⟨σ3,H3,I4,qn⟩
 ·refine wpAny_passesOwn hp (cI (T.item X rfl rfl rfl hc i ae s3 σ3 H3 X.xe I3 (stat fr3) st3 go) λr s4 hq_=>?_)
  obtain⟨u,hr,h4⟩:=hq_
  subst hr;refine wpAny_passesOwn hp (cI h4 λ_ s5 hq_=>?_)
  obtain⟨x,H5,I5,r5,y5,st5,fr5⟩:=hq_
  have I5':=I5.pinned (stat fr5) (T.obj _ _ st5)
  refine wpAny_passesOwn hp (cI (hg _ s5 σ3 H5 x u _ I5' r5 (step x H5 y5)) λ_ s6 hq_=>?_)
  obtain⟨σ6,H6,I6,q6⟩:=hq_
  refine wpAny_passesOwn hp (cI (hb _ s6 σ6 H6 _ I6 q6) λf s7 q7=>?_)
  have again: ∀ {σ7:St} {H7:Hp},Inv X (ae++kx fp s5.heap) σ7 H7 s7->N σ7 H7-> ∃m,m<n/\ ∃i σ' H',Inv X ae σ' H' s7/\tn i s7.heap/\(∀b∈fp,H' b=none)/\W i m σ' H':=λ{σ7 H7} I7 n7=>by
   obtain⟨m',hm,w7⟩:=hN σ7 H7 n7
   refine⟨m',hm,i+1,σ7,H7,I7.unpinned,T.keep _ _ _ st5 λb hb o e=>(I7.pin (b,o) (List.mem_append_right _ (List.mem_append_right _ (fe hb e)))).1,λb hb=>?_,w7⟩
   obtain⟨o,e,d⟩:=T.obj _ _ st5 b hb
   exact(I7.pin (b,o) (List.mem_append_right _ (List.mem_append_right _ (fe hb e)))).2.1
  cases f with
  |next=>obtain⟨σ7,H7,I7,n7⟩:=q7;exact again I7 n7
  |cont=>obtain⟨σ7,H7,I7,n7⟩:=q7;exact again I7 n7
  |brk=>obtain⟨σ7,H7,I7,q7⟩:=q7;exact⟨σ7,H7,I7.unpinned,q7⟩
  |ret v=>obtain⟨x7,σ7,H7,I7,r7,q7⟩:=q7;exact⟨x7,σ7,H7,I7.unpinned,r7,q7⟩
end
abbrev R2:=V->V->Hp->VK->Prop
def jV(X:Cx)(f:Value->Value->Sem Value)(r:R2):Prop:=
 ∀(ae:List (Addr×Obj)) (s:Shared) (σ:St) (H:Hp) (x y:V) (v u:Value) (Q:VK),Inv X ae σ H s->RelV x v->RelV y u->r x y H Q->
  wpAny (model X.prog X.w) X.A (f v u) (EP X ae σ Q) X.xe s
def D1(X:Cx)(f:Value->Sem Value)(r:V->Hp->VK->Prop):Prop:=
 ∀(ae:List (Addr×Obj)) (s:Shared) (σ:St) (H:Hp) (x:V) (v:Value) (Q:VK),Inv X ae σ H s->RelV x v->r x H Q->
  wpAny (model X.prog X.w) X.A (f v) (EP X ae σ Q) X.xe s
def dH(X:Cx)(f:Value)(r:List V->Hp->VK->Prop):Prop:=
 ∀(ae:List (Addr×Obj)) (s:Shared) (σ:St) (H:Hp) (xs:List V) (us:List Value) (Q:VK),Inv X ae σ H s->Vals xs us->r xs H Q->
  wpAny (model X.prog X.w) X.A (call f us) (EP X ae σ Q) X.xe s
def DH(X:Cx)(r:V->Hp->(Bool->Hp->Prop)->Prop):Prop:=
 ∀(ae:List (Addr×Obj)) (s:Shared) (σ:St) (H:Hp) (x:V) (v:Value) (Q:Bool->Hp->Prop),Inv X ae σ H s->RelV x v->r x H Q->
  wpAny (model X.prog X.w) X.A (truthy v) (TP X ae σ Q) X.xe s
def zP(r:R2)(ta tb:TE):TE:=λσ H Q=>ta σ H λx H1=>tb σ H1 λy H2=>r x y H2 Q
def Er(r:V->Hp->VK->Prop)(ta:TE):TE:=λσ H Q=>ta σ H λx H1=>r x H1 Q
def rI(C:Int->Int->Prop)(g:Int->Int->V):R2:=λx y H Q=> ∃i j,x=.int i/\y=.int j/\C i j/\Q (g i j) H
def xE(g:Int->Int->V):R2:=λx y H Q=> ∃i j,x=.int i/\y=.int j/\Q (g i j) H
def rU(g:Int->V):V->Hp->VK->Prop:=λx H Q=> ∃i,x=.int i/\Q (g i) H
section
variable {X:Cx}{a b c:Expr}{ta tb tc:TE}{pos:Pos}
theorem AA(ha:PE X a ta)(hb:PE X b tb){ae:List (Addr×Obj)}{s:Shared}{σ:St}{H:Hp}{R:V->V->Hp->Prop}(I:Inv X ae σ H s)
 (h:ta σ H λx H1=>tb σ H1 λy H2=>R x y H2) {Q:Value->Shared->Prop} {f:Value->Value->Sem Value}
 (hf: ∀v u s2 x y H2,Inv X ae σ H2 s2->RelV x v->RelV y u->R x y H2->wpAny (model X.prog X.w) X.A (f v u) Q X.xe s2):
 wpAny (model X.prog X.w) X.A (eval a X.env) (λv s₁=>wpAny (model X.prog X.w) X.A (eval b X.env) (λu s₂=>wpAny (model X.prog X.w) X.A (f v u) Q X.xe s₂) X.xe s₁) X.xe s:=by
 refine cI (ha ae s σ H _ I h) λv s1 hq_=>?_
 obtain⟨x,H1,I1,r1,q1⟩:=hq_
 refine cI (hb ae s1 σ H1 _ I1 q1) λu s2 hq_=>?_
 obtain⟨y,H2,I2,r2,q2⟩:=hq_
 exact hf v u s2 x y H2 I2 r1 r2 q2
theorem sy {op:Operator}{r:R2}(ho:jV X (binaryOp op) r)(ha:PE X a ta)(hb:PE X b tb):PE X (.BinOp a op b pos) (zP r ta tb):=by
 intro ae s σ H Q I h;exact wpAny_BinOp (AA ha hb I h λv u s2 x y H2 I2 rx ry q=>ho ae s2 σ H2 x y v u Q I2 rx ry q)
theorem B5 {op:UnaryOp}{r:V->Hp->VK->Prop}(ho:D1 X (unaryOp op) r)(ha:PE X a ta):PE X (.UnaryOp op a pos) (Er r ta):=by
 intro ae s σ H Q I h;exact UnaryOp_ (cI (ha ae s σ H _ I h) λv s1 ⟨x,H1,I1,r1,q1⟩=>ho ae s1 σ H1 x v Q I1 r1 q1)
theorem CC {f:Value->Value->Sem Value}{C:Int->Int->Prop}{g:Int->Int->Int}
 (rule: ∀(i j:Int) (t u:Tok) (s:Shared) (Q:Value->Shared->Prop) (E:Value->Shared->Prop),C i j->Q (.int (g i j) s.toks) {s with toks:=s.toks+1}->wpAny (model X.prog X.w) X.A (f (.int i t) (.int j u)) Q E s):
 jV X f (rI C λi j=>.int (g i j)):=by
 intro ae s σ H x y v u Q I rx ry h;obtain⟨i,j,rfl,rfl,hc,q⟩:=h
 obtain⟨t,rfl⟩:=rx
 obtain⟨t',rfl⟩:=ry
 exact rule i j t t' s _ _ hc ⟨.int (g i j),H,I.tok _,⟨_,rfl⟩,q⟩
theorem Br {f:Value->Value->Sem Value}{g:Int->Int->Int}
 (rule: ∀(i j:Int) (t u:Tok) (s:Shared) (Q:Value->Shared->Prop) (E:Value->Shared->Prop),Q (.int (g i j) s.toks) {s with toks:=s.toks+1}->wpAny (model X.prog X.w) X.A (f (.int i t) (.int j u)) Q E s):
 jV X f (xE λi j=>.int (g i j)):=by
 intro ae s σ H x y v u Q I rx ry h;obtain⟨i,j,rfl,rfl,q⟩:=h
 obtain⟨t,rfl⟩:=rx
 obtain⟨t',rfl⟩:=ry
 exact rule i j t t' s _ _ ⟨.int (g i j),H,I.tok _,⟨_,rfl⟩,q⟩
theorem A8 {f:Value->Value->Sem Value}{g:Int->Int->Bool}
 (rule: ∀(i j:Int) (t u:Tok) (s:Shared) (Q:Value->Shared->Prop) (E:Value->Shared->Prop),Q (.bool (g i j)) s->wpAny (model X.prog X.w) X.A (f (.int i t) (.int j u)) Q E s):
 jV X f (xE λi j=>.bl (g i j)):=by
 intro ae s σ H x y v u Q I rx ry h;obtain⟨i,j,rfl,rfl,q⟩:=h
 obtain⟨t,rfl⟩:=rx
 obtain⟨t',rfl⟩:=ry
 exact rule i j t t' s _ _ ⟨.bl (g i j),H,I,rfl,q⟩
def Ch(i j:Int):Prop:=0<=j/\j<=1000000/\i.natAbs<2^64
theorem qL:jV X (binaryOp .Add) (xE λi j=>.int (i+j)):=Br λ_ _ _ _ _ _ _ q=>add_int q
theorem vk:jV X (binaryOp .Sub) (xE λi j=>.int (i-j)):=Br λ_ _ _ _ _ _ _ q=>sub_int q
theorem zJ:jV X (binaryOp .Mod) (rI (λ_ j=>0<j) λi j=>.int (i % j)):=CC λi j _ _ _ _ _ hc q=>by
 have h1:(0:Int)<j:=hc
 exact mod_int' (by omega) (by rw[Int.fmod_eq_emod_of_nonneg i (by omega)];exact q)
theorem Af:jV X (binaryOp .Pow) (rI Ch λi j=>.int (i^j.toNat)):=CC λ_ _ _ _ _ _ _ hc q=>pow_int_small hc.1 hc.2.1 hc.2.2 q
theorem Eh {f:Value->Sem Value}{g:Int->Int}
 (rule: ∀(i:Int) (t:Tok) (s:Shared) (Q:Value->Shared->Prop) (E:Value->Shared->Prop),Q (.int (g i) s.toks) {s with toks:=s.toks+1}->wpAny (model X.prog X.w) X.A (f (.int i t)) Q E s):
 D1 X f (rU λi=>.int (g i)):=by
 intro ae s σ H x v Q I rx h;obtain⟨i,rfl,q⟩:=h
 obtain⟨t,rfl⟩:=rx
 exact rule i t s _ _ ⟨.int (g i),H,I.tok _,⟨_,rfl⟩,q⟩
theorem AE:D1 X (unaryOp .USub) (rU λi=>.int (-i)):=Eh λ_ _ _ _ _ q=>neg_int q
end
section
variable {X:Cx}{a b c:Expr}{ta tb tc:TE}{pos:Pos}
theorem jx:jV X (compareOp .Lt) (xE λi j=>.bl (decide (i<j))):=A8 λ_ _ _ _ _ _ _ q=>lt_int q
theorem Ck:jV X (compareOp .Gt) (xE λi j=>.bl (decide (j<i))):=A8 λ_ _ _ _ _ _ _ q=>gt_int q
theorem Bn:jV X (compareOp .GtE) (xE λi j=>.bl (decide (j<=i))):=A8 λ_ _ _ _ _ _ _ q=>ge_int q
theorem bh(b:Expr){op:CmpOp}(h:op≠ .In:=by decide)(h2:op≠ .NotIn:=by decide):behindInMarks op b=false:=by
 have e1:(op==CmpOp.In)=false:=by cases op<;>first|rfl|exact absurd rfl h
 have e2:(op==CmpOp.NotIn)=false:=by cases op<;>first|rfl|exact absurd rfl h2
 cases b<;>simp[behindInMarks,e1,e2]
theorem xS {op:CmpOp}{r:R2}(ho:jV X (compareOp op) r)(ha:PE X a ta)(hb:PE X b tb)(hm:behindInMarks op b=false):PE X (.Compare a [op] [b] pos) (zP r ta tb):=by
 intro ae s σ H Q I h;exact wpAny_Compare1 (AA ha hb I h λv u s2 x y H2 I2 rx ry q=>ho ae s2 σ H2 x y v u Q I2 rx ry q) hm
def Cq(t:TE):TT:=λσ H Q=>t σ H λx H'=> ∃k,x=.bl k/\Q k H'
theorem yh {op:CmpOp}{r:R2}(ho:jV X (compareOp op) r)(ha:PE X a ta)(hb:PE X b tb)(hm:behindInMarks op b=false):PT X (.Compare a [op] [b] pos) (Cq (zP r ta tb)):=by
 intro ae s σ H Q I h;refine wpAny_isTrue_Compare1 (cI (ha ae s σ H _ I h) λv s1 ⟨x,H1,I1,r1,q1⟩=>cI (hb ae s1 σ H1 _ I1 q1) λu s2 ⟨y,H2,I2,r2,q2⟩=>
  cI (ho ae s2 σ H2 x y v u _ I2 r1 r2 q2) λc s3 ⟨z,H3,I3,r3,k,e,q3⟩=>?_) hm
 subst e;cases r3
 exact wpAny_truthy_bool ⟨H3,I3,q3⟩
def v0(r r':R2)(ta tb tc:TE):TE:=λσ H Q=>ta σ H λx H1=>tb σ H1 λy H2=>r x y H2 λz H3=> ∃k,z=.bl k/\
 (if k=true then tc σ H3 λw' H4=>r' y w' H4 Q else Q (.bl false) H3)
theorem vC {op op':CmpOp}{r r':R2}(ho:jV X (compareOp op) r)(ho':jV X (compareOp op') r')(ha:PE X a ta)(hb:PE X b tb)(hc:PE X c tc)
 (hm:lastMarks [op,op'] [b,c]=false:=by with_unfolding_all rfl):PE X (.Compare a [op,op'] [b,c] pos) (v0 r r' ta tb tc):=by
 intro ae s σ H Q I h;refine Compare_chain (cI (ha ae s σ H _ I h) λv s1 ⟨x,H1,I1,r1,q1⟩=>chain_link (cI (hb ae s1 σ H1 _ I1 q1) λu s2 ⟨y,H2,I2,r2,q2⟩=>
  cI (ho ae s2 σ H2 x y v u _ I2 r1 r2 q2) λd s3 ⟨z,H3,I3,r3,k,e,q3⟩=>?_)) hm
 subst e;cases r3
 refine wpAny_truthy_bool ?_
 cases k with
 |false=>exact ite_ff ⟨.bl false,H3,I3,rfl,q3⟩
 |true=>exact ite_tt (chain_last (cI (hc ae s3 σ H3 _ I3 q3) λw' s4 ⟨z',H4,I4,r4,q4⟩=>ho' ae s4 σ H4 y z' u w' Q I4 r2 r4 q4))
def Aj(K:W.Frag)(x:V)(H:Hp)(k:Bool):Prop:=
 match x with
 | .non=>k=false
 | .bl b=>k=b
 | .int i=>k=(i !=0)
 | .str y=>y.length<=sizeLine/\k=((y.length:Int) !=0)
 | .byt y=>y.size<=sizeLine/\k=((y.size:Int) !=0)
 | .ref p=>(∃xs,SqL K H p xs/\k= !xs.isEmpty)\/(∃xs,SqT K H p xs/\k= !xs.isEmpty)\/ ∃kvs,H p=some (.dK kvs)/\k= !kvs.isEmpty
 |_=>False
theorem rL {κ:Type}{kvs:List (κ×V)}{vs:List (κ×Value)}(r:KV kvs vs):(!vs.isEmpty)= !kvs.isEmpty:=by
 cases r<;>rfl
theorem lv {xs:List V}{its:List Value}(r:Vals xs its):(!its.toArray.isEmpty)= !xs.isEmpty:=by
 cases r<;>simp
theorem jQ:(sizeLine:Nat)<2^63:=by rw[sizeLine_eq];decide
theorem AH:DH X (λx H Q=> ∃k,Aj X.K x H k/\Q k H):=by
 intro ae s σ H x v Q I rx h;obtain⟨k,e,q⟩:=h
 have hl:=jQ
 have hs:sizeLine=16777216:=sizeLine_eq
 cases x with
 |non=>
  cases rx
  have e':k=false:=e
  subst e';exact truthy_none ⟨H,I,q⟩
 |bl b=>
  cases rx
  have e':k=b:=e
  subst e';exact wpAny_truthy_bool ⟨H,I,q⟩
 |int i=>
  obtain⟨t,rfl⟩:=rx
  have e':k=(i !=0):=e
  subst e';exact PySem.P.truthy_int ⟨H,I,q⟩
 |str y=>
  obtain⟨t,rfl⟩:=rx
  obtain⟨hy,e'⟩:y.length<=sizeLine/\k=((y.length:Int) !=0):=e
  subst e';exact PySem.P.truthy_str (by omega) ⟨H,I.tok _,q⟩
 |byt y=>
  obtain⟨t,rfl⟩:=rx
  obtain⟨hy,e'⟩:y.size<=sizeLine/\k=((y.size:Int) !=0):=e
  subst e';exact W.truthy_bytes (by omega) ⟨H,I.tok _,q⟩
 |ref p=>
  cases rx
  have e':(∃xs,SqL X.K H p xs/\k= !xs.isEmpty)\/(∃xs,SqT X.K H p xs/\k= !xs.isEmpty)\/ ∃kvs,H p=some (.dK kvs)/\k= !kvs.isEmpty:=e
  rcases e' with⟨xs,hx,e'⟩|⟨xs,hx,e'⟩|⟨kvs,hx,e'⟩
  ·subst e'
   obtain⟨its,r,pl,hz⟩:=I.list hx
   have hlen:=r.length
   exact wpAny_truthy_list pl.isList (by simp only[List.size_toArray];omega) ⟨H,I.tok _,by rw[lv r];exact q⟩
  ·subst e'
   obtain⟨its,r,pl,hz⟩:=I.tuple hx
   have hlen:=r.length
   exact truthy_tuple pl (by simp only[List.size_toArray];omega) ⟨H,I.tok _,by rw[lv r];exact q⟩
  ·subst e'
   obtain⟨hz,hS,vs,r,m⟩:kvs.length<=sizeLine/\(p==sysModules)=false/\ ∃vs,KV kvs vs/\s.heap.DictOf (pf X.prog X.w) p vs:=I.hok p _ hx
   have hlen:kvs.length=vs.length:=Paired.length r
   exact wpAny_truthy_dict hS m (by omega) ⟨H,I.tok _,by rw[rL r];exact q⟩
 |_=>exact(show False from e).elim
theorem wL(ha:PE X a ta)(he: ∀whole,isTrue a X.env whole=(do let v <-whole;standAt a.pos;holding [v] (truthy v))):
 PT X a (λσ H Q=>ta σ H λx H'=> ∃k,Aj X.K x H' k/\Q k H'):=by
 intro ae s σ H Q I h;exact isTrue_plain (cI (ha ae s σ H _ I h) λv s1 ⟨x,H1,I1,r1,q1⟩=>AH ae s1 σ H1 x v Q I1 r1 q1) (he _)
theorem gH {x:V}{us:List Value}(r:Vals [x] us): ∃u,us=[u]/\RelV x u:=by
 cases r with
 |cons r1 r2=>cases r2;exact⟨_,rfl,r1⟩
theorem tv {x y:V}{us:List Value}(r:Vals [x,y] us): ∃u w',us=[u,w']/\RelV x u/\RelV y w':=by
 cases r with
 |cons r1 r2=>
  cases r2 with
  |cons r3 r4=>cases r4;exact⟨_,_,rfl,r1,r3⟩
theorem ww:dH X (.builtin "abs") (λxs H Q=> ∃i,xs=[.int i]/\Q (.int (if i<0 then -i else i)) H):=by
 intro ae s σ H xs us Q I r h;obtain⟨i,rfl,q⟩:=h
 obtain⟨u,rfl,t,rfl⟩:=gH r
 exact call_abs_int λu tk=>⟨.int (if i<0 then -i else i),H,I.tok _,⟨_,rfl⟩,q⟩
theorem kg(hc:X.calm=true):dH X (.builtin "max") (λxs H Q=> ∃i j,xs=[.int i,.int j]/\Q (.int (if j>i then j else i)) H):=by
 intro ae s σ H xs us Q I r h;obtain⟨i,j,rfl,q⟩:=h
 obtain⟨u,w',rfl,⟨t,rfl⟩,⟨t',rfl⟩⟩:=tv r
 refine max_two_ints (I.ok.hd hc) λh' tk k=>⟨_,H,I.kept k,?_,q⟩
 by_cases hj:j>i
 ·rw[if_pos hj,if_pos hj];exact⟨_,rfl⟩
 ·rw[if_neg hj,if_neg hj];exact⟨_,rfl⟩
theorem kj(hc:X.calm=true):dH X (.builtin "min") (λxs H Q=> ∃i j,xs=[.int i,.int j]/\Q (.int (if j<i then j else i)) H):=by
 intro ae s σ H xs us Q I r h;obtain⟨i,j,rfl,q⟩:=h
 obtain⟨u,w',rfl,⟨t,rfl⟩,⟨t',rfl⟩⟩:=tv r
 refine min_two_ints (I.ok.hd hc) λh' tk k=>⟨_,H,I.kept k,?_,q⟩
 by_cases hj:j<i
 ·rw[if_pos hj,if_pos hj];exact⟨_,rfl⟩
 ·rw[if_neg hj,if_neg hj];exact⟨_,rfl⟩
theorem ki:dH X (.type "int") (λxs H Q=>(∃i,xs=[.int i]/\Q (.int i) H)\/ ∃k,xs=[.bl k]/\Q (.int (if k then 1 else 0)) H):=by
 intro ae s σ H xs us Q I r h;rcases h with⟨i,rfl,q⟩|⟨k,rfl,q⟩
 ·obtain⟨u,rfl,t,rfl⟩:=gH r
  exact call_int_int ⟨.int i,H,I,⟨_,rfl⟩,q⟩
 ·obtain⟨u,rfl,r1⟩:=gH r
  cases r1
  exact call_int_bool ⟨.int (if k then 1 else 0),H,I.tok _,⟨_,rfl⟩,q⟩
end
structure Room(k:Nat)(A:Around):Prop where
 hd:A.handled=none
 dp:A.depth+3*k+5<recursionLimit
 un:A.units+16*k+200<cLine
theorem Room.mono {j k:Nat}{A:Around}(r:Room k A)(h:j<=k):Room j A:=⟨r.hd,by have:=r.dp;omega,by have:=r.un;omega⟩
theorem Room.deeper {k:Nat}{A:Around}(r:Room (k+1) A)(env:Env):Room k (A.deeper env):=
 ⟨r.hd,by have:=r.dp;show A.depth+1+3*k+5<_;omega,by have:=r.un;show A.units+3+16*k+200<_;omega⟩
theorem Room.depth {k:Nat}{A:Around}(r:Room k A):A.depth<recursionLimit:=by have:=r.dp;omega
theorem Room.units {k:Nat}{A:Around}(r:Room k A):A.units+64<cLine:=by have:=r.un;omega
def DD:TA:=λ_ H Q=>Q [] H
def Cc(ta:TE)(tr:TA):TA:=λσ H Q=>ta σ H λx H1=>tr σ H1 λxs H2=>Q (x::xs) H2
section
variable {X:Cx}{e:Expr}{es:List Expr}{te:TE}{t:TA}{pos:Pos}
theorem cv:PA X [] DD:=λ_ _ _ _ H Q I h=>Calls.spliced_nil ⟨[],H,I,.nil,h⟩
theorem aV(ha:PE X e te)(hr:PA X es t)(hs:starEach (e::es) X.env=(false,eval e X.env)::starEach es X.env:=by rfl):PA X (e::es) (Cc te t):=by
 intro pos ae s σ H Q I h;rw[hs];show wpAny _ _ (spliced ((false,eval e X.env)::backTo pos (starEach es X.env))) _ _ s;refine Calls.spliced_cons (cI (ha ae s σ H _ I h) λu s1 hq_=>?_)
 obtain⟨x,H1,I1,r1,q1⟩:=hq_
 exact cI (hr pos ae s1 σ H1 _ I1 q1) λus s2 ⟨xs,H2,I2,r2,q2⟩=>⟨x::xs,H2,I2,.cons r1 r2,q2⟩
def CV(t:TA):TE:=λσ H Q=>t σ H λxs H1=>xs.length<=sizeLine/\ ∀p,H1 p=none->Q (.ref p) (cw H1 p (.tup xs))
def C2(t:TA):TE:=λσ H Q=>t σ H λxs H1=>xs.length<=sizeLine/\ ∀p,H1 p=none->Q (.ref p) (cw H1 p (.lst xs))
theorem vY {x1}(h:PA X es t):PE X (.Tuple es x1 pos) (CV t):=by
 intro ae s σ H Q I hq;refine wpAny_Tuple_spliced (cI (h pos ae s σ H _ I hq) λus s1 ⟨xs,H1,I1,r,z,q⟩=>⟨by rw[<-r.length];exact z,?_⟩)
 have hf:H1 s1.heap.objs.size=none:=I1.hok.fresh (Nat.le_refl _)
 refine⟨.ref s1.heap.objs.size,cw H1 s1.heap.objs.size (.tup xs),I1.laid (t':=s1.toks) (λb u e=>Heap.get?_push_of_some _ e) (Nat.le_refl _) ?_,rfl,q _ hf⟩
 exact⟨z,us,r,⟨_,Heap.get?_push_size _ rfl,rfl,_,rfl⟩,_,Heap.get?_push_size _ rfl,rfl⟩
theorem AF(h:PA X es t):PE X (.List es pos) (C2 t):=by
 intro ae s σ H Q I hq;refine wpAny_List_spliced (cI (h pos ae s σ H _ I hq) λus s1 ⟨xs,H1,I1,r,z,q⟩=>⟨by rw[<-r.length];exact z,?_⟩)
 have hf:H1 s1.heap.objs.size=none:=I1.hok.fresh (Nat.le_refl _)
 refine⟨.ref s1.heap.objs.size,cw H1 s1.heap.objs.size (.lst xs),I1.laid (t':=s1.toks) (λb u e=>Heap.get?_push_of_some _ e) (Nat.le_refl _) ?_,rfl,q _ hf⟩
 exact⟨z,us,0,r,Heap.get?_push_size _ rfl⟩
end
abbrev Sp:=List V->Hp->VK->XK->Prop
abbrev ph:=List Env->Hp->Shared->XK->Value->Shared->Prop
structure Env0(P:Program)(w:World)(K:W.Frag)(mg:Str->Option Value)(base:Heap)(A:Around)(outer:List Env)(s:Shared)(H:Hp):Prop where
 frames:A.frames=some outer
 mod:Mod K mg base
 bs: ∀b o,base.get? b=some o->s.heap.get? b=some o/\H b=none
 bsz:base.objs.size<=s.heap.objs.size
 funs:s.heap.FunFrames base outer
 frf: ∀b∈frs outer,H b=none
 hok:HOk P w H s.heap
 bare:AllBare s.gens
def CE(outer:List Env)(P:Program)(w:World)(H:Hp)(s:Shared)(Q:VK)(u:Value)(s':Shared):Prop:=
 ∃v H',s'.os=s.os/\AllBare s'.gens/\Un (frs outer) [] H H' s.heap s'.heap/\HOk P w H' s'.heap/\RelV v u/\Q v H'
def CR(CX:ph)(outer:List Env)(P:Program)(w:World)(H:Hp)(s:Shared)(Q:VK)(E:XK)(r:Result)(s':Shared):Prop:=
 match r with
 | .ok (.ret u)=>CE outer P w H s Q u s'
 | .ok _=>False
 | .error e=>CX outer H s E e s'
structure FnOk(P:Program)(w:World)(K:W.Frag)(mg:Str->Option Value)(base:Heap)(CX:ph)(k:Nat)(f:Addr)(fd:FuncData)(ps:List Str)(sp:Sp):Prop where
 len: ∀vs H Q E,sp vs H Q E->vs.length=ps.length
 run: ∀(A:Around) (outer:List Env) (s:Shared) (H:Hp) (args:Args) (us:List Value) (vs:List V) (Q:VK) (E:XK),Room k A->Env0 P w K mg base A outer s H->BindsTo s fd args (ps.zip us)->Vals vs us->sp vs H Q E->
  codeAny (model P w) A (.call (.ref f) args) (CR CX outer P w H s Q E) s
theorem FnOk.imp {P:Program}{w:World}{K:W.Frag}{mg:Str->Option Value}{base:Heap}{CX:ph}{k:Nat}{f:Addr}{fd:FuncData}{ps:List Str}{sp sp':Sp}(F:FnOk P w K mg base CX k f fd ps sp)
 (h: ∀vs H Q E,sp' vs H Q E->sp vs H Q E):FnOk P w K mg base CX k f fd ps sp':=
 ⟨λvs H Q E q=>F.len vs H Q E (h _ _ _ _ q),λA outer s H args us vs Q E hr he hb hv hs=>F.run A outer s H args us vs Q E hr he hb hv (h _ _ _ _ hs)⟩
section
variable {X:Cx}{ae:List (Addr×Obj)}{σ:St}{H:Hp}{s s':Shared}
theorem Inv.env0(I:Inv X ae σ H s):Env0 X.prog X.w X.K X.mg X.base X.A X.stack s H:=
 ⟨I.ok.frames,I.ok.mod,I.bs,Nat.le_trans I.ok.bsz I.sz,I.stack,I.stkFree,I.hok,I.bare⟩
theorem Inv.after {Q:VK}{u:Value}(I:Inv X ae σ H s)(h:CE X.stack X.prog X.w H s Q u s'):EP X ae σ Q u s':=by
 obtain⟨v,H',os,bare,un,hok,r,q⟩:=h
 obtain⟨hh,g,d,t,os'⟩:=s'
 obtain rfl:os'=s.os:=os
 exact⟨v,H',I.call (h':=hh) (g':=g) (d':=d) (t':=t) (ch:=[]) un hok bare (λb z=>absurd z (by simp)),r,q⟩
end
def BY(sp:Sp)(dvs:List V)(E:XK)(t:TA):TE:=λσ H Q=>t σ H λvs H1=>sp (vs++dvs) H1 Q E
def Binds(K:W.Frag)(fd:FuncData)(ps:List Str)(ds:List Value):Prop:=
 ∀(s:Shared) (us:List Value),K.In s.heap->(us++ds).length=ps.length->BindsTo s fd ⟨us,[]⟩ (ps.zip (us++ds))
theorem Binds.all {K:W.Frag}{fd:FuncData}{ps:List Str}(h: ∀us:List Value,us.length=ps.length->bindArgs fd ⟨us,[]⟩=pure (ps.zip us)):Binds K fd ps []:=λs us _ hl=>by
 rw[List.append_nil] at hl⊢;exact .of_eq (h us hl)
def qV(CX:ph)(X:Cx)(E:XK):Prop:= ∀(ae:List (Addr×Obj)) (σ:St) (H:Hp) (s:Shared) (e:Value) (s':Shared),Inv X ae σ H s->CX X.stack H s E e s'->X.xe e s'
section
variable {X:Cx}{CX:ph}{k:Nat}{f C:Addr}{fd:FuncData}{ps:List Str}{sp:Sp}{dvs:List V}{ds:List Value}{E:XK}{x m:Str}{p pos apos:Pos}{e o:Expr}{es:List Expr}{ta:TE}{t:TA}
theorem A7 {ae:List (Addr×Obj)}{σ:St}{H:Hp}{s:Shared}{Q:VK}{us:List Value}{vs:List V}(F:FnOk X.prog X.w X.K X.mg X.base CX k f fd ps sp)(hr:Room k X.A)(hb:Binds X.K fd ps ds)(hd:Vals dvs ds)(hx:qV CX X E)
 (I:Inv X ae σ H s) (r:Vals vs us) (h:sp (vs++dvs) H Q E):wpAny (model X.prog X.w) X.A (call (.ref f) us) (EP X ae σ Q) X.xe s:=by
 have r2:Vals (vs++dvs) (us++ds):=r.append hd
 have hl:(us++ds).length=ps.length:=by rw[<-r2.length];exact F.len _ _ _ _ h
 refine wpAny_call (codeAny_mono (F.run X.A X.stack s H ⟨us,[]⟩ (us++ds) (vs++dvs) Q E hr I.env0 (hb s us I.kIn hl) r2 h) λr s' hq=>?_)
 cases r with
 |error e=>exact hx ae σ H s e s' I hq
 |ok fl=>
  cases fl with
  |ret u=>exact I.after hq
  |next=>exact False.elim hq
  |brk=>exact False.elim hq
  |cont=>exact False.elim hq
theorem tK(F:FnOk X.prog X.w X.K X.mg X.base CX k f fd ps sp)(hr:Room k X.A)(hg:Gl X x)(hm:X.mg x=some (.ref f))(hk:W.keepIn X.K (.ref f)=true)(hb:Binds X.K fd ps ds)(hd:Vals dvs ds)(hx:qV CX X E)
 (ha:PA X (e::es) t) (hdb:(x==("__debug__":Str))=false:=by decide) (he:starEach (e::es) X.env=(false,eval e X.env)::starEach es X.env:=by rfl) (hpl:(backTo pos (starEach es X.env)).any (·.1)=false:=by rfl):
 PE X (.Call (.Name x p) (e::es) [] pos) (BY sp dvs E t):=by
 intro ae s σ H Q I h;refine wpAny_Call_Name_kw (jj I hg hm ?_ hdb)
 refine W.callWith_K (h₀:=X.base) I.ok.mod.kin hk (cI (ha pos ae s σ H _ I h) λus s1 ⟨vs,H1,I1,r,q⟩=>⟨I1.kIn,?_⟩) he hpl
 exact A7 F hr hb hd hx I1 r q
end
structure FnScope(N P:List Str)(sc:Scope):Prop where
 kind:sc.kind=.function
 co:sc.isCoroutine=false
 gen:sc.isGenerator=false
 nd:N.Nodup
 pre:N.take P.length=P
 par: ∀x∈P,sc.names.lookup x=some .local\/sc.names.lookup x=some .cell
 nofree: ∀y∈sc.names,y.2≠ .free
theorem nq {kindOf:Str->Option NameKind}{x:Str}: ∀ {binds:List (Str×Value)} {m:Str->Option Value},(∀v,(x,v)∉binds)->bindL kindOf binds m x=m x
 | [],_,_=>rfl
 |(n,v)::r,m,h=>by
  unfold bindL;rw[nq λw hw=>h w (List.mem_cons_of_mem _ hw)]
  split
  ·have:x≠n:=by rintro rfl;exact h v List.mem_cons_self
   simp[this]
  ·rfl
theorem nS {kindOf:Str->Option NameKind}{x:Str}: ∀ {binds:List (Str×Value)} {m:Str->Option Value},(∀v,(x,v)∉binds)->bindC kindOf binds m x=m x
 | [],_,_=>rfl
 |(n,v)::r,m,h=>by
  unfold bindC;rw[nS λw hw=>h w (List.mem_cons_of_mem _ hw)]
  split
  ·rfl
  ·have:x≠n:=by rintro rfl;exact h v List.mem_cons_self
   simp[this]
theorem kv {kindOf:Str->Option NameKind}{x:Str}{v:Value}: ∀ {P:List Str} {vs:List Value} {i:Nat} {m:Str->Option Value},P.Nodup->P[i]? =some x->vs[i]? =some v->kindOf x=some .local->
 bindL kindOf (P.zip vs) m x=some v
 | [],_,_,_,_,h,_,_=>by simp at h
 |_::_,[],_,_,_,_,h,_=>by simp at h
 |p::P,w::vs,0,m,nd,h1,h2,hk=>by
  simp at h1 h2;subst h1;subst h2;show bindL kindOf ((p,w)::P.zip vs) m p=_;unfold bindL;rw[nq λv hv=>(List.nodup_cons.mp nd).1 (List.of_mem_zip hv).1,if_pos hk]
  simp
 |p::P,w::vs,i+1,m,nd,h1,h2,hk=>by
  show bindL kindOf ((p,w)::P.zip vs) m x=_;unfold bindL;exact kv (i:=i) (List.nodup_cons.mp nd).2 (by simpa using h1) (by simpa using h2) hk
theorem kF {kindOf:Str->Option NameKind}{x:Str}{v:Value}: ∀ {P:List Str} {vs:List Value} {i:Nat} {m:Str->Option Value},P.Nodup->P[i]? =some x->vs[i]? =some v->kindOf x≠some .local->
 bindC kindOf (P.zip vs) m x=some v
 | [],_,_,_,_,h,_,_=>by simp at h
 |_::_,[],_,_,_,_,h,_=>by simp at h
 |p::P,w::vs,0,m,nd,h1,h2,hk=>by
  simp at h1 h2;subst h1;subst h2;show bindC kindOf ((p,w)::P.zip vs) m p=_;unfold bindC;rw[nS λv hv=>(List.nodup_cons.mp nd).1 (List.of_mem_zip hv).1,if_neg hk]
  simp
 |p::P,w::vs,i+1,m,nd,h1,h2,hk=>by
  show bindC kindOf ((p,w)::P.zip vs) m x=_;unfold bindC;exact kF (i:=i) (List.nodup_cons.mp nd).2 (by simpa using h1) (by simpa using h2) hk
def start(N:List Str)(vs:List V):St:=vs.map some++List.replicate (N.length-vs.length) none
def kJ(CX:ph)(P:Program)(w:World)(K:W.Frag)(mg:Str->Option Value)(base:Heap)(N:List Str)(qual:Str)(scope:Scope)(f:Addr)(cd:Value)(A:Around)(outer:List Env)(s:Shared)(H:Hp)(E:XK):Cx where
 prog:=P
 w:=w
 K:=K
 mg:=mg
 base:=base
 A:=A.deeper (envOfC qual scope s.heap.objs.size f cd)
 N:=N
 s₀:=s
 H₀:=H
 env:=envOfC qual scope s.heap.objs.size f cd
 outer:=outer
 stack:=envOfC qual scope s.heap.objs.size f cd::outer
 ex:=[]
 calm:=true
 fn:=λ_=>true
 pn:=[]
 xe:=λe s'=>wpAny (model P w) (A.deeper (envOfC qual scope s.heap.objs.size f cd)) (leaving (envOfC qual scope s.heap.objs.size f cd) e) (λ_ s''=>CX outer H s E e s'') (λe' s''=>CX outer H s E e' s'') s'
theorem j0 {sc:Scope}{n:Nat}{x:Str}(h:sc.names.lookup x=some .cell): ∃c,(cellsFrom n sc.names []).lookup x=some c:=by
 have q:=W.cellsFrom_some sc.names n [] (.inl h)
 exact Option.isSome_iff_exists.mp q
theorem uZ {CX:ph}{P:Program}{w:World}{K:W.Frag}{mg:Str->Option Value}{base:Heap}{N ps:List Str}{qual:Str}{scope:Scope}{f:Addr}{cd:Value}{A:Around}{outer:List Env}{s s1:Shared}{H:Hp}{E:XK}{us:List Value}{vs:List V}
 (S:FnScope N ps scope) (hd:A.handled=none) (e0:Env0 P w K mg base A outer s H) (hl:vs.length=ps.length) (r:Vals vs us)
 (x:InCallC s s.heap.objs.size (bindL (envOfC qual scope s.heap.objs.size f cd).kindOf (ps.zip us) λ_=>none) (cellsFrom (s.heap.objs.size+1) scope.names []) (bindC (envOfC qual scope s.heap.objs.size f cd).kindOf (ps.zip us) λ_=>none) s1):
 Inv (kJ CX P w K mg base N qual scope f cd A outer s H E) [] (start N vs) H s1:=by
 have hpl:ps.length<=N.length:=by have:=congrArg List.length S.pre;rw[List.length_take] at this;omega
 obtain⟨h1,tk,rfl,hk⟩:=x.done
 have noA: ∀b:Addr,b∉(kJ CX P w K mg base N qual scope f cd A outer s H E).ex:=λb z=>absurd (show b∈([]:List Addr) from z) (by simp)
 refine⟨⟨e0.mod,S.kind,rfl,rfl,Nat.le_refl _,λy z c h1 h2=>?_,λy hy=>?_,λy c _ h=>?_,λ_=>hd,Around.frames_deeper e0.frames,.inr ⟨rfl,rfl⟩,λb z=>absurd z (noA b),e0.bs,e0.bsz,λb _ _=>noA b,λb z=>absurd z (noA b),e0.funs,e0.frf⟩,
  rfl,e0.bare,Un.kept hk,⟨_,x.toInCall.ns,λi y v h1 h2 h3=>?_⟩,λy c h=>⟨_,x.cell y c h⟩,e0.hok.fresh (Nat.le_refl _),λy c h=>?_,λp hp=>absurd (show p∈([]:List (Addr×Obj)) from hp) (by simp),e0.hok.kept hk,?_⟩
 ·exact name_of_addr x.apart (PySem.mem_of_lookup h1) (PySem.mem_of_lookup h2)
 ·have hy:scope.names.lookup y=some .cell\/scope.names.lookup y=some .free:=hy
  rcases hy with hy|hy
  ·exact j0 hy
  ·exact absurd rfl (S.nofree _ (PySem.mem_of_lookup hy))
 ·exact Nat.le_of_lt (x.above y c (PySem.mem_of_lookup h))
 ·have hi:i<vs.length:=by
   unfold start at h2
   by_cases hi:i<vs.length
   ·exact hi
   ·rw[List.getElem?_append_right (by simpa using hi)] at h2
    rw[List.getElem?_replicate] at h2;split at h2<;>cases h2
  have ha:vs[i]? =some v:=by
   unfold start at h2;rw[List.getElem?_append_left (by simpa using hi),List.getElem?_map] at h2
   cases e:vs[i]? with
   |none=>rw[e] at h2;cases h2
   |some a=>rw[e] at h2;cases h2;rfl
  obtain⟨u,hu,rv⟩:=r.get ha
  have hp:ps[i]? =some y:=by
   rw[<-S.pre,List.getElem?_take_of_lt (by omega)];exact h1
  have ndP:ps.Nodup:=by rw[<-S.pre];exact S.nd.sublist (List.take_sublist _ _)
  refine⟨u,rv,?_⟩
  rcases S.par y (List.mem_of_getElem? hp) with k|k
  ·exact .inl ⟨k,kv ndP hp hu k⟩
  ·obtain⟨c,e⟩:=j0 (n:=s.heap.objs.size+1) k
   refine .inr ⟨.inl k,c,e,?_⟩
   have q:=x.cell y c e
   rw[kF ndP hp hu (by show scope.names.lookup y≠_;rw[k];decide)] at q
   exact q
 ·exact e0.hok.fresh (Nat.le_of_lt (x.above y c (PySem.mem_of_lookup h)))
 ·unfold start
  show _=N.length;rw[List.length_append,List.length_map,List.length_replicate];omega
theorem yN {CX:ph}{P:Program}{w:World}{K:W.Frag}{mg:Str->Option Value}{base:Heap}{k:Nat}{f:Addr}{name qual:Str}{params:Arguments}{body:List Stmt}{scope:Scope}{dV kV doc pm cdv ct oc:Value}{an od:Option Addr}
 {osl:Array (Option Value)} {N ps:List Str} {sp:Sp} (lk:K.lookup f=some ⟨oc,od,.func (W.fnOf name qual params body scope dV kV doc pm an cdv ct),osl⟩) (hcd:W.codeIn K cdv qual=true) (S:FnScope N ps scope)
 (len: ∀vs H Q E,sp vs H Q E->vs.length=ps.length)
 (hbody: ∀(A:Around) (outer:List Env) (s:Shared) (H:Hp) (vs:List V) (Q:VK) (E:XK),Room k (A.deeper (envOfC qual scope s.heap.objs.size f cdv))->sp vs H Q E->
   ∃t,PSs (kJ CX P w K mg base N qual scope f cdv A outer s H E) body t/\t {nx:=λ_ H'=>Q .non H',rt:=Q} (start N vs) H):
 FnOk P w K mg base CX (k+1) f (W.fnOf name qual params body scope dV kV doc pm an cdv ct) ps sp:=by
 refine⟨len,λA outer s H args us vs Q E hr e0 hb r hsp=>?_⟩
 have hl:=len _ _ _ _ hsp
 have KX:K.In s.heap:=e0.mod.kin.keeps λb o e=>(e0.bs b o e).1
 have lim:s.heap.NoLimit:=e0.mod.nolimit.keeps λb o e=>(e0.bs b o e).1
 have hkind: ∀y∈ps.zip us,scope.names.lookup y.1=some .local\/(scope.names.lookup y.1=some .cell/\((cellsFrom (s.heap.objs.size+1) scope.names []).lookup y.1).isSome=true):=λ⟨n,v⟩ hy=>by
  rcases S.par n (List.of_mem_zip hy).1 with q|q
  ·exact .inl q
  ·exact .inr ⟨q,W.cellsFrom_some _ _ _ (.inl q)⟩
 refine codeAny_call_function hr.depth (KX _ _ lk) rfl S.co S.gen rfl (W.codeRec_of KX hcd) (hb _ _ _ _ ?_)
 refine wpAny_newFunctionEnv_cells S.kind hkind λenv he s1 x=>?_
 subst he;refine⟨lim.keeps x.toInCall.keep,codeAny_func ?_⟩
 obtain⟨t,ht,hq⟩:=hbody A outer s H vs Q E (hr.deeper _) hsp
 have I:Inv (kJ CX P w K mg base N qual scope f cdv A outer s H E) [] (start N vs) H s1:=uZ S hr.hd e0 hl r x
 refine wpAny_mono (ht [] s1 (start N vs) H _ I hq) (λfl s' hs=>?_) λe s' hs=>hs
 have fin: ∀ {σ':St} {H':Hp} {v:V} {u:Value},Inv (kJ CX P w K mg base N qual scope f cdv A outer s H E) [] σ' H' s'->RelV v u->Q v H'->CE outer P w H s Q u s':=
  λ{σ' H' v u} J rv q=>⟨v,H',J.os,J.bare,J.base,J.hok,rv,q⟩
 cases fl with
 |ret u=>
  obtain⟨v,σ',H',J,rv,q⟩:=hs
  exact fin J rv q
 |next=>
  obtain⟨σ',H',J,q⟩:=hs
  exact fin (v:=V.non) (u:=Value.none) J rfl q
 |brk=>
  obtain⟨_,_,_,q⟩:=hs
  exact False.elim q
 |cont=>
  obtain⟨_,_,_,q⟩:=hs
  exact False.elim q
section
variable {X:Cx}{x:Str}{p pos:Pos}{e:Expr}{es:List Expr}{t:TA}{id T:String}{r:List V->Hp->VK->Prop}
def Dn(r:List V->Hp->VK->Prop)(t:TA):TE:=λσ H Q=>t σ H λvs H1=>r vs H1 Q
theorem gW(hc:dH X (.builtin id) r)(hg:Gl X x)(hm:X.mg x=none)(hv:bootBuiltins x=some (.builtin id))(ha:PA X (e::es) t)(hn:x≠"__name__":=by decide)(hdb:(x==("__debug__":Str))=false:=by decide)
 (he:starEach (e::es) X.env=(false,eval e X.env)::starEach es X.env:=by rfl) (hpl:(backTo pos (starEach es X.env)).any (·.1)=false:=by rfl):PE X (.Call (.Name x p) (e::es) [] pos) (Dn r t):=by
 intro ae s σ H Q I h;refine wpAny_Call_Name_kw (ml I hg hm hv ?_ hn hdb)
 exact PyProof.Rows.callWith_builtin1 (cI (ha pos ae s σ H _ I h) λus s1 ⟨vs,H1,I1,r1,q1⟩=>hc ae s1 σ H1 vs us Q I1 r1 q1) he hpl
theorem eB(hc:dH X (.type T) r)(hg:Gl X x)(hm:X.mg x=none)(hv:bootBuiltins x=some (.type T))(ha:PA X (e::es) t)(hn:x≠"__name__":=by decide)(hdb:(x==("__debug__":Str))=false:=by decide)
 (he:starEach (e::es) X.env=(false,eval e X.env)::starEach es X.env:=by rfl) (hpl:(backTo pos (starEach es X.env)).any (·.1)=false:=by rfl):PE X (.Call (.Name x p) (e::es) [] pos) (Dn r t):=by
 intro ae s σ H Q I h;refine wpAny_Call_Name_kw (ml I hg hm hv ?_ hn hdb)
 exact PyProof.Rows.callWith_type1 (cI (ha pos ae s σ H _ I h) λus s1 ⟨vs,H1,I1,r1,q1⟩=>hc ae s1 σ H1 vs us Q I1 r1 q1) he hpl
end
end L2
namespace HT
open PySem PyProof.Rows
section
variable {prog:Program}{w:World}{A:Around}{E:Value->Shared->Prop}{s:Shared}
theorem rT {v:Value}{o:Option Int}{Q:Option Int->Shared->Prop}(p:IsPart v o)(h:Q o s):wpAny (model prog w) A (Builtin.Slice.slicePartIndex v) Q E s:=by
 cases p with
 |none=>exact slicePart_none h
 |int i t=>exact slicePart_int h
end
end HT
namespace L2
open PySem PySem.Spec PyProof.Rows
abbrev TO:=St->Hp->(Option Int->Hp->Prop)->Prop
def PO(X:Cx)(e:Option Expr)(t:TO):Prop:=
 ∀(ae:List (Addr×Obj)) (s:Shared) (σ:St) (H:Hp) (Q:Option Int->Hp->Prop),Inv X ae σ H s->t σ H Q->
  wpAny (model X.prog X.w) X.A (evalPart e X.env) (λu s'=> ∃o H',Inv X ae σ H' s'/\IsPart u o/\Q o H') X.xe s
def B7(t:TE):TO:=λσ H Q=>t σ H λx H1=> ∃i,x=.int i/\Q (some i) H1
theorem mz {ns:List Int}: ∀ {us:List Value},Vals (ns.map V.int) us->IntsAre us ns:=by
 induction ns with
 |nil=>intro us r;rw[List.map_nil] at r;cases r;exact .nil
 |cons n ns ih=>
  intro us r;rw[List.map_cons] at r;cases r with
  |cons r1 r2=>
   obtain⟨t,e⟩:=r1
   subst e;exact .cons n t (ih r2)
section
variable {X:Cx}{e:Expr}{te:TE}{lo hi:Option Expr}{tl th:TO}{pos p2:Pos}
theorem xA(h:PE X e te):PO X (some e) (B7 te):=by
 intro ae s σ H Q I hw;rw[evalPart_some];refine cI (h ae s σ H _ I hw) λu s1 hq_=>?_
 obtain⟨x,H1,I1,r1,q1⟩:=hq_
 obtain⟨i,rfl,q⟩:=q1
 obtain⟨t,rfl⟩:=r1
 exact⟨some i,H1,I1,.int i t,q⟩
end
def qy(n:Nat)(i:Int):Option Nat:=if 0<=i then(if i<n then some i.toNat else none) else if -(n:Int)<=i then some (i+n).toNat else none
def nJ {α:Type}(xs:List α)(i:Int):Option α:=(qy xs.length i).bind λj=>xs[j]?
theorem oK {n:Nat}{i:Int}{j:Nat}(h:qy n i=some j):seqIndex? i n=some j/\j<n/\ -(n:Int)<=i/\i<n:=by
 unfold qy at h
 by_cases h0:0<=i
 ·rw[if_pos h0] at h
  by_cases h1:i<n
  ·rw[if_pos h1] at h
   have e:i.toNat=j:=Option.some.inj h
   exact⟨by rw[seqIndex_of h0 h1,e],by omega,by omega,h1⟩
  ·rw[if_neg h1] at h;cases h
 ·rw[if_neg h0] at h
  by_cases h1: -(n:Int)<=i
  ·rw[if_pos h1] at h
   have e:(i+n).toNat=j:=Option.some.inj h
   exact⟨by rw[seqIndex_neg (by omega) h1,e],by omega,h1,by omega⟩
  ·rw[if_neg h1] at h;cases h
theorem oF {α:Type}{xs:List α}{i:Int}{v:α}(h:nJ xs i=some v): ∃j,seqIndex? i xs.length=some j/\xs[j]? =some v/\j<xs.length/\ -(xs.length:Int)<=i/\i<xs.length:=by
 unfold nJ at h;cases e:qy xs.length i with
 |none=>rw[e] at h;cases h
 |some j=>
  rw[e] at h;obtain⟨h1,h2,h3,h4⟩:=oK e
  exact⟨j,h1,h,h2,h3,h4⟩
theorem tF {α:Type}{xs:List α}{j:Nat}{v:α}(h:xs[j]? =some v):nJ xs (j:Int)=some v:=by
 have hj:j<xs.length:=(List.getElem?_eq_some_iff.mp h).1
 have e:qy xs.length (j:Int)=some j:=by
  unfold qy;rw[if_pos (by omega),if_pos (by omega)];simp
 unfold nJ;rw[e];exact h
def n9(b:Expr):Prop:= ∀o i,subscripted b false o i=operate [o,i] (getItem o i)
def IxR(X:Cx)(r:R2):Prop:=
 ∀(value slice:Expr) (ae:List (Addr×Obj)) (s:Shared) (σ:St) (H:Hp) (x y:V) (v u:Value) (Q:VK),Inv X ae σ H s->RelV x v->RelV y u->r x y H Q->
  subscripted slice false v u=operate [v,u] (getItem v u)->wpAny (model X.prog X.w) X.A (subscriptTail value slice v u) (EP X ae σ Q) X.xe s
def Cw(X:Cx)(id:String)(r:V->List V->Hp->VK->Prop):Prop:=
 ∀(ae:List (Addr×Obj)) (s:Shared) (σ:St) (H:Hp) (x:V) (xs:List V) (v:Value) (us:List Value) (Q:VK),Inv X ae σ H s->RelV x v->Vals xs us->r x xs H Q->
  wpAny (model X.prog X.w) X.A (call (.builtin id) (v::us)) (EP X ae σ Q) X.xe s
section
variable {X:Cx}{a b:Expr}{ta tb:TE}{pos:Pos}
theorem IxR.or {r r':R2}(h:IxR X r)(h':IxR X r'):IxR X (λx y H Q=>r x y H Q\/r' x y H Q):=by
 intro value slice ae s σ H x y v u Q I rx ry q hs;rcases q with q|q
 ·exact h value slice ae s σ H x y v u Q I rx ry q hs
 ·exact h' value slice ae s σ H x y v u Q I rx ry q hs
theorem Cn {r:R2}(hr:IxR X r)(ha:PE X a ta)(hb:PE X b tb)(hs:n9 b):PE X (.Subscript a b pos) (zP r ta tb):=by
 intro ae s σ H Q I h;exact Subscript_ (AA ha hb I h λv u s2 x y H2 I2 rx ry q=>hr a b ae s2 σ H2 x y v u Q I2 rx ry q (hs _ _))
def BH(K:W.Frag):R2:=λx y H Q=> ∃p xs i v,x=.ref p/\y=.int i/\SqL K H p xs/\nJ xs i=some v/\Q v H
def Bo(K:W.Frag):R2:=λx y H Q=> ∃p xs i v,x=.ref p/\y=.int i/\SqT K H p xs/\nJ xs i=some v/\Q v H
def BA:R2:=λx y H Q=> ∃z i c,x=.str z/\y=.int i/\z.length<=sizeLine/\nJ z.cps.toList i=some c/\Q (.str ⟨#[c]⟩) H
theorem ix_list:IxR X (BH X.K):=by
 intro value slice ae s σ H x y v u Q I rx ry h hs;obtain⟨p,xs,i,z,rfl,rfl,hq,he,q⟩:=h
 cases rx
 obtain⟨t,rfl⟩:=ry
 obtain⟨its,r,pl,hz⟩:=I.list hq
 obtain⟨j,h1,h2,h3,h4,h5⟩:=oF he
 obtain⟨w,ew,rw'⟩:=r.get h2
 have hl:=r.length
 have hn:=jQ
 have fin:EP X ae σ Q w s:=⟨z,H,I,rw',q⟩
 by_cases h0:0<=i
 ·have hj:i.toNat=j:=by
   rw[seqIndex_of h0 h5] at h1;exact Option.some.inj h1
  exact item_listR pl.isList h0 (by omega) (by rw[hj];simpa using ew) fin hs
 ·have hj:(i+(its.toArray.size:Int)).toNat=j:=by
   rw[seqIndex_neg (by omega) h4] at h1
   rw[List.size_toArray,<-hl];exact Option.some.inj h1
  exact subscriptTail_builtinR (x:=w) pl.isList.typeIs slot_list_getitem.lookup
   (wpAny_getItem_list_neg (Q:=λr s'=>r=w/\EP X ae σ Q r s') pl.isList (by omega) (by rw[List.size_toArray]<;>omega) (by omega) (by rw[hj];simpa using ew) ⟨rfl,fin⟩) hs
theorem ix_tup:IxR X (Bo X.K):=by
 intro value slice ae s σ H x y v u Q I rx ry h hs;obtain⟨p,xs,i,z,rfl,rfl,hq,he,q⟩:=h
 cases rx
 obtain⟨t,rfl⟩:=ry
 obtain⟨its,r,pl,hz⟩:=I.tuple hq
 obtain⟨j,h1,h2,h3,h4,h5⟩:=oF he
 obtain⟨w,ew,rw'⟩:=r.get h2
 have hl:=r.length
 have hn:=jQ
 have fin:EP X ae σ Q w s:=⟨z,H,I,rw',q⟩
 exact subscriptTail_builtinR (x:=w) pl.typeIs slot_tuple_getitem.lookup
  (getItem_tuple (j:=j) (Q:=λr s'=>r=w/\EP X ae σ Q r s') pl (by omega) (by omega) (by rw[List.size_toArray,<-hl];exact h1) (by simpa using ew) ⟨rfl,fin⟩) hs
theorem zj:IxR X BA:=by
 intro value slice ae s σ H x y v u Q I rx ry h hs;obtain⟨z,i,c,rfl,rfl,hz,he,q⟩:=h
 obtain⟨t,rfl⟩:=rx
 obtain⟨t',rfl⟩:=ry
 obtain⟨j,h1,h2,h3,h4,h5⟩:=oF he
 have hl:z.cps.toList.length=z.length:=by simp[Str.length]
 rw[hl] at h1 h4 h5;have hn:=jQ
 exact tail_any (typeIs_str s z t) slot_str_getitem.lookup (getItem_str (c:=c) (by
  have e1:decide (i< -(2^63:Int))=false:=decide_eq_false (by omega)
  have e2:decide (i≥2^63)=false:=decide_eq_false (by omega)
  rw[e1,e2,Bool.or_false]) (by rw[h1];simpa using h2) ⟨.str ⟨#[c]⟩,H,I.tok _,⟨_,rfl⟩,q⟩) hs
def Ec(K:W.Frag):R2:=λx y H Q=>BH K x y H Q\/Bo K x y H Q\/BA x y H Q
theorem aH:IxR X (Ec X.K):=ix_list.or (ix_tup.or zj)
theorem rK(its:List Value)(n j:Nat)(u:Value):Obj.mapSeq (·.setIfInBounds j u) {cls:=.type "list",data:=.seq its.toArray n}={cls:=.type "list",data:=.seq (its.set j u).toArray n}:=by
 simp[Obj.mapSeq]
theorem Inv.lst {ae:List (Addr×Obj)}{σ:St}{H:Hp}{s:Shared}{p:Addr}{xs:List V}(I:Inv X ae σ H s)(h:H p=some (.lst xs)):
 ∃(its:List Value) (n:Nat),Vals xs its/\s.heap.get? p=some {cls:=.type "list",data:=.seq its.toArray n}/\xs.length<=sizeLine:=by
 obtain⟨z,its,n,r,e⟩:=I.hok p _ h
 exact⟨its,n,r,e,z⟩
theorem Inv.lstUpd {ae:List (Addr×Obj)}{σ:St}{H:Hp}{s:Shared}{p:Addr}{xs ys:List V}{its its':List Value}{n n':Nat}{f:Obj->Obj}(I:Inv X ae σ H s)(h:H p=some (.lst xs))
 (ho:s.heap.get? p=some {cls:=.type "list",data:=.seq its.toArray n}) (hf:f {cls:=.type "list",data:=.seq its.toArray n}={cls:=.type "list",data:=.seq its'.toArray n'}) (r:Vals ys its') (hz:ys.length<=sizeLine) (t:Nat):
 Inv X ae σ (cw H p (.lst ys)) {s with heap:=s.heap.update p f,toks:=t}:=by
 have e:(s.heap.update p f).get? p=some {cls:=.type "list",data:=.seq its'.toArray n'}:=by
  rw[Heap.get?_update_self f ho (by rw[hf]<;>rfl),hf]
 refine I.write (x:=p) (e:=p) (by rw[h];trivial) (.inl rfl) (λb u hb q=>(Heap.get?_update_other _ _ (Ne.symm hb)).trans q) ⟨_,e⟩ ?_
 exact⟨hz,its',n',r,e⟩
def BI:V->V->V->Hp->(Hp->Prop)->Prop:=λo i v H Q=> ∃p xs k j,o=.ref p/\i=.int k/\H p=some (.lst xs)/\qy xs.length k=some j/\Q (cw H p (.lst (xs.set j v)))
theorem wM:BP X BI:=by
 intro ae s σ H o i v ov iv u Q I ro ri rv h;obtain⟨p,xs,k,j,rfl,rfl,hp,hj,q⟩:=h
 cases ro
 obtain⟨t,rfl⟩:=ri
 obtain⟨its,n,r,ho,hz⟩:=I.lst hp
 obtain⟨h1,h2,h3,h4⟩:=oK hj
 have hl:=r.length
 have hn:=jQ
 have I':Inv X ae σ (cw H p (.lst (xs.set j v))) {s with heap:=s.heap.update p (Obj.mapSeq (·.setIfInBounds j u))}:=
  I.lstUpd hp ho (rK its n j u) (r.set rv j) (by rw[List.length_set];exact hz) s.toks
 by_cases h0:0<=k
 ·have hk:k.toNat=j:=by
   rw[seqIndex_of h0 h4] at h1;exact Option.some.inj h1
  exact W.ki_setAt ho h0 (by omega) (by rw[List.size_toArray,<-hl];exact h4) (by rw[hk];exact⟨_,I',q⟩)
 ·have hk:(k+(its.toArray.size:Int)).toNat=j:=by
   rw[seqIndex_neg (by omega) h3] at h1
   rw[List.size_toArray,<-hl];exact Option.some.inj h1
  exact W.ki_setBack ho (by omega) (by rw[List.size_toArray,<-hl];exact h3) (by omega) (by rw[hk];exact⟨_,I',q⟩)
theorem aO:dH X (.builtin "len") (λxs H Q=> ∃p ys,xs=[.ref p]/\(SqL X.K H p ys\/SqT X.K H p ys)/\Q (.int ys.length) H):=by
 intro ae s σ H xs us Q I r h;obtain⟨p,ys,rfl,hq,q⟩:=h
 obtain⟨u,rfl,rx⟩:=gH r
 cases rx
 have hn:=jQ
 rcases hq with hq|hq
 ·obtain⟨its,r',pl,hz⟩:=I.list hq
  have hlen:=r'.length
  exact Calls.call_len_list pl.isList (by simp only[List.size_toArray]<;>omega) ⟨.int ys.length,H,I.tok _,⟨s.toks+1,by rw[List.size_toArray,hlen]⟩,q⟩
 ·obtain⟨its,r',pl,hz⟩:=I.tuple hq
  have hlen:=r'.length
  exact len_tuple pl (by simp only[List.size_toArray]<;>omega) ⟨.int ys.length,H,I.tok _,⟨s.toks+1,by rw[List.size_toArray,hlen]⟩,q⟩
theorem fA:dH X (.type "tuple") (λxs H Q=> ∃p ys,xs=[.ref p]/\((SqL X.K H p ys/\ ∀l,H l=none->Q (.ref l) (cw H l (.tup ys)))\/(SqT X.K H p ys/\Q (.ref p) H))):=by
 intro ae s σ H xs us Q I r h;obtain⟨p,ys,rfl,h⟩:=h
 obtain⟨u,rfl,rx⟩:=gH r
 cases rx
 rcases h with⟨hq,q⟩|⟨hq,q⟩
 ·obtain⟨its,r',pl,hz⟩:=I.list hq
  have hlen:=r'.length
  refine call_tuple_list pl.isList (λh' kp=>?_) (by simp only[List.size_toArray]<;>omega)
  have I1:Inv X ae σ H {s with heap:=h'}:=I.kept (t':=s.toks) kp
  have I2:Inv X ae σ (cw H h'.objs.size (.tup ys)) {s with heap:=h'.push {cls:=.type "tuple",data:=.seq its.toArray}}:=
   I1.laid (t':=s.toks) (λb o e=>Heap.get?_push_of_some _ e) (Nat.le_refl _) (show ObjOk X.prog X.w _ _ _ (.tup ys) from⟨hz,its,r',IsTup.new _ _,_,Heap.get?_push_size _ rfl,rfl⟩)
  exact⟨.ref h'.objs.size,_,I2,rfl,q _ (I1.hok.fresh (Nat.le_refl _))⟩
 ·obtain⟨its,r',pl,hz⟩:=I.tuple hq
  exact call_tuple_same pl ⟨.ref p,H,I,rfl,q⟩
def DN(K:W.Frag)(T:String)(x:V)(H:Hp):Prop:=match x with
 | .str _=>T="str"
 | .int _=>T="int"
 | .ref p=>(T="list"/\ ∃xs,SqL K H p xs)\/(T="tuple"/\ ∃xs,SqT K H p xs)\/
    (T="dict"/\((∃kvs,H p=some (.dK kvs))\/ ∃kvs,H p=some (.dT kvs)))\/(T="set"/\ ∃S n,H p=some (.set S n))\/(T="set"/\ ∃xs,H p=some (.tst xs))
 |_=>False
theorem wu {ae:List (Addr×Obj)}{σ:St}{H:Hp}{s:Shared}{T:String}{x:V}{v:Value}(I:Inv X ae σ H s)(r:RelV x v)(ty:DN X.K T x H):
 s.TypeIs v T/\ ∀a,v=.ref a-> ∃ob,s.heap.get? a=some ob/\ob.dict=none:=by
 cases x with
 |str z=>
  obtain⟨t,rfl⟩:=r
  cases (show T="str" from ty)
  exact⟨typeIs_str s z t,λ_ e=>nomatch e⟩
 |int i=>
  obtain⟨t,rfl⟩:=r
  cases (show T="int" from ty)
  exact⟨typeIs_int s i t,λ_ e=>nomatch e⟩
 |ref p=>
  cases r
  rcases ty with⟨rfl,xs,hq⟩|⟨rfl,xs,hq⟩|⟨rfl,hk⟩|⟨rfl,S,n,hk⟩|⟨rfl,xs,hk⟩
  ·obtain⟨its,_,pl,_⟩:=I.list hq
   refine⟨pl.isList.typeIs,λa e=>?_⟩
   cases e
   obtain⟨o,n,e,c,hd,_⟩:=pl
   exact⟨o,e,hd⟩
  ·obtain⟨⟨ob,ho,hc⟩,o2,h2,hd⟩:=I.tupleN hq
   refine⟨⟨ob,ho,hc⟩,λa e=>?_⟩
   cases e
   exact⟨o2,h2,hd⟩
  ·have z: ∃o,s.heap.get? p=some o/\o.ExactDict:=by
    rcases hk with⟨kvs,hk⟩|⟨kvs,hk⟩
    ·obtain⟨_,_,_,_,o,_,_,e,ex,_⟩:=I.hok p _ hk
     exact⟨o,e,ex⟩
    ·obtain⟨_,_,_,_,o,_,_,e,ex,_⟩:=I.hok p _ hk
     exact⟨o,e,ex⟩
   obtain⟨o,e,ex⟩:=z
   refine⟨⟨o,e,ex.1⟩,λa e2=>?_⟩
   cases e2
   exact⟨o,e,ex.2.1⟩
  ·obtain⟨o,_,_,_,e,ex,_⟩:=I.hok p _ hk
   refine⟨⟨o,e,ex.1⟩,λa e2=>?_⟩
   cases e2
   exact⟨o,e,ex.2.1⟩
  ·obtain⟨o,_,_,_,e,ex⟩:=I.hok p _ hk
   refine⟨⟨o,e,ex.ex.1⟩,λa e2=>?_⟩
   cases e2
   exact⟨o,e,ex.ex.2.1⟩
 |_=>exact False.elim ty
def Dk(K:W.Frag)(T:String)(r:V->List V->Hp->VK->Prop)(to:TE):TE:=λσ H Q=>to σ H λx H1=>DN K T x H1/\r x [] H1 Q
def Eu(K:W.Frag)(T:String)(r:V->List V->Hp->VK->Prop)(to:TE)(t:TA):TE:=λσ H Q=>to σ H λx H1=>DN K T x H1/\t σ H1 λxs H2=>r x xs H2 Q
variable {o e:Expr}{es:List Expr}{to:TE}{t:TA}{name:Str}{apos cpos:Pos}{T id:String}{r:V->List V->Hp->VK->Prop}
theorem Ai(pa:PlainAttrs T)(slot:Slot T name id)(hty:typeOf (.builtin id)=pure (.type "method_descriptor"))(hm:Cw X id r)(ho:PE X o to)
 (hbase:attributeBase o name X.env (eval o X.env)=eval o X.env:=by rfl) (hline:(apos.endLine==cpos.line)=true:=by rfl):PE X (.Call (.Attribute o name apos) [] [] cpos) (Dk X.K T r to):=by
 intro ae s σ H Q I h;refine wpAny_Call_method0_late hbase hline (cI (ho ae s σ H _ I h) λv s1 hq_=>?_)
 obtain⟨x,H1,I1,r1,ty,q1⟩:=hq_
 obtain⟨h1,h2⟩:=wu I1 r1 ty
 exact⟨T,id,pa,slot,hty,h1,h2,Calls.callWith_builtin rfl (PySem.evalArgs_none (hm ae s1 σ H1 x [] v [] Q I1 r1 .nil q1))⟩
theorem qb(pa:PlainAttrs T)(slot:Slot T name id)(hty:typeOf (.builtin id)=pure (.type "method_descriptor"))(hm:Cw X id r)(ho:PE X o to)(ha:PA X (e::es) t)
 (hbase:attributeBase o name X.env (eval o X.env)=eval o X.env:=by rfl)
 (hfew:((backTo cpos (starEach (e::es) X.env)).all (λx=> !x.1)&&(backToKw cpos (keywordEach [] X.env)).all (λx=>x.1.isSome)
   &&decide ((e::es).length+([]:List Keyword).length+(if([]:List Keyword).isEmpty then 0 else 1)<30))=true:=by rfl)
 (hline:(apos.endLine==cpos.line)=true:=by rfl) (hs:starEach (e::es) X.env=(false,eval e X.env)::starEach es X.env:=by rfl) (hplain:(backTo cpos (starEach es X.env)).any (·.1)=false:=by rfl):
 PE X (.Call (.Attribute o name apos) (e::es) [] cpos) (Eu X.K T r to t):=by
 intro ae s σ H Q I h;refine wpAny_Call_method_late hbase hfew hline rfl (cI (ho ae s σ H _ I h) λv s1 hq_=>?_)
 obtain⟨x,H1,I1,r1,ty,q1⟩:=hq_
 obtain⟨h1,h2⟩:=wu I1 r1 ty
 refine⟨T,id,pa,slot,hty,h1,h2,?_⟩
 have hA:=ha cpos ae s1 σ H1 _ I1 q1
 rw[hs] at hA⊢;refine Calls.callWith_builtin (by show(false||(backTo cpos (starEach es X.env)).any (·.1))=false;rw[hplain]<;>rfl) (Calls.evalArgs_plain ?_)
 exact cI hA λus s2 ⟨vs,H2,I2,r2,q2⟩=>hm ae s2 σ H2 x vs v us Q I2 r1 r2 q2
end
def A3(X:Cx)(id:String)(r:V->List V->Hp->VK->Prop):Prop:=
 ∀(ae:List (Addr×Obj)) (s:Shared) (σ:St) (H:Hp) (x:V) (xs:List V) (v:Value) (us:List Value) (Q:VK),Inv X ae σ H s->RelV x v->Vals xs us->r x xs H Q->
  wpAny (model X.prog X.w) X.A (call (.builtin id) (v::us)) (EP X ae σ Q) X.xe s
theorem Vals.one: ∀ {x:V} {us:List Value},Vals [x] us-> ∃u,us=[u]/\RelV x u
 |_,_,.cons r .nil=>⟨_,rfl,r⟩
theorem Vals.zero: ∀ {us:List Value},Vals [] us->us=[]
 |_,.nil=>rfl
theorem Vals.eraseIdx: ∀ {xs:List V} {us:List Value} (i:Nat),Vals xs us->Vals (xs.eraseIdx i) (us.eraseIdx i)
 |_,_,_,.nil=>.nil
 |_,_,0,.cons _ t=>t
 |_,_,i+1,.cons r t=>.cons r (Vals.eraseIdx i t)
theorem Vals.reverse {xs:List V}{us:List Value}(h:Vals xs us):Vals xs.reverse us.reverse:=by
 induction h with
 |nil=>exact .nil
 |cons r t ih=>rw[List.reverse_cons,List.reverse_cons];exact Vals.append ih (.cons r .nil)
theorem kn {α:Type}: ∀(l:List α) (i:Nat),(l.eraseIdx i).length<=l.length
 | [],_=>Nat.le_refl _
 |_::_,0=>Nat.le_succ _
 |_::r,i+1=>Nat.succ_le_succ (kn r i)
section
variable {X:Cx}{ae:List (Addr×Obj)}{σ:St}{H:Hp}{s:Shared}{l b:Addr}{xs ys zs:List V}
theorem Inv.lset {its its':List Value}{n:Nat}{f:Array Value->Array Value}{t':Nat}(I:Inv X ae σ H s)(hH:H l=some (.lst xs))
 (e:s.heap.get? l=some {cls:=.type "list",data:=.seq its.toArray n}) (hf:f its.toArray=its'.toArray) (hv:Vals ys its') (hz:ys.length<=sizeLine):
 Inv X ae σ (cw H l (.lst ys)) {s with heap:=s.heap.update l (Obj.mapSeq f),toks:=t'}:=by
 have q:=PySem.IsL.update e f
 rw[hf] at q;refine I.write (x:=l) (e:=l) (by rw[hH];exact trivial) (.inl rfl) (λb' u hb hu=>(Heap.get?_update_other s.heap (Obj.mapSeq f) (Ne.symm hb)).trans hu) ⟨_,q⟩ ?_
 exact⟨hz,its',_,hv,q⟩
theorem Inv.lnew {its:List Value}{t':Nat}(I:Inv X ae σ H s)(hv:Vals ys its)(hz:ys.length<=sizeLine):
 Inv X ae σ (cw H s.heap.objs.size (.lst ys)) {s with heap:=s.heap.push {cls:=.type "list",data:=.seq its.toArray},toks:=t'}:=
 I.laid (λ_ _ q=>Heap.get?_push_of_some _ q) (Nat.le_refl _) ⟨hz,its,0,hv,Heap.get?_push_size _ rfl⟩
theorem Inv.fresh(I:Inv X ae σ H s):H s.heap.objs.size=none:=I.hok.fresh (Nat.le_refl _)
theorem Inv.lstM(I:Inv X ae σ H s)(hH:H l=some (.lst xs)):xs.length<=sizeLine/\ ∃(its:List Value) (n:Nat),Vals xs its/\xs.length=its.length/\s.heap.get? l=some {cls:=.type "list",data:=.seq its.toArray n}:=by
 obtain⟨z,its,n,r,e⟩:=I.hok l _ hH
 exact⟨z,its,n,r,r.length,e⟩
theorem v7 {n:Nat}(h:n<=sizeLine):Builtin.List.listTooLong n=false:=by
 unfold Builtin.List.listTooLong;exact decide_eq_false (by omega)
end
section
variable {X:Cx}
def sM:V->List V->Hp->VK->Prop:=λx vs H Q=> ∃l xs y,x=.ref l/\vs=[y]/\H l=some (.lst xs)/\xs.length<sizeLine/\Q .non (cw H l (.lst (xs++[y])))
theorem eY:A3 X "list.append" sM:=by
 intro ae s σ H x vs v us Q I rx rv h;obtain⟨l,xs,y,rfl,rfl,hH,hz,q⟩:=h
 cases rx
 obtain⟨u,rfl,ru⟩:=rv.one
 obtain⟨z,its,n,r,hl,e⟩:=I.lstM hH
 refine call_meets F.slot_list_append ⟨_,e,rfl⟩ F.entry_list_append (F.args_list_append_2 _ _) (PySem.list_append l its.toArray n u (by rw[List.size_toArray];omega)) ⟨e,?_⟩
 refine⟨.non,_,I.lset (its':=its++[u]) hH e (by simp) (r.append (.cons ru .nil)) ?_,rfl,q⟩
 rw[List.length_append,List.length_singleton];omega
def yG:V->List V->Hp->VK->Prop:=λx vs H Q=> ∃l b xs zs,x=.ref l/\vs=[.ref b]/\H l=some (.lst xs)/\H b=some (.lst zs)/\xs.length+zs.length<=sizeLine/\Q .non (cw H l (.lst (xs++zs)))
theorem uF:A3 X "list.extend" yG:=by
 intro ae s σ H x vs v us Q I rx rv h;obtain⟨l,b,xs,zs,rfl,rfl,hH,hB,hz,q⟩:=h
 cases rx
 obtain⟨u,rfl,ru⟩:=rv.one
 cases ru
 obtain⟨z,its,n,r,hl,e⟩:=I.lstM hH
 obtain⟨z2,its2,n2,r2,hl2,e2⟩:=I.lstM hB
 have hsz:its.toArray.size+its2.toArray.size<=sizeLine:=by rw[List.size_toArray,List.size_toArray];omega
 have hlong: ¬(!its.toArray.isEmpty&&Builtin.List.listTooLong (its.toArray.size+its2.toArray.size))=true:=by
  rw[v7 hsz,Bool.and_false];exact Bool.false_ne_true
 refine call_meets F.slot_list_extend ⟨_,e,rfl⟩ F.entry_list_extend (F.args_list_extend_2 _ _)
  (AutoSeq1.list_extend_list_list_0 l its.toArray n b its2.toArray n2 hlong (by rw[List.size_toArray];omega) (by omega)) ⟨e,e2,?_⟩
 refine⟨.non,_,I.lset (its':=its++its2) hH e (by simp) (r.append r2) ?_,rfl,q⟩
 rw[List.length_append];omega
def vp:V->List V->Hp->VK->Prop:=λx vs H Q=> ∃l xs i k y,x=.ref l/\vs=[.int i]/\H l=some (.lst xs)/\ -(2^63)<=i/\i<2^63/\seqIndex? i xs.length=some k/\xs[k]? =some y/\Q y (cw H l (.lst (xs.eraseIdx k)))
theorem wB:A3 X "list.pop" vp:=by
 intro ae s σ H x vs v us Q I rx rv h;obtain⟨l,xs,i,k,y,rfl,rfl,hH,h1,h2,hk,hy,q⟩:=h
 cases rx
 obtain⟨u,rfl,ru⟩:=rv.one
 obtain⟨t,rfl⟩:=ru
 obtain⟨z,its,n,r,hl,e⟩:=I.lstM hH
 obtain⟨w,hw,rw'⟩:=r.get hy
 refine call_meets F.slot_list_pop ⟨_,e,rfl⟩ F.entry_list_pop (F.args_list_pop_2 _ _)
  (MeetsSeq.list_pop_at l its.toArray n i t k w (fitsIndex_both h1 h2) (by rw[List.size_toArray,<-hl];exact hk) (by rw[<-Array.getElem?_toList];exact hw) (by rw[List.size_toArray];omega)) ⟨e,?_⟩
 refine⟨y,_,I.lset (its':=its.eraseIdx k) hH e ?_ (r.eraseIdx k) ?_,rw',q⟩
 ·show its.toArray.eraseIdxIfInBounds k=(its.eraseIdx k).toArray
  rw[List.eraseIdxIfInBounds_toArray]
 ·have:=kn xs k
  omega
def qF:V->List V->Hp->VK->Prop:=λx vs H Q=> ∃l xs,x=.ref l/\vs=[]/\H l=some (.lst xs)/\Q .non (cw H l (.lst xs.reverse))
theorem mJ:A3 X "list.reverse" qF:=by
 intro ae s σ H x vs v us Q I rx rv h;obtain⟨l,xs,rfl,rfl,hH,q⟩:=h
 cases rx
 have hus:=rv.zero
 subst hus;obtain⟨z,its,n,r,hl,e⟩:=I.lstM hH
 refine call_meets F.slot_list_reverse ⟨_,e,rfl⟩ F.entry_list_reverse (F.args_list_reverse_1 _) (AutoSeq1.list_reverse_list_0 l its.toArray n (by rw[List.size_toArray];omega)) ⟨e,?_⟩
 refine⟨.non,_,I.lset (its':=its.reverse) hH e (by simp) r.reverse ?_,rfl,q⟩
 rw[List.length_reverse];omega
end
end L2
namespace Att
open PySem PySem.W PySem.Calls PyProof.Rows
theorem kU {P:Params}{h:Heap}: ∀(ns:List Int) (vs:List Value),WellAll P h vs (ns.map WData.int)->IntsAre vs ns:=by
 intro ns
 induction ns with
 |nil=>
  intro vs w;rw[List.map_nil] at w;cases w
  exact .nil
 |cons n ns ih=>
  intro vs w;rw[List.map_cons] at w;cases w with
  |cons a b=>
   cases a
   exact .cons _ _ (ih _ b)
theorem uS {l:OpenLaw}{n:Nat}(hn:l.most=some n){P:Params}{h:Heap}{args:List WData}{vals:List Value}
 (hpre:l.row.toRowW.claim.pre args=true) (hwl:WellAll P h vals args):
 ∃a vs ns,vals=[Value.ref a]/\args=[WData.list (ns.map WData.int)]/\h.get? a=some {cls:=.type "list",data:=.seq vs.toArray}/\IntsAre vs ns/\ns.length<=n:=by
 have hsh:WShape.hasAll [] args [.list .int]=true:=(pre_splitW hpre).1
 have hc:l.pre.holds [] {args:=args}=true:=(pre_splitW hpre).2
 obtain⟨d,r,rfl,h1,h2⟩:=hasAllW_cons hsh
 obtain rfl:=hasAllW_nil h2
 obtain⟨xs,rfl,h3⟩:=hasW_list h1
 obtain⟨ns,rfl⟩:=items_int h3
 have hlen:ns.length<=n:=by
  unfold OpenLaw.pre at hc;have h4:(WTm.not (.lt (.lit (.int (n:Int))) (.len (.arg 0)))).holds [] {args:=[.list (ns.map .int)]}=true:=by
   have h4:=(holds_andW hc).1
   rw[hn] at h4;exact h4
  have h5:=condW_of h4 (w_not (w_lt w_lit (w_len_list (w_arg rfl))))
  rw[List.length_map] at h5;refine Nat.le_of_not_lt λq=>?_
  have q':(n:Int)<((ns.length:Nat):Int):=by omega
  first
   |(rw[decide_eq_true q'] at h5;exact absurd h5 (by decide))
   |(simp at h5;omega)
 cases hwl with
 |cons w1 w2=>
  cases w2
  cases w1 with
  |list ho hall=>exact⟨_,_,ns,rfl,rfl,ho,kU ns _ hall,hlen⟩
theorem ug(l:OpenLaw)(args:List WData):l.row.toRowW.claim.post args (.bool true) args=true:=
 postW_of (r:=l.row.toRowW) (X:=(true==true))
  (show WShape.has [] (.bool true) .bool=true by first|rfl|decide|simp[WShape.has,WShape.arms,WShape.armsAll])
  (show(WTm.eq .res (.lit (.bool true))).value [] {args:=args,res:=some (.bool true),after:=args}=some (.bool (true==true)) from w_eq_bool (w_res rfl) w_lit) rfl
theorem attach_call {l:OpenLaw}{n:Nat}{q:Program}{loose:List Str}{XP:(Str->Option Value)->Heap->Prop}{YP:World->Heap->Prop}{d:DefRec}
 (hn:l.most=some n) (hdf:d.params.defaults=[])
 (call: ∀(w:World) (s₀ s₁:Shared) (mg mb:Str->Option Value) (fa:Addr) (o:Obj) (pm cd doc:Value) (a:Addr) (vs:List Value) (ns:List Int),
   Ground q loose [] XP w s₀ mg mb s₁.heap->YP w s₁.heap->
   s₁.heap.get? fa=some o->o.data=.func (docDef d.name d.params d.body d.scope pm cd doc)->s₁.heap.CodeRec cd d.name->mg d.name=some (.ref fa)->
   s₁.heap.get? a=some {cls:=.type "list",data:=.seq vs.toArray}->IntsAre vs ns->ns.length<=n->s₁.gens= #[]->
   codeAny (model l.prog w) callerA (.call (.ref fa) ⟨[.ref a],[]⟩) (λr s'=>r=.ok (.ret (.bool true))/\OldK s₁.heap s'.heap/\s'.os=s₁.os/\AllBare s'.gens) s₁):
 WalkO q loose XP YP l.row.toRowW d [] (λf vs=>PySem.call f vs):=by
 intro w s₀ s₁ mg mb G Y fa o pm cd doc dV kV ho hd hcd hD hmg hg args vals as hpre hlay hrd hwl hlo;obtain rfl:dV=.none:=Dflts.none hD hdf
 obtain rfl:kV=.none:=Dflts.noKw hD
 obtain⟨a,vs,ns,rfl,rfl,hobj,hints,hlen⟩:=uS hn hpre hwl
 refine enter_call (codeAny_mono (call w s₀ s₁ mg mb fa o pm cd doc a vs ns G Y ho (fd_plain hd) hcd hmg hobj hints hlen hg) λr s' hq=>?_)
 obtain⟨rfl,h2,h3,h4⟩:=hq
 exact⟨.inl ⟨.bool true,.bool true,[],rfl,λ_=>rfl,.bool true,ug l _,λ_=>⟨List.Pairwise.nil,λ_ hm=>(nomatch hm)⟩⟩,h2,h3,h4⟩
end Att
namespace L2
open PySem PySem.Spec PyProof.Rows
theorem nl: ∀ {vs:List Value} {ns:List Int},IntsAre vs ns->Vals (ns.map V.int) vs
 |_,_,.nil=>.nil
 |_,_,.cons n t h=>.cons ⟨t,rfl⟩ (nl h)
def Ab(H:Hp):Prop:= ∀b,H b=none\/ ∃o xs,H b=some (.frz o (.lst xs))
theorem vf {P:Program}{w:World}{K:W.Frag}{mg mb:Str->Option Value}{CX:ph}{k:Nat}{fa a:Addr}{fd:FuncData}{x:Str}{sp:Sp}{s₁:Shared}{vs:List Value}{ns:List Int}
 (KX:K.In s₁.heap) (hns:s₁.heap.Ns mainGlobals mg) (hb:s₁.heap.Ns builtinsNs mb) (hbb: ∀x:Str,x≠"__name__"->mb x=bootBuiltins x) (hlim:s₁.heap.NoLimit) (hg:s₁.gens= #[])
 (ha:s₁.heap.get? a=some {cls:=.type "list",data:=.seq vs.toArray}) (hi:IntsAre vs ns) (hl:ns.length<=sizeLine) (hr:Room k callerA)
 (F: ∀base:Heap,K.In base->base.Ns mainGlobals mg->FnOk P w K mg base CX k fa fd [x] sp) (hbind: ∀(s:Shared) (u:Value),BindsTo s fd ⟨[u],[]⟩ [(x,u)])
 (hsp: ∀H:Hp,Ab H->SqL K H a (ns.map V.int)->sp [.ref a] H (λv _=>v=.bl true) λ_ _ _=>False)
 (hCX: ∀H e s',CX [] H s₁ (λ_ _ _=>False) e s'->False):
 codeAny (model P w) callerA (.call (.ref fa) ⟨[.ref a],[]⟩) (λr s'=>r=.ok (.ret (.bool true))/\OldK s₁.heap s'.heap/\s'.os=s₁.os/\AllBare s'.gens) s₁:=by
 have rv:=nl hi
 have lenV:=hi.length
 have core: ∀H:Hp,Ab H->SqL K H a (ns.map V.int)->HOk P w H s₁.heap->(∀b,H b≠none->b=a)->(H a≠none->K.lookup a=none)->
  codeAny (model P w) callerA (.call (.ref fa) ⟨[.ref a],[]⟩) (λr s'=>r=.ok (.ret (.bool true))/\OldK s₁.heap s'.heap/\s'.os=s₁.os/\AllBare s'.gens) s₁:=by
  intro H hO hS hok hA hK;have base_of: ∀ {b:Addr} {o:Obj},s₁.heap.get? b=some o->H b=none->(pd s₁.heap H).get? b=some o:=λe n=>wZ e n
  have noA: ∀ {b:Addr} {o:Obj} {es:Array DictEntry} {ep:Nat},s₁.heap.get? b=some o->o.data=.dict es ep->H b=none:=λ{b o es ep} e d=>by
   cases q:H b with
   |none=>rfl
   |some u=>
    have e':b=a:=hA b (by rw[q];simp)
    subst e';rw[ha] at e;cases e;have d':Data.seq vs.toArray _=Data.dict es ep:=d
    cases d'
  have nsK: ∀ {b:Addr} {m:Str->Option Value},s₁.heap.Ns b m->(pd s₁.heap H).Ns b m:=λ{b m} ⟨o,es,ep,e,d,r⟩=>⟨o,es,ep,base_of e (noA e d),d,r⟩
  have hKb:K.In (pd s₁.heap H):=λb o e=>base_of (KX b o e) (by
   cases q:H b with
   |none=>rfl
   |some u=>
    have e':b=a:=hA b (by rw[q];simp)
    subst e';rw[hK (by rw[q];simp)] at e;cases e)
  have hM:Mod K mg (pd s₁.heap H):=⟨hKb,nsK hns,⟨mb,nsK hb,hbb⟩,let⟨mc,h1,h2⟩:=hlim;⟨mc,nsK h1,h2⟩⟩
  have e0:Env0 P w K mg (pd s₁.heap H) callerA [] s₁ H:=⟨rfl,hM,λb o e=>yK e,Nat.le_of_eq (t9 _ _),trivial,λb hb=>absurd (show b∈([]:List Addr) from hb) (by simp),hok,.of_eq hg⟩
  refine codeAny_mono ((F _ hKb (nsK hns)).run callerA [] s₁ H ⟨[.ref a],[]⟩ [.ref a] [.ref a] _ _ hr e0 (hbind s₁ (.ref a)) (.cons rfl .nil) (hsp H hO hS)) λr s' h=>?_
  cases r with
  |error e=>exact(hCX H e s' h).elim
  |ok fl=>
   cases fl with
   |next=>exact False.elim h
   |brk=>exact False.elim h
   |cont=>exact False.elim h
   |ret u=>
    obtain⟨v,H',os,bare,un,hok',r',q⟩:=h
    have q':v=.bl true:=q
    subst q';obtain rfl:u=Value.bool true:=r'
    refine⟨rfl,OldK.of_keep λb o e=>?_,os,bare⟩
    cases q:H b with
    |none=>exact un.keep b o e q (by intro z;exact absurd (show b∈([]:List Addr) from z) (by simp)) (by simp)
    |some u=>
     rcases hO b with z|⟨ob,xs,z⟩
     ·rw[q] at z;cases z
     ·have z2:=un.frzs b ob _ z
      obtain⟨e1,_⟩:=hok b _ z
      obtain⟨e2,_⟩:=hok' b _ z2
      rw[e] at e1;cases e1;exact e2
 cases hk:K.lookup a with
 |some o=>
  have e:=KX a o hk
  rw[ha] at e;cases e
  refine core (λ_=>none) (λ_=>.inl rfl) (.inr ⟨_,vs.toArray,_,hk,rfl,rfl,rfl,by rw[List.size_toArray,lenV];exact hl,by simpa using rv⟩) (λb u z=>by have z':(none:Option HO)=some u:=z;cases z') (λb z=>absurd rfl z) λz=>absurd rfl z
 |none=>
  refine core (λb=>if b=a then some (.frz {cls:=.type "list",data:=.seq vs.toArray} (.lst (ns.map V.int))) else none) (λb=>?_) (.inl (.inr ⟨{cls:=.type "list",data:=.seq vs.toArray},if_pos rfl⟩)) (λb u z=>?_) (λb z=>?_) λ_=>hk
  ·by_cases hb:b=a
   ·exact .inr ⟨_,_,if_pos hb⟩
   ·exact .inl (if_neg hb)
  ·by_cases hb:b=a
   ·have z':=(if_pos hb).symm.trans z
    cases z'
    subst hb;exact⟨ha,by rw[List.length_map];exact hl,vs,_,rv,ha⟩
   ·have z':=(if_neg hb).symm.trans z
    cases z'
  ·by_cases hb:b=a
   ·exact hb
   ·exact absurd (if_neg hb) z
theorem walk_of {l:W.OpenLaw}{n k:Nat}{q:Program}{loose:List Str}{XP:(Str->Option Value)->Heap->Prop}{YP:World->Heap->Prop}{d:DefRec}{K:Params->W.Frag}{CX:World->ph}{sp:World->Sp}{x:Str}
 (hn:l.most=some n) (hn2:n<=sizeLine) (hdf:d.params.defaults=[]) (hr:Room k callerA)
 (hY: ∀(w:World) (h:Heap),YP w h->(K w.params).In h)
 (F: ∀(w:World) (mg:Str->Option Value) (fa:Addr) (h:Heap),(K w.params).In h->h.Ns mainGlobals mg->mg d.name=some (.ref fa)->
   ∃fd:FuncData,(∀(s:Shared) (u:Value),BindsTo s fd ⟨[u],[]⟩ [(x,u)])/\
    ∀base:Heap,(K w.params).In base->base.Ns mainGlobals mg->FnOk l.prog w (K w.params) mg base (CX w) k fa fd [x] (sp w))
 (hsp: ∀(w:World) (H:Hp) (a:Addr) (ns:List Int),ns.length<=n->Ab H->SqL (K w.params) H a (ns.map V.int)->sp w [.ref a] H (λv _=>v=.bl true) λ_ _ _=>False)
 (hCX: ∀(w:World) (H:Hp) (s:Shared) (e:Value) (s':Shared),CX w [] H s (λ_ _ _=>False) e s'->False):
 W.WalkO q loose XP YP l.row.toRowW d [] (λf vs=>PySem.call f vs):=by
 refine Att.attach_call hn hdf λw s₀ s₁ mg mb fa o pm cd doc a vs ns G Y ho hd hcd hmg hobj hints hlen hg=>?_
 have KX:=hY w _ Y
 obtain⟨fd,hb,hF⟩:=F w mg fa _ KX G.T.g hmg
 exact vf KX G.T.g G.T.b G.T.builtins G.T.nolimit hg hobj hints (Nat.le_trans hlen hn2) hr hF hb (λH hO hS=>hsp w H a ns hlen hO hS) λH e s'=>hCX w H s₁ e s'
def aK(s:Stmt):Arguments:=match s with
 | .FunctionDef _ a _ _ _ _ _ _ _ _=>a
 |_=>{posonlyargs:=[],args:=[],vararg:=none,kwonlyargs:=[],kw_defaults:=[],kwarg:=none,defaults:=[]}
def aD(s:Stmt):List Stmt:=match s with
 | .FunctionDef _ _ b _ _ _ _ _ _ _=>b
 |_=>[]
def aj(s:Stmt):Scope:=match s with
 | .FunctionDef _ _ _ _ _ _ sc _ _ _=>sc
 |_=>{kind:=.function,names:=[],isGenerator:=false,isCoroutine:=false}
abbrev nM:ph:=λ_ _ _ _ _ _=>False
abbrev E0:XK:=λ_ _ _=>False
theorem yR {X:Cx}:qV nM X E0:=λ_ _ _ _ _ _ _ h=>h.elim
structure Fun(K:W.Frag)(x qual:Str)(st:Stmt)(f:Addr)(fd:FuncData):Prop where
 ex: ∃(oc:Value) (od:Option Addr) (kV doc pm:Value) (an:Option Addr) (cdv ct:Value) (osl:Array (Option Value)),
  fd=W.fnOf x qual (aK st) (aD st) (aj st) .none kV doc pm an cdv ct/\K.lookup f=some ⟨oc,od,.func fd,osl⟩/\W.codeIn K cdv qual=true
 kp:W.keepIn K (.ref f)=true
section
variable {P:Program}{w:World}{K:W.Frag}{mg:Str->Option Value}{base:Heap}
theorem Fun.ok {x qual:Str}{st:Stmt}{f:Addr}{fd:FuncData}{N ps:List Str}{k:Nat}{sp:Sp}(F:Fun K x qual st f fd)(S:FnScope N ps (aj st))(len: ∀vs H Q E,sp vs H Q E->vs.length=ps.length)
 (hbody: ∀(cdv:Value) (A:Around) (outer:List Env) (s:Shared) (H:Hp) (vs:List V) (Q:VK) (E:XK),Room k (A.deeper (envOfC qual (aj st) s.heap.objs.size f cdv))->sp vs H Q E->
   ∃t,PSs (kJ nM P w K mg base N qual (aj st) f cdv A outer s H E).nox (aD st) t/\t {nx:=λ_ H'=>Q .non H',rt:=Q} (start N vs) H):FnOk P w K mg base nM (k+1) f fd ps sp:=by
 obtain⟨oc,od,kV,doc,pm,an,cdv,ct,osl,rfl,lk,hcd⟩:=F.ex
 refine yN lk hcd S len λA outer s H vs Q E hr hsp=>?_
 obtain⟨t,h,q⟩:=hbody cdv A outer s H vs Q E hr hsp
 exact⟨t,h.nox,q⟩
theorem Fun.binds {x qual:Str}{st:Stmt}{f:Addr}{fd:FuncData}{ps:List Str}(F:Fun K x qual st f fd)
 (h: ∀(kV doc pm:Value) (an:Option Addr) (cdv ct:Value) (us:List Value),us.length=ps.length->bindArgs (W.fnOf x qual (aK st) (aD st) (aj st) .none kV doc pm an cdv ct) ⟨us,[]⟩=pure (ps.zip us)):Binds K fd ps []:=by
 obtain⟨oc,od,kV,doc,pm,an,cdv,ct,osl,rfl,lk,hcd⟩:=F.ex
 exact .all (h kV doc pm an cdv ct)
theorem bf {x qual:Str}{st:Stmt}{f:Addr}{oc:Value}{od an:Option Addr}{osl:Array (Option Value)}{kV doc pm cdv ct:Value}(l:K.lookup f=some ⟨oc,od,.func (W.fnOf x qual (aK st) (aD st) (aj st) .none kV doc pm an cdv ct),osl⟩)
 (c:W.codeIn K cdv qual=true) (k:W.keepIn K (.ref f)=true):Fun K x qual st f (W.fnOf x qual (aK st) (aD st) (aj st) .none kV doc pm an cdv ct):=⟨⟨oc,od,kV,doc,pm,an,cdv,ct,osl,rfl,l,c⟩,k⟩
end
theorem ja {n:Nat}(h:n<=1000):n<sizeLine:=Nat.lt_of_le_of_lt h (by decide)
section
variable {X:Cx}
theorem pv(i:Nat){x:Str}{pos:Pos}(hN:X.N[i]? =some x:=by rfl)(hv:rf X.env.scope x:=by first|exact Or.inl rfl|exact Or.inr (Or.inl rfl)|exact Or.inr (Or.inr rfl))(hd:(x==("__debug__":Str))=false:=by decide)
 (hcd:(x==("__classdict__":Str))=false:=by decide):PE X (.Name x pos) (Ce i):=AT hN hv hd hcd
end
theorem p6 {A B:Prop}(h:B):if false=true then A else B:=by
 rw[if_neg Bool.false_ne_true];exact h
theorem pH {A B:Prop}(h:A):if true=true then A else B:=by
 rw[if_pos rfl];exact h
def Same(H H':Hp):Prop:= ∀b o,H b=some o->H' b=some o
theorem Same.refl(H:Hp):Same H H:=λ_ _ h=>h
theorem Same.trans {H H1 H2:Hp}(a:Same H H1)(b:Same H1 H2):Same H H2:=λc o h=>b c o (a c o h)
theorem Same.free {H H':Hp}(e:Same H H'){l:Addr}(h:H' l=Option.none):H l=Option.none:=by
 cases q:H l with
 |none=>rfl
 |some o=>
  rw[e l o q] at h;cases h
theorem Same.seq {K:W.Frag}{H H':Hp}{a:Addr}{xs:List V}(e:Same H H')(h:SqL K H a xs):SqL K H' a xs:=by
 rcases h with(h|⟨o,h⟩)|h
 ·exact .inl (.inl (e _ _ h))
 ·exact .inl (.inr ⟨o,e _ _ h⟩)
 ·exact .inr h
inductive D where
 |non|bl (b:Bool)|int (i:Int)|str (x:Str)|tup (ds:List D)|lst (ds:List D)
 |scr (ds:List D)
def SqR(K:W.Frag)(H:Hp)(a:Addr)(xs:List V):Prop:=
 (∃o,H a=some (.frz o (.lst xs)))\/
   ∃(o:Obj) (its:Array Value) (n:Nat),K.lookup a=some o/\o.cls=.type "list"/\o.dict=none/\o.data=.seq its n/\its.size<=sizeLine/\Vals xs its.toList
theorem SqR.seq {K:W.Frag}{H:Hp}{a:Addr}{xs:List V}(h:SqR K H a xs):SqL K H a xs:=h.elim (λh=>.inl (.inr h)) .inr
theorem Same.seqR {K:W.Frag}{H H':Hp}{a:Addr}{xs:List V}(e:Same H H')(h:SqR K H a xs):SqR K H' a xs:=h.elim (λ⟨o,h⟩=>.inl ⟨o,e _ _ h⟩) .inr
mutual
inductive Rep (K:W.Frag) (F:Hp):V->D->Prop
 |non:Rep K F .non .non
 |bl {b:Bool}:Rep K F (.bl b) (.bl b)
 |int {i:Int}:Rep K F (.int i) (.int i)
 |str {x:Str}:Rep K F (.str x) (.str x)
 |tup {a:Addr} {xs:List V} {ds:List D}:SqT K F a xs->Reps K F xs ds->Rep K F (.ref a) (.tup ds)
 |lst {a:Addr} {xs:List V} {ds:List D}:F a=some (.lst xs)->Reps K F xs ds->Rep K F (.ref a) (.lst ds)
 |scr {a:Addr} {xs:List V} {ds:List D}:SqR K F a xs->Reps K F xs ds->Rep K F (.ref a) (.scr ds)
inductive Reps (K:W.Frag) (F:Hp):List V->List D->Prop
 |nil:Reps K F [] []
 |cons {x:V} {d:D} {xs:List V} {ds:List D}:Rep K F x d->Reps K F xs ds->Reps K F (x::xs) (d::ds)
end
theorem Same.seqT {K:W.Frag}{H H':Hp}{a:Addr}{xs:List V}(e:Same H H')(h:SqT K H a xs):SqT K H' a xs:=by
 rcases h with(h|⟨o,h⟩)|h
 ·exact .inl (.inl (e _ _ h))
 ·exact .inl (.inr ⟨o,e _ _ h⟩)
 ·exact .inr h
mutual
theorem Rep.mono {K:W.Frag}{F G:Hp}(s:Same F G): ∀ {v:V} {d:D},Rep K F v d->Rep K G v d
 |_,_,.non=>.non
 |_,_,.bl=>.bl
 |_,_,.int=>.int
 |_,_,.str=>.str
 |_,_,.tup h r=>.tup (Same.seqT s h) (Reps.mono s r)
 |_,_,.lst h r=>.lst (s _ _ h) (Reps.mono s r)
 |_,_,.scr h r=>.scr (Same.seqR s h) (Reps.mono s r)
theorem Reps.mono {K:W.Frag}{F G:Hp}(s:Same F G): ∀ {v:List V} {d:List D},Reps K F v d->Reps K G v d
 |_,_,.nil=>.nil
 |_,_,.cons r t=>.cons (Rep.mono s r) (Reps.mono s t)
end
section
variable {K:W.Frag}{F G H:Hp}
theorem Reps.length: ∀ {xs:List V} {ds:List D},Reps K F xs ds->xs.length=ds.length
 |_,_,.nil=>rfl
 |_,_,.cons _ t=>by simp[t.length]
theorem Reps.get: ∀ {xs:List V} {ds:List D} {i:Nat} {d:D},Reps K F xs ds->ds[i]? =some d-> ∃x,xs[i]? =some x/\Rep K F x d
 |_,_,_,_,.nil,e=>by simp at e
 |_,_,0,_,.cons r _,e=>by simp at e;subst e;exact⟨_,rfl,r⟩
 |_,_,i+1,d,.cons _ t,e=>by
  obtain⟨u,h1,h2⟩:=Reps.get (i:=i) (d:=d) t (by simpa using e)
  exact⟨u,by simpa using h1,h2⟩
theorem Reps.get' {xs:List V}{ds:List D}{i:Nat}{x:V}(r:Reps K F xs ds)(e:xs[i]? =some x): ∃d,ds[i]? =some d/\Rep K F x d:=by
 have hl:=r.length
 have hi:=(List.getElem?_eq_some_iff.mp e).1
 have e2:ds[i]? =some ds[i]:=List.getElem?_eq_getElem (by omega)
 obtain⟨y,h1,h2⟩:=r.get e2
 rw[e] at h1;cases h1;exact⟨_,e2,h2⟩
theorem Reps.append: ∀ {xs ys:List V} {us ws:List D},Reps K F xs us->Reps K F ys ws->Reps K F (xs++ys) (us++ws)
 |_,_,_,_,.nil,s=>s
 |_,_,_,_,.cons r t,s=>.cons r (Reps.append t s)
theorem Reps.set {x:V}{u:D}(r:Rep K F x u): ∀ {xs:List V} {us:List D} (i:Nat),Reps K F xs us->Reps K F (xs.set i x) (us.set i u)
 |_,_,_,.nil=>.nil
 |_,_,0,.cons _ t=>.cons r t
 |_,_,i+1,.cons q t=>.cons q (Reps.set r i t)
theorem Reps.eraseIdx: ∀ {xs:List V} {us:List D} (i:Nat),Reps K F xs us->Reps K F (xs.eraseIdx i) (us.eraseIdx i)
 |_,_,_,.nil=>.nil
 |_,_,0,.cons _ t=>t
 |_,_,i+1,.cons q t=>.cons q (Reps.eraseIdx i t)
theorem Reps.reverse {xs:List V}{us:List D}(h:Reps K F xs us):Reps K F xs.reverse us.reverse:=by
 induction xs generalizing us with
 |nil=>cases h;exact .nil
 |cons x xs ih=>
  cases h with
  |cons r t=>simp only[List.reverse_cons];exact(ih t).append (.cons r .nil)
end
abbrev bF:=Addr->Bool
def vw(H:Hp)(hid:bF):Hp:=λb=>if hid b=true then none else H b
def cH(hid:bF)(a:Addr):bF:=λb=>hid b||decide (b=a)
def md(hid:bF)(a:Addr):bF:=λb=>hid b&& !decide (b=a)
theorem vw_some {H:Hp}{hid:bF}{b:Addr}{o:HO}:vw H hid b=some o↔hid b=false/\H b=some o:=by
 unfold vw;cases hb:hid b<;>simp
theorem eT(H:Hp)(hid:bF):Same (vw H hid) H:=λb o h=>(vw_some.mp h).2
theorem aN {H H':Hp}{hid:bF}(s:Same H H'):Same (vw H hid) (vw H' hid):=λb o h=>vw_some.mpr ⟨(vw_some.mp h).1,s _ _ (vw_some.mp h).2⟩
theorem sT {H H':Hp}{hid:bF}(s: ∀b o,H b=some o->hid b=false->H' b=some o):Same (vw H hid) (vw H' hid):=λb o h=>vw_some.mpr ⟨(vw_some.mp h).1,s _ _ (vw_some.mp h).2 (vw_some.mp h).1⟩
theorem gK {H:Hp}{hid:bF}{a:Addr}{o:HO}(h:hid a=true):vw (cw H a o) hid=vw H hid:=by
 funext b;unfold vw cw
 by_cases e:b=a
 ·subst e;simp[h]
 ·simp[e]
theorem fU {H:Hp}{hid hid':bF}(h: ∀b,hid' b=true->hid b=true):Same (vw H hid) (vw H hid'):=λb o q=>by
 obtain⟨q1,q2⟩:=vw_some.mp q
 refine vw_some.mpr ⟨?_,q2⟩
 cases e:hid' b with
 |false=>rfl
 |true=>rw[h b e] at q1;cases q1
theorem rS {H:Hp}{hid:bF}{a:Addr}{o:HO}(h:H a=none):vw (cw H a o) (cH hid a)=vw H hid:=by
 funext b;unfold vw cw cH
 by_cases e:b=a
 ·subst e
  cases hb:hid b<;>simp[h]
 ·simp[e]
inductive NO where
 |l (ds:List D)
 |k (kvs:List (jE×D))
inductive Ob where
 |nst (us:List NO)
 |dR (kvs:List (jE×D))
 |dRs (l:List (List (jE×D)))
 |exc (x:Str) (n:Int)
 |dK (kvs:List (jE×D))
 |dT (kvs:List (List jE×D))
 |set (ds:List D)
 |old (d:D)
 |jnk
 |tset (ks:List (List Int))
 |dF (kvs:List (List jE×D))
 |dQ (kvs:List (List jE×D))
 |frs (d:D)
inductive Sl where
 |no
 |v (d:D)
 |own (ds:List D)
 |arg (ds:List D)
 |ob (b:Ob)
abbrev aC:=List Sl
structure Ct where
 H₀:Hp
 hid₀:bF
 mu:Addr->Bool
def ExcAt(K:W.Frag)(x:Str)(n:Int)(a:Addr)(h:Heap):Prop:= ∃C o,W.nsIn K mainGlobals x=some (some (.ref C))/\h.get? a=some o/\o.cls=.ref C/\o.dict=none/\W.notCls o=true
def Cv:Option HO->Bool
 |some (.lst _)=>true
 |_=>false
def fv(c:Ct)(F:Hp):Hp:=λb=>if(c.H₀ b).isSome=true/\Cv (F b)=true then none else F b
def ov(c:Ct)(F:Hp):Hp:=λb=>if(c.H₀ b).isSome=true then F b else none
theorem fv_some {c:Ct}{F:Hp}{b:Addr}{o:HO}:fv c F b=some o↔(Cv (some o)=true->c.H₀ b=none)/\F b=some o:=by
 unfold fv;constructor
 ·intro h
  split at h
  ·cases h
  ·rename_i hn
   refine⟨λq=>?_,h⟩
   rw[h] at hn;cases hb:c.H₀ b with
   |none=>rfl
   |some u=>exact absurd ⟨by rw[hb];rfl,q⟩ hn
 ·rintro⟨h1,h2⟩
  rw[if_neg,h2]
  rintro⟨q1,q2⟩
  rw[h2] at q2;rw[h1 q2] at q1;cases q1
theorem ov_some {c:Ct}{F:Hp}{b:Addr}{o:HO}:ov c F b=some o↔(∃u,c.H₀ b=some u)/\F b=some o:=by
 unfold ov;cases hb:c.H₀ b<;>simp
theorem tJ {c:Ct}{F G:Hp}(s:Same F G):Same (fv c F) (fv c G):=λb o h=>fv_some.mpr ⟨(fv_some.mp h).1,s _ _ (fv_some.mp h).2⟩
theorem xL {c:Ct}{F G:Hp}(s:Same F G):Same (ov c F) (ov c G):=λb o h=>ov_some.mpr ⟨(ov_some.mp h).1,s _ _ (ov_some.mp h).2⟩
def NOk(K:W.Frag)(c:Ct)(hid:bF)(H:Hp)(p a:Addr):NO->Prop
 | .l ds=>(hid a=true/\c.H₀ a=none)/\ ∃xs:List V,H a=some (.nst p (.lst xs))/\Reps K (vw H hid) xs ds
 | .k kvs=>(hid a=true/\c.H₀ a=none)/\ ∃us:List (jE×V),H a=some (.nst p (.dK us))/\us.map (·.1)=kvs.map (·.1)/\Reps K (vw H hid) (us.map (·.2)) (kvs.map (·.2))
theorem NOk.mono {K:W.Frag}{c:Ct}{hid hid':bF}{H H':Hp}{p a:Addr}{b:NO}(h:NOk K c hid H p a b)(k: ∀u,H a=some (.nst p u)->H' a=some (.nst p u))(s:Same (vw H hid) (vw H' hid'))(w:(∃u,H a=some (.nst p u))->hid' a=true):NOk K c hid' H' p a b:=by
 cases b with
 |l ds=>obtain⟨h1,us,h2,h3⟩:=h;exact⟨⟨w ⟨_,h2⟩,h1.2⟩,us,k _ h2,h3.mono s⟩
 |k kvs=>obtain⟨h1,us,h2,h3,h4⟩:=h;exact⟨⟨w ⟨_,h2⟩,h1.2⟩,us,k _ h2,h3,h4.mono s⟩
def DRd(K:W.Frag)(W:Hp)(a:Addr)(kvs:List (jE×D)):Prop:= ∃o us,W a=some (.frz o (.dK us))/\us.map (·.1)=kvs.map (·.1)/\Reps K W (us.map (·.2)) (kvs.map (·.2))
theorem DRd.mono {K:W.Frag}{W W':Hp}{a:Addr}{kvs:List (jE×D)}(h:DRd K W a kvs)(s:Same W W'):DRd K W' a kvs:=by
 obtain⟨o,us,h1,h2,h3⟩:=h
 exact⟨o,us,s _ _ h1,h2,h3.mono s⟩
def DQd(K:W.Frag)(W:Hp)(a:Addr)(kvs:List (List jE×D)):Prop:= ∃o us,W a=some (.frz o (.dT us))/\us.map (·.1)=kvs.map (·.1)/\Reps K W (us.map (·.2)) (kvs.map (·.2))
theorem DQd.mono {K:W.Frag}{W W':Hp}{a:Addr}{kvs:List (List jE×D)}(h:DQd K W a kvs)(s:Same W W'):DQd K W' a kvs:=by
 obtain⟨o,us,h1,h2,h3⟩:=h
 exact⟨o,us,s _ _ h1,h2,h3.mono s⟩
def ObOk(K:W.Frag)(c:Ct)(hid:bF)(H:Hp)(a:Addr):Ob->Prop
 | .nst us=>(hid a=true/\c.H₀ a=none)/\ ∃bs:List Addr,H a=some (.lst (bs.map V.ref))/\bs.Nodup/\Paired (NOk K c hid H a) bs us
 | .dR kvs=>DRd K (vw H hid) a kvs
 | .dQ kvs=>DQd K (vw H hid) a kvs
 | .frs d=>Rep K (fv c (vw H hid)) (.ref a) d
 | .dRs l=> ∃bs:List Addr,vw H hid a=some (.lst (bs.map V.ref))/\Paired (DRd K (vw H hid)) bs l
 | .exc x n=> ∃φ,vw H hid a=some (.ext φ)/\ ∀h,φ h->ExcAt K x n a h
 | .dK kvs=>(hid a=true/\c.H₀ a=none)/\ ∃us:List (jE×V),H a=some (.dK us)/\us.map (·.1)=kvs.map (·.1)/\Reps K (vw H hid) (us.map (·.2)) (kvs.map (·.2))
 | .dT kvs=>(hid a=true/\c.H₀ a=none)/\ ∃us:List (List jE×V),H a=some (.dT us)/\us.map (·.1)=kvs.map (·.1)/\Reps K (vw H hid) (us.map (·.2)) (kvs.map (·.2))
 | .set ds=>(hid a=true/\c.H₀ a=none)/\ ∃xs:List V,H a=some (.lst xs)/\Reps K (fv c (vw H hid)) xs ds
 | .old d=>Rep K (ov c (vw H hid)) (.ref a) d
 | .jnk=>(hid a=true/\c.H₀ a=none)/\ ∃xs:List V,H a=some (.lst xs)
 | .tset ks=>(hid a=true/\c.H₀ a=none)/\ ∃xs:List (List Int×Addr),H a=some (.tst xs)/\(xs.map (·.1)).Perm ks/\Reps K (vw H hid) (xs.map λx=>V.ref x.2) (xs.map λx=>D.tup (x.1.map D.int))
 | .dF kvs=>(hid a=true/\c.H₀ a=none)/\ ∃(o:Obj) (us:List (List jE×V)),H a=some (.frz o (.dT us))/\us.map (·.1)=kvs.map (·.1)/\Reps K (vw H hid) (us.map (·.2)) (kvs.map (·.2))
def t8:Ob->Prop
 | .exc _ _=>False
 | .old _=>False
 | .dR _=>False
 | .dRs _=>False
 | .dQ _=>False
 | .frs _=>False
 |_=>True
def At(H:Hp)(a x:Addr):Prop:=x=a\/ ∃u,H x=some (.nst a u)
theorem At.ne {H:Hp}{a a' x:Addr}{o:HO}(hx:At H a' x)(ne:a'≠a)(ha:H a=some o)(hn: ∀p u,o≠ .nst p u:=by intro _ _ e;cases e):x≠a:=λe=>by
 subst e;rcases hx with rfl|⟨u,hu⟩
 ·exact ne rfl
 ·rw[ha] at hu;cases hu;exact hn _ _ rfl
theorem ObOk.mono {K:W.Frag}{c:Ct}{hid hid':bF}{H H':Hp}{a:Addr}{b:Ob}(h:ObOk K c hid H a b)(k:t8 b-> ∀x,At H a x-> ∀o,H x=some o->H' x=some o)(s:Same (vw H hid) (vw H' hid'))(w:t8 b-> ∀x,At H a x->hid x=true->hid' x=true):ObOk K c hid' H' a b:=by
 have k1:t8 b-> ∀o,H a=some o->H' a=some o:=λo=>k o a (.inl rfl)
 have w1:t8 b->hid a=true->hid' a=true:=λo=>w o a (.inl rfl)
 cases b with
 |nst us=>
  obtain⟨h1,bs,h2,h3,h4⟩:=h
  refine⟨⟨w1 trivial h1.1,h1.2⟩,bs,k1 trivial _ h2,h3,Paired.mapP h4 λx y z=>z.mono (λu q=>k trivial x (.inr ⟨u,q⟩) _ q) s λq=>w trivial x (.inr q) ?_⟩
  cases y with
  |l ds=>exact z.1.1
  |k kvs=>exact z.1.1
 |dR kvs=>exact DRd.mono h s
 |dQ kvs=>exact DQd.mono h s
 |frs d=>exact Rep.mono (tJ s) h
 |dRs l=>obtain⟨bs,h1,h2⟩:=h;exact⟨bs,s _ _ h1,Paired.mapP h2 λ_ _ z=>z.mono s⟩
 |exc x n=>obtain⟨φ,h1,h2⟩:=h;exact⟨φ,s _ _ h1,h2⟩
 |dK kvs=>obtain⟨h1,us,h2,h3,h4⟩:=h;exact⟨⟨w1 trivial h1.1,h1.2⟩,us,k1 trivial _ h2,h3,h4.mono s⟩
 |dT kvs=>obtain⟨h1,us,h2,h3,h4⟩:=h;exact⟨⟨w1 trivial h1.1,h1.2⟩,us,k1 trivial _ h2,h3,h4.mono s⟩
 |set ds=>obtain⟨h1,us,h2,h3⟩:=h;exact⟨⟨w1 trivial h1.1,h1.2⟩,us,k1 trivial _ h2,h3.mono (tJ s)⟩
 |old d=>exact Rep.mono (xL s) h
 |jnk=>obtain⟨h1,us,h2⟩:=h;exact⟨⟨w1 trivial h1.1,h1.2⟩,us,k1 trivial _ h2⟩
 |tset ks=>obtain⟨h1,us,h2,h3,h4⟩:=h;exact⟨⟨w1 trivial h1.1,h1.2⟩,us,k1 trivial _ h2,h3,h4.mono s⟩
 |dF kvs=>obtain⟨h1,o,us,h2,h3,h4⟩:=h;exact⟨⟨w1 trivial h1.1,h1.2⟩,o,us,k1 trivial _ h2,h3,h4.mono s⟩
theorem ObOk.hid {K:W.Frag}{c:Ct}{hid:bF}{H:Hp}{a:Addr}{b:Ob}(h:ObOk K c hid H a b)(o:t8 b):hid a=true:=by
 cases b with
 |nst us=>exact h.1.1
 |dQ kvs=>exact o.elim
 |frs d=>exact o.elim
 |dR kvs=>exact o.elim
 |dRs l=>exact o.elim
 |exc x n=>exact o.elim
 |dK kvs=>exact h.1.1
 |dT kvs=>exact h.1.1
 |set ds=>exact h.1.1
 |old d=>exact o.elim
 |jnk=>exact h.1.1
 |tset ks=>exact h.1.1
 |dF kvs=>exact h.1.1
def SlOk(K:W.Frag)(c:Ct)(hid:bF)(σ:St)(H:Hp)(i:Nat):Sl->Prop
 | .no=>True
 | .v d=> ∃x,σ[i]? =some (some x)/\Rep K (vw H hid) x d
 | .own ds=> ∃a xs,σ[i]? =some (some (.ref a))/\H a=some (.lst xs)/\hid a=true/\c.H₀ a=none/\Reps K (vw H hid) xs ds
 | .arg ds=> ∃a xs,σ[i]? =some (some (.ref a))/\H a=some (.lst xs)/\hid a=true/\c.mu a=true/\Reps K (vw H hid) xs ds
 | .ob b=> ∃a,σ[i]? =some (some (.ref a))/\ObOk K c hid H a b
def Ow:Option Sl->Prop
 |some (.own _)=>True
 |some (.arg _)=>True
 |some (.ob b)=>t8 b
 |_=>False
structure SR(K:W.Frag)(c:Ct)(hid:bF)(ρ:aC)(σ:St)(H:Hp):Prop where
 tr: ∀b,hid b=true-> ∃o,H b=some o
 ht: ∀b xs,hid b=true->H b≠some (.tup xs)
 h0: ∀b,c.hid₀ b=true->hid b=true
 kp: ∀b o,c.H₀ b=some o->c.mu b=false->H b=some o
 t0: ∀b o,c.H₀ b=some o-> ∃o',H b=some o'
 c0: ∀b,c.hid₀ b=true-> ∃o,c.H₀ b=some o
 m0: ∀b,c.mu b=true->c.hid₀ b=true
 len:σ.length=ρ.length
 sl: ∀(i:Nat) (s:Sl),ρ[i]? =some s->SlOk K c hid σ H i s
 ap: ∀(i j:Nat) (a:Addr),i≠j->Ow ρ[i]? ->Ow ρ[j]? ->σ[i]? =some (some (.ref a))->σ[j]? =some (some (.ref a))->False
section
variable {K:W.Frag}{c:Ct}{hid:bF}{ρ:aC}{σ:St}{H H':Hp}{i:Nat}
theorem SlOk.ext {s:Sl}(h:SlOk K c hid σ H i s)(e:Same H H'):SlOk K c hid σ H' i s:=by
 cases s with
 |no=>trivial
 |v d=>obtain⟨x,h1,h2⟩:=h;exact⟨x,h1,h2.mono (aN e)⟩
 |own ds=>obtain⟨a,xs,h1,h2,h3,h4,h5⟩:=h;exact⟨a,xs,h1,e _ _ h2,h3,h4,h5.mono (aN e)⟩
 |arg ds=>obtain⟨a,xs,h1,h2,h3,h4,h5⟩:=h;exact⟨a,xs,h1,e _ _ h2,h3,h4,h5.mono (aN e)⟩
 |ob b=>obtain⟨a,h1,h2⟩:=h;exact⟨a,h1,h2.mono (λ_ x _=>e x) (aN e) λ_ _ _ q=>q⟩
theorem SR.ext(h:SR K c hid ρ σ H)(e:Same H H'):SR K c hid ρ σ H' where
 tr:=λb hb=>let⟨o,q⟩:=h.tr b hb;⟨o,e _ _ q⟩
 ht:=λb xs hb q=>let⟨o,w⟩:=h.tr b hb;by have z:=e _ _ w;rw[q] at z;cases z;exact h.ht b xs hb w
 h0:=h.h0
 kp:=λb o q m=>e _ _ (h.kp b o q m)
 t0:=λb o q=>let⟨o',q'⟩:=h.t0 b o q;⟨o',e _ _ q'⟩
 c0:=h.c0
 m0:=h.m0
 len:=h.len
 sl:=λi s q=>(h.sl i s q).ext e
 ap:=h.ap
def AZ(hid:bF)(H:Hp):Prop:=(∀b,hid b=true-> ∃o,H b=some o)/\ ∀b xs,hid b=true->H b≠some (.tup xs)
theorem SR.trk(h:SR K c hid ρ σ H):AZ hid H:=⟨h.tr,h.ht⟩
theorem SR.fresh(h:SR K c hid ρ σ H){a:Addr}(n:H a=none):hid a=false:=by
 cases e:hid a with
 |false=>rfl
 |true=>obtain⟨o,q⟩:=h.tr a e;rw[n] at q;cases q
theorem SR.fresh0(h:SR K c hid ρ σ H){a:Addr}(n:H a=none):c.H₀ a=none:=by
 cases e:c.H₀ a with
 |none=>rfl
 |some o=>obtain⟨o',q⟩:=h.t0 a o e;rw[n] at q;cases q
end
inductive Kd where
 |b|s|n
 deriving DecidableEq
def Rep1(K:W.Frag)(H W:Hp)(v:V)(d:D):Prop:=Rep K W v d\/ ∃a xs ds,v=.ref a/\d=.lst ds/\H a=some (.lst xs)/\Reps K W xs ds
def RN(K:W.Frag)(H H':Hp)(hid:bF)(v:V)(d:D):Prop:= ∃a xs ds,d=.lst ds/\v=.ref a/\H a=none/\H' a=some (.lst xs)/\Reps K (vw H' (cH hid a)) xs ds
def RK(K:W.Frag)(k:Kd)(H H':Hp)(hid:bF)(v:V)(d:D):Prop:=match k with
 | .b=>Rep1 K H' (vw H' hid) v d
 | .s=>Rep K (vw H' hid) v d
 | .n=>RN K H H' hid v d
section
variable {K:W.Frag}{c:Ct}{hid:bF}{ρ:aC}{σ:St}{H H' H'':Hp}{i:Nat}{v:V}{d:D}
theorem RN.rep(h:RN K H H' hid v d)(hf: ∀a,H a=none->hid a=false):Rep K (vw H' hid) v d:=by
 obtain⟨a,xs,ds,rfl,rfl,h1,h2,h3⟩:=h
 refine .lst (vw_some.mpr ⟨hf a h1,h2⟩) (h3.mono (fU λb q=>?_))
 unfold cH;rw[q];rfl
theorem RK.b(k:Kd)(h:RK K k H H' hid v d)(hf: ∀a,H a=none->hid a=false):Rep1 K H' (vw H' hid) v d:=by
 cases k with
 |b=>exact h
 |s=>exact .inl h
 |n=>exact .inl (RN.rep h hf)
theorem Rep1.ext {hid:bF}(h:Rep1 K H (vw H hid) v d)(e:Same H H'):Rep1 K H' (vw H' hid) v d:=by
 rcases h with h|⟨a,xs,ds,h1,h2,h3,h4⟩
 ·exact .inl (h.mono (aN e))
 ·exact .inr ⟨a,xs,ds,h1,h2,e _ _ h3,h4.mono (aN e)⟩
theorem Rep1.int {i:Int}(h:Rep1 K H (vw H hid) v (.int i)):v=.int i:=by
 rcases h with h|⟨a,xs,ds,h1,h2,_⟩
 ·cases h;rfl
 ·cases h2
theorem Rep1.bl {i:Bool}(h:Rep1 K H (vw H hid) v (.bl i)):v=.bl i:=by
 rcases h with h|⟨a,xs,ds,h1,h2,_⟩
 ·cases h;rfl
 ·cases h2
theorem Rep1.str {i:Str}(h:Rep1 K H (vw H hid) v (.str i)):v=.str i:=by
 rcases h with h|⟨a,xs,ds,h1,h2,_⟩
 ·cases h;rfl
 ·cases h2
theorem Rep1.non(h:Rep1 K H (vw H hid) v .non):v=.non:=by
 rcases h with h|⟨a,xs,ds,h1,h2,_⟩
 ·cases h;rfl
 ·cases h2
theorem Rep1.tup {ds:List D}(h:Rep1 K H (vw H hid) v (.tup ds)): ∃a xs,v=.ref a/\SqT K (vw H hid) a xs/\SqT K H a xs/\Reps K (vw H hid) xs ds:=by
 rcases h with h|⟨a,xs,ds,h1,h2,_⟩
 ·cases h with
  |tup q r=>exact⟨_,_,rfl,q,Same.seqT (eT _ _) q,r⟩
 ·cases h2
theorem Rep1.lst {ds:List D}(h:Rep1 K H (vw H hid) v (.lst ds)): ∃a xs,v=.ref a/\SqL K H a xs/\Reps K (vw H hid) xs ds:=by
 rcases h with h|⟨a,xs,ds,h1,h2,h3,h4⟩
 ·cases h with
  |lst q r=>exact⟨_,_,rfl,SqL.of (eT _ _ _ _ q),r⟩
 ·cases h2
  exact⟨a,xs,h1,SqL.of h3,h4⟩
theorem Rep1.scr {ds:List D}(h:Rep1 K H (vw H hid) v (.scr ds)): ∃a xs,v=.ref a/\SqL K H a xs/\Reps K (vw H hid) xs ds:=by
 rcases h with h|⟨a,xs,ds,h1,h2,h3,h4⟩
 ·cases h with
  |scr q r=>exact⟨_,_,rfl,(eT _ _).seq q.seq,r⟩
 ·cases h2
end
theorem PE.imp {X:Cx}{e:Expr}{t t':TE}(h:PE X e t)(i: ∀σ H Q,t' σ H Q->t σ H Q):PE X e t':=λae s σ H Q I q=>h ae s σ H Q I (i σ H Q q)
theorem PT.imp {X:Cx}{e:Expr}{t t':TT}(h:PT X e t)(i: ∀σ H Q,t' σ H Q->t σ H Q):PT X e t':=λae s σ H Q I q=>h ae s σ H Q I (i σ H Q q)
theorem PW.imp {X:Cx}{e:Expr}{t t':TT}(h:PW X e t)(i: ∀σ H Q,t' σ H Q->t σ H Q):PW X e t':=λwh ae s σ H Q I q=>h wh ae s σ H Q I (i σ H Q q)
theorem PA.imp {X:Cx}{e:List Expr}{t t':TA}(h:PA X e t)(i: ∀σ H Q,t' σ H Q->t σ H Q):PA X e t':=λp ae s σ H Q I q=>h p ae s σ H Q I (i σ H Q q)
theorem PS.imp {X:Cx}{e:Stmt}{t t':TS}(h:PS X e t)(i: ∀D σ H,t' D σ H->t D σ H):PS X e t':=λae s σ H D I q=>h ae s σ H D I (i D σ H q)
theorem PSs.imp {X:Cx}{e:List Stmt}{t t':TS}(h:PSs X e t)(i: ∀D σ H,t' D σ H->t D σ H):PSs X e t':=λae s σ H D I q=>h ae s σ H D I (i D σ H q)
abbrev FE:=aC->Option D
abbrev FT:=aC->Option Bool
abbrev FA:=aC->Option (List D)
def wb(K:W.Frag)(c:Ct)(hid:bF)(k:Kd)(f:FE)(ρ:aC):TE:=λσ H Q=>SR K c hid ρ σ H/\ ∃d,f ρ=some d/\ ∀v H',Same H H'->RK K k H H' hid v d->Q v H'
def Dp(K:W.Frag)(c:Ct)(hid:bF)(f:FT)(ρ:aC):TT:=λσ H Q=>SR K c hid ρ σ H/\ ∃d,f ρ=some d/\ ∀H',Same H H'->Q d H'
def Em(K:W.Frag)(c:Ct)(hid:bF)(f:FA)(ρ:aC):TA:=λσ H Q=>SR K c hid ρ σ H/\ ∃d,f ρ=some d/\ ∀vs H',Same H H'->Reps K (vw H' hid) vs d->Q vs H'
def DP(X:Cx)(c:Ct)(k:Kd)(e:Expr)(f:FE):Prop:= ∀hid ρ,PE X e (wb X.K c hid k f ρ)
def DT(X:Cx)(c:Ct)(e:Expr)(f:FT):Prop:= ∀hid ρ,PT X e (Dp X.K c hid f ρ)
def DW(X:Cx)(c:Ct)(e:Expr)(f:FT):Prop:= ∀hid ρ,PW X e (Dp X.K c hid f ρ)
def DA(X:Cx)(c:Ct)(es:List Expr)(f:FA):Prop:= ∀hid ρ,PA X es (Em X.K c hid f ρ)
section
variable {X:Cx}{c:Ct}{e a b:Expr}{es:List Expr}{f g:FE}{k:Kd}{pos:Pos}
theorem DP.toS(h:DP X c .n e f):DP X c .s e f:=λhid ρ=>PE.imp (h hid ρ) λσ H Q ⟨sr,d,hd,q⟩=>⟨sr,d,hd,λv H' s r=>q v H' s (RN.rep r λa n=>sr.fresh n)⟩
def ai(i:Nat):FE:=λρ=>match ρ[i]? with
 |some (.v d)=>some d
 |_=>none
def dr(i:Nat):FE:=λρ=>match ρ[i]? with
 |some (.v d)=>some d
 |some (.own ds)=>some (.lst ds)
 |some (.arg ds)=>some (.lst ds)
 |_=>none
theorem af(i:Nat){x:Str}(hN:X.N[i]? =some x:=by rfl)(hv:rf X.env.scope x:=by first|exact Or.inl rfl|exact Or.inr (Or.inl rfl)|exact Or.inr (Or.inr rfl))(hd:(x==("__debug__":Str))=false:=by decide)
 (hcd:(x==("__classdict__":Str))=false:=by decide):DP X c .s (.Name x pos) (ai i):=λhid ρ=>PE.imp (pv i hN hv hd hcd) λσ H Q hq_=>by
 obtain⟨sr,d,hd,q⟩:=hq_
 unfold ai at hd;split at hd
 ·rename_i d' e'
  cases hd
  obtain⟨x,h1,h2⟩:=sr.sl i _ e'
  exact⟨x,h1,q x H (Same.refl _) h2⟩
 ·cases hd
theorem dC(i:Nat){x:Str}(hN:X.N[i]? =some x:=by rfl)(hv:rf X.env.scope x:=by first|exact Or.inl rfl|exact Or.inr (Or.inl rfl)|exact Or.inr (Or.inr rfl))(hd:(x==("__debug__":Str))=false:=by decide)
 (hcd:(x==("__classdict__":Str))=false:=by decide):DP X c .b (.Name x pos) (dr i):=λhid ρ=>PE.imp (pv i hN hv hd hcd) λσ H Q hq_=>by
 obtain⟨sr,d,hd,q⟩:=hq_
 unfold dr at hd;split at hd
 ·rename_i d' e'
  cases hd
  obtain⟨x,h1,h2⟩:=sr.sl i _ e'
  exact⟨x,h1,q x H (Same.refl _) (.inl h2)⟩
 ·rename_i d' e'
  cases hd
  obtain⟨a,xs,h1,h2,h3,h4,h5⟩:=sr.sl i _ e'
  exact⟨_,h1,q _ H (Same.refl _) (.inr ⟨a,xs,_,rfl,rfl,h2,h5⟩)⟩
 ·rename_i d' e'
  cases hd
  obtain⟨a,xs,h1,h2,h3,h4,h5⟩:=sr.sl i _ e'
  exact⟨_,h1,q _ H (Same.refl _) (.inr ⟨a,xs,_,rfl,rfl,h2,h5⟩)⟩
 ·cases hd
def az(d:D):FE:=λ_=>some d
theorem al {i:Int}{j pos}:DP X c .s (.Constant (.int i) j pos) (az (.int i)):=λhid ρ=>PE.imp AL λσ H Q hq_=>by
 obtain⟨sr,d,hd,q⟩:=hq_
 cases hd;exact q _ H (Same.refl _) .int
theorem iz {i:Bool}{j pos}:DP X c .s (.Constant (.bool i) j pos) (az (.bl i)):=λhid ρ=>PE.imp BE λσ H Q hq_=>by
 obtain⟨sr,d,hd,q⟩:=hq_
 cases hd;exact q _ H (Same.refl _) .bl
theorem zE {i:Str}{j pos}:DP X c .s (.Constant (.str i) j pos) (az (.str i)):=λhid ρ=>PE.imp zi λσ H Q hq_=>by
 obtain⟨sr,d,hd,q⟩:=hq_
 cases hd;exact q _ H (Same.refl _) .str
def aq(F:D->D->Option D)(f g:FE):FE:=λρ=>(f ρ).bind λx=>(g ρ).bind λy=>F x y
theorem iN {F:D->D->Option D}{ρ:aC}{d:D}(h:aq F f g ρ=some d): ∃x y,f ρ=some x/\g ρ=some y/\F x y=some d:=by
 unfold aq at h;cases e1:f ρ with
 |none=>rw[e1] at h;cases h
 |some x=>
  cases e2:g ρ with
  |none=>rw[e1,e2] at h;cases h
  |some y=>rw[e1,e2] at h;exact⟨x,y,rfl,rfl,h⟩
def kL(K:W.Frag)(k:Kd)(r:R2)(F:D->D->Option D):Prop:= ∀(H:Hp) (hid:bF) (v u:V) (x y d:D) (Q:VK),(∀a,H a=none->hid a=false)->F x y=some d->Rep1 K H (vw H hid) v x->Rep1 K H (vw H hid) u y->
 (∀w H',Same H H'->RK K k H H' hid w d->Q w H')->r v u H Q
theorem RK.left {K:W.Frag}{H H1 H':Hp}{hid:bF}{v:V}{d:D}(s:Same H H1)(h:RK K k H1 H' hid v d):RK K k H H' hid v d:=by
 cases k with
 |b=>exact h
 |s=>exact h
 |n=>
  obtain⟨a,xs,ds,h1,h2,h3,h4⟩:=h
  exact⟨a,xs,ds,h1,h2,s.free h3,h4⟩
theorem CD {r:R2}{F:D->D->Option D}{k1 k2:Kd}{hid:bF}{ρ:aC}(hF:kL X.K k r F){σ:St}{H:Hp}{Q:VK}(h:wb X.K c hid k (aq F f g) ρ σ H Q):zP r (wb X.K c hid k1 f ρ) (wb X.K c hid k2 g ρ) σ H Q:=by
 obtain⟨sr,d,hd,q⟩:=h
 obtain⟨x,y,e1,e2,e3⟩:=iN hd
 refine⟨sr,x,e1,λv H1 s1 r1=>⟨sr.ext s1,y,e2,λu H2 s2 r2=>?_⟩⟩
 have b1:=(RK.b k1 r1 λa n=>sr.fresh n).ext s2
 have b2:=RK.b k2 r2 λa n=>(sr.ext s1).fresh n
 exact hF H2 hid v u x y d Q (λa n=>((sr.ext s1).ext s2).fresh n) e3 b1 b2 λw H' s3 r3=>q w H' ((s1.trans s2).trans s3) (RK.left (s1.trans s2) r3)
theorem me {op:Operator}{r:R2}{F:D->D->Option D}{k1 k2:Kd}(ho:jV X (binaryOp op) r)(hF:kL X.K k r F)(ha:DP X c k1 a f)(hb:DP X c k2 b g):DP X c k (.BinOp a op b pos) (aq F f g):=λhid ρ=>
 PE.imp (sy ho (ha hid ρ) (hb hid ρ)) λσ H Q h=>CD hF h
theorem mj {op:CmpOp}{r:R2}{F:D->D->Option D}{k1 k2:Kd}(ho:jV X (compareOp op) r)(hF:kL X.K .s r F)(ha:DP X c k1 a f)(hb:DP X c k2 b g)(hm:behindInMarks op b=false):DP X c .s (.Compare a [op] [b] pos) (aq F f g):=λhid ρ=>
 PE.imp (xS ho (ha hid ρ) (hb hid ρ) hm) λσ H Q h=>CD hF h
def qc:Option D->Option Bool
 |some (.bl b)=>some b
 |_=>none
theorem br {op:CmpOp}{r:R2}{F:D->D->Option D}{k1 k2:Kd}(ho:jV X (compareOp op) r)(hF:kL X.K .s r F)(ha:DP X c k1 a f)(hb:DP X c k2 b g)(hm:behindInMarks op b=false):DT X c (.Compare a [op] [b] pos) (λρ=>qc (aq F f g ρ)):=λhid ρ=>
 PT.imp (yh ho (ha hid ρ) (hb hid ρ) hm) λσ H Q hq_=>by
  obtain⟨sr,d,hd,q⟩:=hq_
  refine CD (X:=X) (k:=.s) (F:=F) hF ?_
  dsimp only at hd;cases e:aq F f g ρ with
  |none=>rw[e] at hd;cases hd
  |some x=>
   rw[e] at hd;cases x with
   |bl z=>
    cases hd
    refine⟨sr,_,e,λv H' s r=>⟨d,?_,q H' s⟩⟩
    cases r;rfl
   |_=>cases hd
theorem aU {r:R2}{F:D->D->Option D}{k1 k2:Kd}(hr:IxR X r)(hF:kL X.K k r F)(ha:DP X c k1 a f)(hb:DP X c k2 b g)(hs:n9 b):DP X c k (.Subscript a b pos) (aq F f g):=λhid ρ=>
 PE.imp (Cn hr (ha hid ρ) (hb hid ρ) hs) λσ H Q h=>CD hF h
end
def i2(C:Int->Int->Bool)(G:Int->Int->D):D->D->Option D
 | .int i,.int j=>if C i j=true then some (G i j) else none
 |_,_=>none
section
variable {K:W.Frag}
theorem oI {C:Int->Int->Bool}{G:Int->Int->D}{x y d:D}(h:i2 C G x y=some d): ∃i j,x=.int i/\y=.int j/\C i j=true/\d=G i j:=by
 unfold i2 at h;split at h
 ·split at h
  ·cases h;exact⟨_,_,rfl,rfl, ‹_›,rfl⟩
  ·cases h
 ·cases h
theorem xW {C:Int->Int->Prop}{B:Int->Int->Bool}{g:Int->Int->Int}(hC: ∀i j,B i j=true->C i j):kL K .s (rI C λi j=>.int (g i j)) (i2 B λi j=>.int (g i j)):=by
 intro H hid v u x y d Q hf h r1 r2 q;obtain⟨i,j,rfl,rfl,hc,rfl⟩:=oI h
 cases r1.int;cases r2.int
 exact⟨i,j,rfl,rfl,hC i j hc,q _ H (Same.refl _) .int⟩
theorem qr {g:Int->Int->Int}:kL K .s (xE λi j=>.int (g i j)) (i2 (λ_ _=>true) λi j=>.int (g i j)):=by
 intro H hid v u x y d Q hf h r1 r2 q;obtain⟨i,j,rfl,rfl,hc,rfl⟩:=oI h
 cases r1.int;cases r2.int
 exact⟨i,j,rfl,rfl,q _ H (Same.refl _) .int⟩
theorem iy {g:Int->Int->Bool}:kL K .s (xE λi j=>.bl (g i j)) (i2 (λ_ _=>true) λi j=>.bl (g i j)):=by
 intro H hid v u x y d Q hf h r1 r2 q;obtain⟨i,j,rfl,rfl,hc,rfl⟩:=oI h
 cases r1.int;cases r2.int
 exact⟨i,j,rfl,rfl,q _ H (Same.refl _) .bl⟩
end
section
variable {X:Cx}{c:Ct}{e a b:Expr}{es rest:List Expr}{f g:FE}{p q:FT}{k:Kd}{pos:Pos}
def BG:D->Option Bool
 | .non=>some false
 | .bl b=>some b
 | .int i=>some (i !=0)
 | .str y=>if y.length<=sizeLine then some ((y.length:Int) !=0) else none
 | .lst ds=>some (!ds.isEmpty)
 | .tup ds=>some (!ds.isEmpty)
 | .scr ds=>some (!ds.isEmpty)
theorem Reps.isEmpty {K:W.Frag}{F:Hp}{xs:List V}{ds:List D}(r:Reps K F xs ds):xs.isEmpty=ds.isEmpty:=by cases r<;>rfl
theorem zS {K:W.Frag}{H:Hp}{hid:bF}{v:V}{d:D}{b:Bool}(h:BG d=some b)(r:Rep1 K H (vw H hid) v d):Aj K v H b:=by
 cases d with
 |non=>cases r.non;cases h;rfl
 |bl x=>cases r.bl;cases h;rfl
 |int i=>cases r.int;cases h;rfl
 |str y=>
  cases r.str
  have h':(if y.length<=sizeLine then some ((y.length:Int) !=0) else none)=some b:=h
  split at h'
  ·cases h';exact⟨‹_›,rfl⟩
  ·cases h'
 |lst ds=>
  obtain⟨a,xs,rfl,h1,h2⟩:=r.lst
  cases h
  exact .inl ⟨xs,h1,by rw[h2.isEmpty]⟩
 |tup ds=>
  obtain⟨a,xs,rfl,_,h1,h2⟩:=r.tup
  cases h
  exact .inr (.inl ⟨xs,h1,by rw[h2.isEmpty]⟩)
 |scr ds=>
  obtain⟨a,xs,rfl,h1,h2⟩:=r.scr
  cases h
  exact .inl ⟨xs,h1,by rw[h2.isEmpty]⟩
def eU(f:FE):FT:=λρ=>(f ρ).bind BG
theorem ir(ha:DP X c k a f)(he: ∀whole,isTrue a X.env whole=(do let v <-whole;standAt a.pos;holding [v] (truthy v)):=by intro _;rfl):DT X c a (eU f):=λhid ρ=>
 PT.imp (wL (ha hid ρ) he) λσ H Q hq_=>by
  obtain⟨sr,d,hd,q⟩:=hq_
  unfold eU at hd;cases e:f ρ with
  |none=>rw[e] at hd;cases hd
  |some x=>
   rw[e] at hd;exact⟨sr,x,e,λv H' s r=>⟨d,zS hd (RK.b k r λa n=>sr.fresh n),q H' s⟩⟩
def ko(p q:FT):FT:=λρ=>(p ρ).bind λb=>if b=true then q ρ else some false
def yp(p q:FT):FT:=λρ=>(p ρ).bind λb=>if b=true then some true else q ρ
def gU(p:FT):FT:=λρ=>(p ρ).map (!·)
theorem xr(ha:DT X c a p):DW X c (.BoolOp .And [a] pos) p:=λhid ρ=>pw_and1 (ha hid ρ)
theorem rj(ha:DT X c a p):DW X c (.BoolOp .Or [a] pos) p:=λhid ρ=>pw_or1 (ha hid ρ)
theorem AU(ha:DT X c a p)(hb:DW X c (.BoolOp .And (b::rest) pos) q):DW X c (.BoolOp .And (a::b::rest) pos) (ko p q):=λhid ρ=>
 PW.imp (pw_and (ha hid ρ) (hb hid ρ)) λσ H Q hq_=>by
  obtain⟨sr,d,hd,hq⟩:=hq_
  unfold ko at hd;cases e:p ρ with
  |none=>rw[e] at hd;cases hd
  |some x=>
   rw[e] at hd;refine⟨sr,x,e,λH1 s1=>?_⟩
   cases x with
   |true=>exact pH ⟨sr.ext s1,d,hd,λH2 s2=>hq H2 (s1.trans s2)⟩
   |false=>cases hd;exact p6 (hq H1 s1)
theorem vS(ha:DT X c a p)(hb:DW X c (.BoolOp .Or (b::rest) pos) q):DW X c (.BoolOp .Or (a::b::rest) pos) (yp p q):=λhid ρ=>
 PW.imp (pw_or (ha hid ρ) (hb hid ρ)) λσ H Q hq_=>by
  obtain⟨sr,d,hd,hq⟩:=hq_
  unfold yp at hd;cases e:p ρ with
  |none=>rw[e] at hd;cases hd
  |some x=>
   rw[e] at hd;refine⟨sr,x,e,λH1 s1=>?_⟩
   cases x with
   |false=>exact p6 ⟨sr.ext s1,d,hd,λH2 s2=>hq H2 (s1.trans s2)⟩
   |true=>cases hd;exact pH (hq H1 s1)
theorem DW.dt(h:DW X c e p):DT X c e p:=λhid ρ=>(h hid ρ).pt
theorem lX(ha:DT X c a p):DT X c (.UnaryOp .Not a pos) (gU p):=λhid ρ=>
 PT.imp (z0 (ha hid ρ)) λσ H Q hq_=>by
  obtain⟨sr,d,hd,hq⟩:=hq_
  unfold gU at hd;cases e:p ρ with
  |none=>rw[e] at hd;cases hd
  |some x=>rw[e] at hd;cases hd;exact⟨sr,x,e,λH1 s1=>hq H1 s1⟩
def xf(p:FT):FE:=λρ=>(p ρ).map D.bl
def bC(f:FE):FT:=λρ=>qc (f ρ)
theorem lP {ρ:aC}{b:Bool}(h:bC f ρ=some b):f ρ=some (.bl b):=by
 unfold bC qc at h;split at h
 ·cases h;assumption
 ·cases h
theorem AV(ha:DP X c .s a f)(hb:DP X c .s (.BoolOp .And (b::rest) pos) g):DP X c .s (.BoolOp .And (a::b::rest) pos) (xf (ko (bC f) (bC g))):=λhid ρ=>
 PE.imp (zo (ha hid ρ) (hb hid ρ)) λσ H Q hq_=>by
  obtain⟨sr,d,hd,hq⟩:=hq_
  unfold xf ko at hd;cases e:bC f ρ with
  |none=>rw[e] at hd;cases hd
  |some x=>
   rw[e] at hd;refine⟨sr,_,lP e,λv H1 s1 r=>?_⟩
   cases r
   refine⟨x,rfl,?_⟩
   cases x with
   |true=>
    refine pH ?_
    cases e2:bC g ρ with
    |none=>rw[show(some true:Option Bool).bind (λb=>if b=true then bC g ρ else some false)=bC g ρ from rfl,e2] at hd;cases hd
    |some y=>
     rw[show(some true:Option Bool).bind (λb=>if b=true then bC g ρ else some false)=bC g ρ from rfl,e2] at hd;cases hd
     exact⟨sr.ext s1,_,lP e2,λv2 H2 s2 r2=>hq v2 H2 (s1.trans s2) r2⟩
   |false=>cases hd;exact p6 (hq _ H1 s1 .bl)
theorem zM {op}(h:DP X c k a f):DP X c k (.BoolOp op [a] pos) f:=λhid ρ=>AD (h hid ρ)
theorem wn(ha:DP X c .s a f):DP X c .s (.UnaryOp .Not a pos) (xf (gU (bC f))):=λhid ρ=>
 PE.imp (Al (ha hid ρ)) λσ H Q hq_=>by
  obtain⟨sr,d,hd,hq⟩:=hq_
  unfold xf gU at hd;cases e:bC f ρ with
  |none=>rw[e] at hd;cases hd
  |some x=>
   rw[e] at hd;cases hd;refine⟨sr,_,lP e,λv H1 s1 r=>?_⟩
   cases r
   exact⟨x,rfl,hq _ H1 s1 .bl⟩
def u7(p:FT)(f g:FE):FE:=λρ=>(p ρ).bind λb=>if b=true then f ρ else g ρ
theorem yP {t:Expr}(hk:k≠ .n)(ht:DT X c t p)(ha:DP X c k a f)(hb:DP X c k b g):DP X c k (.IfExp t a b pos) (u7 p f g):=λhid ρ=>
 PE.imp (wW (ht hid ρ) (ha hid ρ) (hb hid ρ)) λσ H Q hq_=>by
  obtain⟨sr,d,hd,hq⟩:=hq_
  unfold u7 at hd;cases e:p ρ with
  |none=>rw[e] at hd;cases hd
  |some x=>
   rw[e] at hd;refine⟨sr,x,e,λH1 s1=>?_⟩
   have lf: ∀ {v H2},RK X.K k H1 H2 hid v d->RK X.K k H H2 hid v d:=λ{v H2} r=>RK.left s1 r
   cases x with
   |true=>exact pH ⟨sr.ext s1,d,hd,λv H2 s2 r=>hq v H2 (s1.trans s2) (lf r)⟩
   |false=>exact p6 ⟨sr.ext s1,d,hd,λv H2 s2 r=>hq v H2 (s1.trans s2) (lf r)⟩
variable {r r':R2}{h:FE}{e3:Expr}
def za(F G:D->D->Option D)(f g h:FE):FE:=λρ=>(f ρ).bind λx=>(g ρ).bind λy=>(qc (F x y)).bind λk=>if k=true then(h ρ).bind λz=>G y z else some (.bl false)
theorem AN {F G:D->D->Option D}{k1 k2 k3:Kd}{hid:bF}{ρ:aC}(hF:kL X.K .s r F)(hG:kL X.K .s r' G){σ:St}{H:Hp}{Q:VK}(hh:wb X.K c hid .s (za F G f g h) ρ σ H Q):
 v0 r r' (wb X.K c hid k1 f ρ) (wb X.K c hid k2 g ρ) (wb X.K c hid k3 h ρ) σ H Q:=by
 obtain⟨sr,d,hd,q⟩:=hh
 unfold za at hd;cases e1:f ρ with
 |none=>rw[e1] at hd;cases hd
 |some x=>
  cases e2:g ρ with
  |none=>rw[e1,e2] at hd;cases hd
  |some y=>
   rw[e1,e2] at hd;have hd':(qc (F x y)).bind (λk=>if k=true then(h ρ).bind λz=>G y z else some (.bl false))=some d:=hd
   cases e3:F x y with
   |none=>rw[e3] at hd';cases hd'
   |some z=>
    cases z with
    |bl kk=>
     rw[e3] at hd';refine⟨sr,x,e1,λv H1 s1 r1=>⟨sr.ext s1,y,e2,λu H2 s2 r2=>?_⟩⟩
     have b1:=(RK.b k1 r1 λa n=>sr.fresh n).ext s2
     have b2:=RK.b k2 r2 λa n=>(sr.ext s1).fresh n
     have fr: ∀a,H2 a=none->hid a=false:=λa n=>((sr.ext s1).ext s2).fresh n
     refine hF H2 hid v u x y _ _ fr e3 b1 b2 λw H3 s3 r3=>?_
     cases r3
     refine⟨kk,rfl,?_⟩
     cases kk with
     |false=>cases hd';exact p6 (q _ H3 ((s1.trans s2).trans s3) .bl)
     |true=>
      refine pH ?_
      cases e4:h ρ with
      |none=>rw[e4] at hd';cases hd'
      |some z=>
       rw[e4] at hd';have hd2:G y z=some d:=hd'
       refine⟨((sr.ext s1).ext s2).ext s3,z,e4,λw' H4 s4 r4=>?_⟩
       have b3:=RK.b k3 r4 λa n=>(((sr.ext s1).ext s2).ext s3).fresh n
       exact hG H4 hid u w' y z d Q (λa n=>((((sr.ext s1).ext s2).ext s3).ext s4).fresh n) hd2 ((b2.ext s3).ext s4) b3 λw2 H5 s5 r5=>q w2 H5 ((((s1.trans s2).trans s3).trans s4).trans s5) r5
    |_=>rw[e3] at hd';cases hd'
theorem y9 {op op':CmpOp}{F G:D->D->Option D}{k1 k2 k3:Kd}(ho:jV X (compareOp op) r)(ho':jV X (compareOp op') r')(hF:kL X.K .s r F)(hG:kL X.K .s r' G)(ha:DP X c k1 a f)(hb:DP X c k2 b g)(hc:DP X c k3 e3 h)
 (hm:lastMarks [op,op'] [b,e3]=false:=by with_unfolding_all rfl):DP X c .s (.Compare a [op,op'] [b,e3] pos) (za F G f g h):=λhid ρ=>
 PE.imp (vC ho ho' (ha hid ρ) (hb hid ρ) (hc hid ρ) hm) λσ H Q hh=>AN hF hG hh
end
section
variable {X:Cx}{c:Ct}{e a b:Expr}{es rest:List Expr}{f g:FE}{fs:FA}{k:Kd}{pos:Pos}
def ah:FA:=λ_=>some []
def aa(f:FE)(fs:FA):FA:=λρ=>(f ρ).bind λd=>(fs ρ).map λr=>d::r
theorem mG {ρ:aC}{ds:List D}(h:aa f fs ρ=some ds): ∃d r,f ρ=some d/\fs ρ=some r/\ds=d::r:=by
 unfold aa at h;cases e1:f ρ with
 |none=>rw[e1] at h;cases h
 |some d=>
  cases e2:fs ρ with
  |none=>rw[e1,e2] at h;cases h
  |some r=>rw[e1,e2] at h;cases h;exact⟨d,r,rfl,rfl,rfl⟩
theorem ar:DA X c [] ah:=λhid ρ=>PA.imp cv λσ H Q ⟨sr,d,hd,q⟩=>by cases hd;exact q [] H (Same.refl _) .nil
theorem ag(ha:DP X c .s e f)(hr:DA X c es fs)(hs:starEach (e::es) X.env=(false,eval e X.env)::starEach es X.env:=by rfl):DA X c (e::es) (aa f fs):=λhid ρ=>
 PA.imp (aV (ha hid ρ) (hr hid ρ) hs) λσ H Q hq_=>by
  obtain⟨sr,d,hd,q⟩:=hq_
  obtain⟨d1,r,e1,e2,rfl⟩:=mG hd
  exact⟨sr,d1,e1,λv H1 s1 r1=>⟨sr.ext s1,r,e2,λvs H2 s2 r2=>q _ H2 (s1.trans s2) (.cons (Rep.mono (aN s2) r1) r2)⟩⟩
def cC(fs:FA):FE:=λρ=>(fs ρ).bind λds=>if ds.length<=sizeLine then some (.tup ds) else none
def bS(fs:FA):FE:=λρ=>(fs ρ).bind λds=>if ds.length<=sizeLine then some (.lst ds) else none
theorem uc {ρ:aC}{d:D}(h:cC fs ρ=some d): ∃ds,fs ρ=some ds/\ds.length<=sizeLine/\d=.tup ds:=by
 unfold cC at h;cases e1:fs ρ with
 |none=>rw[e1] at h;cases h
 |some ds=>
  rw[e1] at h;have h':(if ds.length<=sizeLine then some (D.tup ds) else none)=some d:=h
  split at h'
  ·cases h';exact⟨ds,rfl, ‹_›,rfl⟩
  ·cases h'
theorem ua {ρ:aC}{d:D}(h:bS fs ρ=some d): ∃ds,fs ρ=some ds/\ds.length<=sizeLine/\d=.lst ds:=by
 unfold bS at h;cases e1:fs ρ with
 |none=>rw[e1] at h;cases h
 |some ds=>
  rw[e1] at h;have h':(if ds.length<=sizeLine then some (D.lst ds) else none)=some d:=h
  split at h'
  ·cases h';exact⟨ds,rfl, ‹_›,rfl⟩
  ·cases h'
theorem bd {H:Hp}{p:Addr}(h:H p=none)(o:HO):Same H (cw H p o):=λb u q=>by rw[aI (bR q h)];exact q
theorem iU {K:W.Frag}{H:Hp}{hid:bF}{p:Addr}{xs:List V}{ds:List D}(hn:H p=none)(hf:hid p=false)(r:Reps K (vw H hid) xs ds):Rep K (vw (cw H p (.tup xs)) hid) (.ref p) (.tup ds):=
 .tup (SqT.of (vw_some.mpr ⟨hf,aY⟩)) (r.mono (aN (bd hn _)))
theorem lR {K:W.Frag}{H H0:Hp}{hid:bF}{p:Addr}{xs:List V}{ds:List D}(hn:H p=none)(s:Same H0 H)(r:Reps K (vw H hid) xs ds):RN K H0 (cw H p (.lst xs)) hid (.ref p) (.lst ds):=
 ⟨p,xs,ds,rfl,rfl,s.free hn,aY,by rw[rS hn];exact r⟩
theorem fu {x1}(h:DA X c es fs):DP X c .s (.Tuple es x1 pos) (cC fs):=λhid ρ=>PE.imp (vY (h hid ρ)) λσ H Q hq_=>by
 obtain⟨sr,d,hd,q⟩:=hq_
 obtain⟨ds,e1,hz,rfl⟩:=uc hd
 exact⟨sr,ds,e1,λvs H1 s1 r1=>⟨by rw[r1.length];exact hz,λp hp=>q _ _ (s1.trans (bd hp _)) (iU hp ((sr.ext s1).fresh hp) r1)⟩⟩
theorem dD(h:DA X c es fs):DP X c .n (.List es pos) (bS fs):=λhid ρ=>PE.imp (AF (h hid ρ)) λσ H Q hq_=>by
 obtain⟨sr,d,hd,q⟩:=hq_
 obtain⟨ds,e1,hz,rfl⟩:=ua hd
 exact⟨sr,ds,e1,λvs H1 s1 r1=>⟨by rw[r1.length];exact hz,λp hp=>q _ _ (s1.trans (bd hp _)) (lR hp s1 r1)⟩⟩
abbrev Reps1(K:W.Frag)(H W:Hp):List V->List D->Prop:=Paired (Rep1 K H W)
def Eb(K:W.Frag)(c:Ct)(hid:bF)(f:FA)(ρ:aC):TA:=λσ H Q=>SR K c hid ρ σ H/\ ∃d,f ρ=some d/\ ∀vs H',Same H H'->Reps1 K H' (vw H' hid) vs d->Q vs H'
def DB(X:Cx)(c:Ct)(es:List Expr)(f:FA):Prop:= ∀hid ρ,PA X es (Eb X.K c hid f ρ)
theorem bj:DB X c [] ah:=λhid ρ=>PA.imp cv λσ H Q ⟨sr,d,hd,q⟩=>by cases hd;exact q [] H (Same.refl _) .nil
theorem aJ(ha:DP X c k e f)(hr:DB X c es fs)(hs:starEach (e::es) X.env=(false,eval e X.env)::starEach es X.env:=by rfl):DB X c (e::es) (aa f fs):=λhid ρ=>
 PA.imp (aV (ha hid ρ) (hr hid ρ) hs) λσ H Q hq_=>by
  obtain⟨sr,d,hd,q⟩:=hq_
  obtain⟨d1,r,e1,e2,rfl⟩:=mG hd
  exact⟨sr,d1,e1,λv H1 s1 r1=>⟨sr.ext s1,r,e2,λvs H2 s2 r2=>q _ H2 (s1.trans s2) (.cons ((RK.b k r1 λa n=>sr.fresh n).ext s2) r2)⟩⟩
def iS(K:W.Frag)(k:Kd)(r:List V->Hp->VK->Prop)(F:List D->Option D):Prop:= ∀(H:Hp) (hid:bF) (vs:List V) (ds:List D) (d:D) (Q:VK),(∀a,H a=none->hid a=false)->F ds=some d->Reps1 K H (vw H hid) vs ds->
 (∀w H',Same H H'->RK K k H H' hid w d->Q w H')->r vs H Q
def ak(F:List D->Option D)(fs:FA):FE:=λρ=>(fs ρ).bind F
theorem lH {F:List D->Option D}{ρ:aC}{d:D}(h:ak F fs ρ=some d): ∃ds,fs ρ=some ds/\F ds=some d:=by
 unfold ak at h;cases e1:fs ρ with
 |none=>rw[e1] at h;cases h
 |some ds=>rw[e1] at h;exact⟨ds,rfl,h⟩
theorem BJ {r:List V->Hp->VK->Prop}{F:List D->Option D}{hid:bF}{ρ:aC}(hF:iS X.K k r F){σ:St}{H:Hp}{Q:VK}(h:wb X.K c hid k (ak F fs) ρ σ H Q):Dn r (Eb X.K c hid fs ρ) σ H Q:=by
 obtain⟨sr,d,hd,q⟩:=h
 obtain⟨ds,e1,e2⟩:=lH hd
 exact⟨sr,ds,e1,λvs H1 s1 r1=>hF H1 hid vs ds d Q (λa n=>(sr.ext s1).fresh n) e2 r1 λw H' s2 r2=>q w H' (s1.trans s2) (RK.left s1 r2)⟩
variable {x:Str}{p:Pos}{id T:String}{r:List V->Hp->VK->Prop}{F:List D->Option D}
theorem aX(hc:dH X (.builtin id) r)(hF:iS X.K k r F)(hm:X.mg x=none)(ha:DB X c (e::es) fs)(hg:Gl X x:=by rfl)(hv:bootBuiltins x=some (.builtin id):=by first|exact PySem.boot_len|rfl|kernel_rfl)(hn:x≠"__name__":=by decide)(hdb:(x==("__debug__":Str))=false:=by decide)
 (he:starEach (e::es) X.env=(false,eval e X.env)::starEach es X.env:=by rfl) (hpl:(backTo pos (starEach es X.env)).any (·.1)=false:=by rfl):DP X c k (.Call (.Name x p) (e::es) [] pos) (ak F fs):=λhid ρ=>
 PE.imp (gW hc hg hm hv (ha hid ρ) hn hdb he hpl) λσ H Q h=>BJ hF h
theorem fk(hc:dH X (.type T) r)(hF:iS X.K k r F)(hm:X.mg x=none)(ha:DB X c (e::es) fs)(hg:Gl X x:=by rfl)(hv:bootBuiltins x=some (.type T):=by first|rfl|kernel_rfl)(hn:x≠"__name__":=by decide)(hdb:(x==("__debug__":Str))=false:=by decide)
 (he:starEach (e::es) X.env=(false,eval e X.env)::starEach es X.env:=by rfl) (hpl:(backTo pos (starEach es X.env)).any (·.1)=false:=by rfl):DP X c k (.Call (.Name x p) (e::es) [] pos) (ak F fs):=λhid ρ=>
 PE.imp (eB hc hg hm hv (ha hid ρ) hn hdb he hpl) λσ H Q h=>BJ hF h
end
section
variable {K:W.Frag}
theorem Reps1.one {H W:Hp}{v:List V}{d:D}(r:Reps1 K H W v [d]): ∃x,v=[x]/\Rep1 K H W x d:=by
 cases r with
 |cons r t=>cases t;exact⟨_,rfl,r⟩
theorem Reps1.two {H W:Hp}{v:List V}{d d':D}(r:Reps1 K H W v [d,d']): ∃x y,v=[x,y]/\Rep1 K H W x d/\Rep1 K H W y d':=by
 cases r with
 |cons r t=>cases t with
  |cons r' t=>cases t;exact⟨_,_,rfl,r,r'⟩
def bD:List D->Option D
 | [.lst ds]=>some (.int ds.length)
 | [.tup ds]=>some (.int ds.length)
 | [.scr ds]=>some (.int ds.length)
 |_=>none
theorem dG:iS K .s (λxs H Q=> ∃p ys,xs=[.ref p]/\(SqL K H p ys\/SqT K H p ys)/\Q (.int ys.length) H) bD:=by
 intro H hid vs ds d Q hf h r q;unfold bD at h;split at h
 ·cases h
  obtain⟨x,rfl,r1⟩:=Reps1.one r
  obtain⟨a,xs,rfl,h1,h2⟩:=r1.lst
  exact⟨a,xs,rfl,.inl h1,by rw[h2.length];exact q _ H (Same.refl _) .int⟩
 ·cases h
  obtain⟨x,rfl,r1⟩:=Reps1.one r
  obtain⟨a,xs,rfl,_,h1,h2⟩:=r1.tup
  exact⟨a,xs,rfl,.inr h1,by rw[h2.length];exact q _ H (Same.refl _) .int⟩
 ·cases h
  obtain⟨x,rfl,r1⟩:=Reps1.one r
  obtain⟨a,xs,rfl,h1,h2⟩:=r1.scr
  exact⟨a,xs,rfl,.inl h1,by rw[h2.length];exact q _ H (Same.refl _) .int⟩
 ·cases h
def p5:List D->Option D
 | [.int i]=>some (.int (if i<0 then -i else i))
 |_=>none
theorem Ax:iS K .s (λxs H Q=> ∃i,xs=[.int i]/\Q (.int (if i<0 then -i else i)) H) p5:=by
 intro H hid vs ds d Q hf h r q;unfold p5 at h;split at h
 ·cases h
  obtain⟨x,rfl,r1⟩:=Reps1.one r
  cases r1.int
  exact⟨_,rfl,q _ H (Same.refl _) .int⟩
 ·cases h
def nk:List D->Option D
 | [.int i,.int j]=>some (.int (if j>i then j else i))
 |_=>none
theorem oq:iS K .s (λxs H Q=> ∃i j,xs=[.int i,.int j]/\Q (.int (if j>i then j else i)) H) nk:=by
 intro H hid vs ds d Q hf h r q;unfold nk at h;split at h
 ·cases h
  obtain⟨x,y,rfl,r1,r2⟩:=Reps1.two r
  cases r1.int;cases r2.int
  exact⟨_,_,rfl,q _ H (Same.refl _) .int⟩
 ·cases h
def jw:List D->Option D
 | [.int i,.int j]=>some (.int (if j<i then j else i))
 |_=>none
theorem o9:iS K .s (λxs H Q=> ∃i j,xs=[.int i,.int j]/\Q (.int (if j<i then j else i)) H) jw:=by
 intro H hid vs ds d Q hf h r q;unfold jw at h;split at h
 ·cases h
  obtain⟨x,y,rfl,r1,r2⟩:=Reps1.two r
  cases r1.int;cases r2.int
  exact⟨_,_,rfl,q _ H (Same.refl _) .int⟩
 ·cases h
def fb:List D->Option D
 | [.lst ds]=>some (.tup ds)
 | [.tup ds]=>some (.tup ds)
 |_=>none
theorem jZ:iS K .s (λxs H Q=> ∃p ys,xs=[.ref p]/\((SqL K H p ys/\ ∀l,H l=none->Q (.ref l) (cw H l (.tup ys)))\/(SqT K H p ys/\Q (.ref p) H))) fb:=by
 intro H hid vs ds d Q hf h r q;unfold fb at h;split at h
 ·cases h
  obtain⟨x,rfl,r1⟩:=Reps1.one r
  obtain⟨a,xs,rfl,h1,h2⟩:=r1.lst
  exact⟨a,xs,rfl,.inl ⟨h1,λl hl=>q _ _ (bd hl _) (iU hl (hf l hl) h2)⟩⟩
 ·cases h
  obtain⟨x,rfl,r1⟩:=Reps1.one r
  obtain⟨a,xs,rfl,h0,h1,h2⟩:=r1.tup
  exact⟨a,xs,rfl,.inr ⟨h1,q _ H (Same.refl _) (.tup h0 h2)⟩⟩
 ·cases h
def bn:D->D->Option D
 | .lst ds,.int i=>nJ ds i
 | .tup ds,.int i=>nJ ds i
 | .scr ds,.int i=>nJ ds i
 |_,_=>none
theorem oA {F:Hp}{xs:List V}{ds:List D}{i:Int}{d:D}(r:Reps K F xs ds)(h:nJ ds i=some d): ∃x,nJ xs i=some x/\Rep K F x d:=by
 unfold nJ at h⊢;rw[r.length];cases e:qy ds.length i with
 |none=>rw[e] at h;cases h
 |some j=>
  rw[e] at h;obtain⟨x,h1,h2⟩:=r.get (i:=j) h
  exact⟨x,h1,h2⟩
theorem aT:kL K .s (Ec K) bn:=by
 intro H hid v u x y d Q hf h r1 r2 q;unfold bn at h;split at h
 ·cases r2.int
  obtain⟨a,xs,rfl,h1,h2⟩:=r1.lst
  obtain⟨z,h3,h4⟩:=oA h2 h
  exact .inl ⟨a,xs,_,z,rfl,rfl,h1,h3,q _ H (Same.refl _) h4⟩
 ·cases r2.int
  obtain⟨a,xs,rfl,_,h1,h2⟩:=r1.tup
  obtain⟨z,h3,h4⟩:=oA h2 h
  exact .inr (.inl ⟨a,xs,_,z,rfl,rfl,h1,h3,q _ H (Same.refl _) h4⟩)
 ·cases r2.int
  obtain⟨a,xs,rfl,h1,h2⟩:=r1.scr
  obtain⟨z,h3,h4⟩:=oA h2 h
  exact .inl ⟨a,xs,_,z,rfl,rfl,h1,h3,q _ H (Same.refl _) h4⟩
 ·cases h
end
abbrev GE:=aC->Option (D×aC)
abbrev GA:=aC->Option (List D×aC)
def Kept(hid:bF)(H H':Hp):Prop:= ∀b o,H b=some o->hid b=false->H' b=some o
theorem Kept.of {hid:bF}{H H':Hp}(s:Same H H'):Kept hid H H':=λb o q _=>s b o q
theorem Kept.trans {hid:bF}{H H1 H2:Hp}(a:Kept hid H H1)(b:Kept hid H1 H2):Kept hid H H2:=λc o q h=>b c o (a c o q h) h
theorem Kept.vw {hid:bF}{H H':Hp}(a:Kept hid H H'):Same (vw H hid) (vw H' hid):=sT a
def PostE(K:W.Frag)(c:Ct)(hid:bF)(k:Kd)(ρ':aC)(σ:St)(H H':Hp)(v:V)(d:D):Prop:=Kept hid H H'/\match k with
 | .n=> ∃a xs ds,d=.lst ds/\v=.ref a/\H a=none/\H' a=some (.lst xs)/\c.H₀ a=none/\hid a=false/\SR K c (cH hid a) ρ' σ H'/\Reps K (vw H' (cH hid a)) xs ds/\ ∀i:Nat,Ow ρ'[i]? ->σ[i]? ≠some (some (.ref a))
 |_=>SR K c hid ρ' σ H'/\Rep K (vw H' hid) v d
def CG(K:W.Frag)(c:Ct)(hid:bF)(k:Kd)(f:GE)(ρ:aC):TE:=λσ H Q=>SR K c hid ρ σ H/\ ∃d ρ',f ρ=some (d,ρ')/\ ∀v H',PostE K c hid k ρ' σ H H' v d->Q v H'
def DE(X:Cx)(c:Ct)(k:Kd)(e:Expr)(f:GE):Prop:= ∀hid ρ,PE X e (CG X.K c hid k f ρ)
def pu(f:FE):GE:=λρ=>(f ρ).map λd=>(d,ρ)
theorem xC {f:FE}{ρ ρ':aC}{d:D}(h:pu f ρ=some (d,ρ')):f ρ=some d/\ρ'=ρ:=by
 unfold pu at h;cases e:f ρ with
 |none=>rw[e] at h;cases h
 |some x=>rw[e] at h;cases h;exact⟨rfl,rfl⟩
section
variable {K:W.Frag}{c:Ct}{hid hid':bF}{ρ:aC}{σ:St}{H H':Hp}{i:Nat}{a:Addr}
theorem dz {hid:bF}{a b:Addr}(h:hid b=true):cH hid a b=true:=by unfold cH;rw[h];rfl
theorem jk {hid:bF}{a:Addr}:cH hid a a=true:=by unfold cH;simp
theorem SR.hide(h:SR K c hid ρ σ H)(e:Same H H')(n:H a=none){o:HO}(ho:H' a=some o)(hn: ∀xs,o≠ .tup xs:=by intro _ e;cases e):SR K c (cH hid a) ρ σ H':=by
 have sm:Same (vw H hid) (vw H' (cH hid a)):=λb o q=>by
  obtain⟨q1,q2⟩:=vw_some.mp q
  refine vw_some.mpr ⟨?_,e _ _ q2⟩
  unfold cH;rw[q1];have:b≠a:=bR q2 n
  simp[this]
 refine⟨λb hb=>?_,λb xs hb q=>by
  by_cases eb:b=a
  ·subst eb;rw[ho] at q;exact hn _ (Option.some.inj q)
  ·unfold cH at hb
   exact(h.ext e).ht b xs (by simpa [eb] using hb) q,λb q=>dz (h.h0 b q),(h.ext e).kp,(h.ext e).t0,h.c0,h.m0,h.len,λi s q=>?_,h.ap⟩
 ·by_cases eb:b=a
  ·subst eb;exact⟨_,ho⟩
  ·unfold cH at hb
   have:hid b=true:=by simpa [eb] using hb
   obtain⟨o',q⟩:=h.tr b this
   exact⟨o',e _ _ q⟩
 ·have z:=h.sl i s q
  cases s with
  |no=>trivial
  |v d=>obtain⟨x,h1,h2⟩:=z;exact⟨x,h1,h2.mono sm⟩
  |own ds=>obtain⟨a',xs,h1,h2,h3,h4,h5⟩:=z;exact⟨a',xs,h1,e _ _ h2,dz h3,h4,h5.mono sm⟩
  |arg ds=>obtain⟨a',xs,h1,h2,h3,h4,h5⟩:=z;exact⟨a',xs,h1,e _ _ h2,dz h3,h4,h5.mono sm⟩
  |ob b=>obtain⟨a',h1,h2⟩:=z;exact⟨a',h1,h2.mono (λ_ x _=>e x) sm λ_ _ _=>dz⟩
theorem SR.show (h:SR K c (cH hid a) ρ σ H)(h0: ∀b,c.hid₀ b=true->hid b=true)(no: ∀i:Nat,Ow ρ[i]? ->σ[i]? ≠some (some (.ref a))){o:HO}(ha:H a=some o)(hn: ∀p u,o≠ .nst p u:=by intro _ _ e;cases e):SR K c hid ρ σ H:=by
 have sm:Same (vw H (cH hid a)) (vw H hid):=fU λb q=>dz q
 have un: ∀b,b≠a->cH hid a b=true->hid b=true:=λb nb hb=>by unfold cH at hb;simpa [nb] using hb
 refine⟨λb hb=>h.tr b (dz hb),λb xs hb=>h.ht b xs (dz hb),h0,h.kp,h.t0,h.c0,h.m0,h.len,λi s q=>?_,h.ap⟩
 have z:=h.sl i s q
 cases s with
 |no=>trivial
 |v d=>obtain⟨x,h1,h2⟩:=z;exact⟨x,h1,h2.mono sm⟩
 |own ds=>
  obtain⟨a',xs,h1,h2,h3,h4,h5⟩:=z
  have:a'≠a:=λe=>by subst e;exact no i (by rw[q];trivial) h1
  exact⟨a',xs,h1,h2,un a' this h3,h4,h5.mono sm⟩
 |arg ds=>
  obtain⟨a',xs,h1,h2,h3,h4,h5⟩:=z
  have:a'≠a:=λe=>by subst e;exact no i (by rw[q];trivial) h1
  exact⟨a',xs,h1,h2,un a' this h3,h4,h5.mono sm⟩
 |ob b=>
  obtain⟨a',h1,h2⟩:=z
  exact⟨a',h1,h2.mono (λ_ _ _ _ q=>q) sm λow x hx=>un x (hx.ne (λe=>by subst e;exact no i (by rw[q];exact ow) h1) ha hn)⟩
theorem SR.notOw(h:SR K c hid ρ σ H)(n:hid a=false)(i:Nat)(o:Ow ρ[i]?):σ[i]? ≠some (some (.ref a)):=λe=>by
 cases q:ρ[i]? with
 |none=>rw[q] at o;exact o
 |some s=>
  rw[q] at o;have z:=h.sl i s q
  cases s with
  |no=>exact o
  |v d=>exact o
  |own ds=>obtain⟨a',xs,h1,h2,h3,_⟩:=z;rw[e] at h1;cases h1;rw[n] at h3;cases h3
  |arg ds=>obtain⟨a',xs,h1,h2,h3,_⟩:=z;rw[e] at h1;cases h1;rw[n] at h3;cases h3
  |ob b=>obtain⟨a',h1,h2⟩:=z;rw[e] at h1;cases h1;have:=h2.hid o;rw[n] at this;cases this
theorem SR.post {k:Kd}{v:V}{d:D}(h:SR K c hid ρ σ H)(e:Same H H')(r:RK K k H H' hid v d)(hk:k≠ .b):PostE K c hid k ρ σ H H' v d:=by
 cases k with
 |b=>exact absurd rfl hk
 |s=>exact⟨.of e,h.ext e,r⟩
 |n=>
  obtain⟨a,xs,ds,h1,h2,h3,h4,h5⟩:=r
  exact⟨.of e,a,xs,ds,h1,h2,h3,h4,h.fresh0 h3,h.fresh h3,h.hide e h3 h4,h5,h.notOw (h.fresh h3)⟩
theorem PostE.left {k:Kd}{ρ':aC}{H1:Hp}{v:V}{d:D}(s:Kept hid H H1)(p:PostE K c hid k ρ' σ H1 H' v d):PostE K c hid k ρ' σ H H' v d:=by
 cases k with
 |b=>exact⟨s.trans p.1,p.2⟩
 |s=>exact⟨s.trans p.1,p.2⟩
 |n=>
  obtain⟨kp,a,xs,ds,h1,h2,hn,h3,h4,h5,h6⟩:=p
  refine⟨s.trans kp,a,xs,ds,h1,h2,?_,h3,h4,h5,h6⟩
  cases e:H a with
  |none=>rfl
  |some o=>rw[s a o e h5] at hn;cases hn
theorem PostE.toS {ρ':aC}{v:V}{d:D}(h0: ∀b,c.hid₀ b=true->hid b=true)(p:PostE K c hid .n ρ' σ H H' v d):PostE K c hid .s ρ' σ H H' v d:=by
 obtain⟨kp,a,xs,ds,rfl,rfl,hn,h1,h2,h3,h4,h5,h6⟩:=p
 exact⟨kp,h4.show h0 h6 h1,.lst (vw_some.mpr ⟨h3,h1⟩) (h5.mono (fU λb q=>dz q))⟩
end
section
variable {X:Cx}{c:Ct}{e a b:Expr}{es rest:List Expr}{f g:GE}{k:Kd}{pos:Pos}
theorem DP.ef {f:FE}(h:DP X c k e f)(hk:k≠ .b:=by decide):DE X c k e (pu f):=λhid ρ=>PE.imp (h hid ρ) λσ H Q hq_=>by
 obtain⟨sr,d,ρ',hd,q⟩:=hq_
 obtain⟨h1,rfl⟩:=xC hd
 exact⟨sr,d,h1,λv H' s r=>q v H' (sr.post s r hk)⟩
theorem DE.toS(h:DE X c .n e f):DE X c .s e f:=λhid ρ=>PE.imp (h hid ρ) λσ H Q ⟨sr,d,ρ',hd,q⟩=>⟨sr,d,ρ',hd,λv H' p=>q v H' (p.toS sr.h0)⟩
def bE {α:Type}(f:GE)(g:D->aC->Option α):aC->Option α:=λρ=>(f ρ).bind λp=>g p.1 p.2
theorem nU {α:Type}{g:D->aC->Option α}{ρ:aC}{z:α}(h:bE f g ρ=some z): ∃d ρ',f ρ=some (d,ρ')/\g d ρ'=some z:=by
 unfold bE at h;cases e:f ρ with
 |none=>rw[e] at h;cases h
 |some p=>rw[e] at h;exact⟨p.1,p.2,rfl,h⟩
def lB(F:D->D->Option D)(f g:GE):GE:=bE f λx=>bE g λy ρ=>(F x y).map λd=>(d,ρ)
theorem uu {F:D->D->Option D}{ρ ρ':aC}{d:D}(h:lB F f g ρ=some (d,ρ')): ∃x ρ1 y,f ρ=some (x,ρ1)/\g ρ1=some (y,ρ')/\F x y=some d:=by
 obtain⟨x,ρ1,h1,h2⟩:=nU h
 obtain⟨y,ρ2,h3,h4⟩:=nU h2
 cases e:F x y with
 |none=>rw[e] at h4;cases h4
 |some z=>rw[e] at h4;cases h4;exact⟨x,ρ1,y,h1,h3,e⟩
theorem Dd {r:R2}{F:D->D->Option D}{hid:bF}{ρ:aC}(hF:kL X.K k r F)(hk:k≠ .b){σ:St}{H:Hp}{Q:VK}(h:CG X.K c hid k (lB F f g) ρ σ H Q):zP r (CG X.K c hid .s f ρ) (λσ H Q=> ∃ρ1,CG X.K c hid .s g ρ1 σ H Q) σ H Q:=by
 obtain⟨sr,d,ρ',hd,q⟩:=h
 obtain⟨x,ρ1,y,e1,e2,e3⟩:=uu hd
 refine⟨sr,x,ρ1,e1,λv H1 ⟨k1,s1,r1⟩=>⟨ρ1,s1,y,ρ',e2,λu H2 ⟨k2,s2,r2⟩=>?_⟩⟩
 exact hF H2 hid v u x y d Q (λa n=>s2.fresh n) e3 (.inl (r1.mono k2.vw)) (.inl r2) λw H' s3 r3=>q w H' (PostE.left (k1.trans k2) (s2.post s3 r3 hk))
theorem mC {α:Type}{t:α->TE}(h: ∀z,PE X e (t z)):PE X e (λσ H Q=> ∃z,t z σ H Q):=λae s σ H Q I ⟨z,q⟩=>h z ae s σ H Q I q
theorem Bk {op:Operator}{r:R2}{F:D->D->Option D}(ho:jV X (binaryOp op) r)(hF:kL X.K k r F)(ha:DE X c .s a f)(hb:DE X c .s b g)(hk:k≠ .b:=by decide):DE X c k (.BinOp a op b pos) (lB F f g):=λhid ρ=>
 PE.imp (sy ho (ha hid ρ) (mC λρ1=>hb hid ρ1)) λσ H Q h=>Dd hF hk h
def Ew(K:W.Frag)(c:Ct)(hid:bF)(f:GA)(ρ:aC):TA:=λσ H Q=>SR K c hid ρ σ H/\ ∃d ρ',f ρ=some (d,ρ')/\ ∀vs H',Kept hid H H'->SR K c hid ρ' σ H'->Reps K (vw H' hid) vs d->Q vs H'
def DG(X:Cx)(c:Ct)(es:List Expr)(f:GA):Prop:= ∀hid ρ,PA X es (Ew X.K c hid f ρ)
def cm(f:FA):GA:=λρ=>(f ρ).map λd=>(d,ρ)
theorem lY {f:FA}{ρ ρ':aC}{d:List D}(h:cm f ρ=some (d,ρ')):f ρ=some d/\ρ'=ρ:=by
 unfold cm at h;cases e:f ρ with
 |none=>rw[e] at h;cases h
 |some x=>rw[e] at h;cases h;exact⟨rfl,rfl⟩
theorem DA.gf {f:FA}(h:DA X c es f):DG X c es (cm f):=λhid ρ=>PA.imp (h hid ρ) λσ H Q hq_=>by
 obtain⟨sr,d,ρ',hd,q⟩:=hq_
 obtain⟨h1,rfl⟩:=lY hd
 exact⟨sr,d,h1,λv H' s r=>q v H' (.of s) (sr.ext s) r⟩
def cZ(f:GE)(fs:GA):GA:=bE f λd ρ=>(fs ρ).map λp=>(d::p.1,p.2)
theorem Di {α:Type}{t:α->TA}(h: ∀z,PA X es (t z)):PA X es (λσ H Q=> ∃z,t z σ H Q):=λp ae s σ H Q I ⟨z,q⟩=>h z p ae s σ H Q I q
theorem jl {fs:GA}(ha:DE X c .s e f)(hr:DG X c es fs)(hs:starEach (e::es) X.env=(false,eval e X.env)::starEach es X.env:=by rfl):DG X c (e::es) (cZ f fs):=λhid ρ=>
 PA.imp (aV (ha hid ρ) (Di λρ1=>hr hid ρ1) hs) λσ H Q hq_=>by
  obtain⟨sr,d,ρ',hd,q⟩:=hq_
  obtain⟨d1,ρ1,e1,h2⟩:=nU hd
  cases e2:fs ρ1 with
  |none=>rw[e2] at h2;cases h2
  |some p=>
   rw[e2] at h2;obtain⟨ds,ρ2⟩:=p
   cases h2
   exact⟨sr,d1,ρ1,e1,λv H1 ⟨k1,s1,r1⟩=>⟨ρ1,s1,ds,_,e2,λvs H2 k2 s2 r2=>q _ H2 (k1.trans k2) s2 (.cons (r1.mono k2.vw) r2)⟩⟩
end
def eW(K:W.Frag)(k:Kd)(n:Nat)(P:List D->Option D):Sp:=λvs H Q _=> ∃hid ds,AZ hid H/\Reps K (vw H hid) vs ds/\ds.length=n/\ ∃d,P ds=some d/\ ∀v H',Same H H'->RK K k H H' hid v d->Q v H'
def BM(K:W.Frag)(k:Kd)(hid:bF)(H H':Hp)(v:V)(d:D)(xs':List V)(bs':List D):Prop:=match k with
 | .n=> ∃p ys es,d=.lst es/\v=.ref p/\H p=none/\H' p=some (.lst ys)/\Reps K (vw H' (cH hid p)) ys es/\Reps K (vw H' (cH hid p)) xs' bs'
 |_=>Rep K (vw H' hid) v d/\Reps K (vw H' hid) xs' bs'
def qJ(K:W.Frag)(k:Kd)(n:Nat)(M:List D->List D->Option (D×List D)):Sp:=λvs H Q _=> ∃hid a xs bs us ds,vs=.ref a::us/\AZ hid H/\hid a=true/\H a=some (.lst xs)/\Reps K (vw H hid) xs bs/\
 Reps K (vw H hid) us ds/\ds.length=n/\ ∃d bs',M bs ds=some (d,bs')/\ ∀v H' xs',(∀b o,H b=some o->b≠a->H' b=some o)->H' a=some (.lst xs')->BM K k hid H H' v d xs' bs'->Q v H'
section
variable {X:Cx}{c:Ct}{e a b:Expr}{es rest:List Expr}{k:Kd}{pos p:Pos}{x:Str}{f:Addr}{fd:FuncData}{ps:List Str}{j n:Nat}
theorem x8 {P:List D->Option D}{fs:FA}(F:FnOk X.prog X.w X.K X.mg X.base nM j f fd ps (eW X.K k n P))(hr:Room j X.A)(hm:X.mg x=some (.ref f))(hk:W.keepIn X.K (.ref f)=true)(hb:Binds X.K fd ps [])
 (ha:DA X c (e::es) fs) (hg:Gl X x:=by rfl) (hdb:(x==("__debug__":Str))=false:=by decide) (he:starEach (e::es) X.env=(false,eval e X.env)::starEach es X.env:=by rfl) (hpl:(backTo pos (starEach es X.env)).any (·.1)=false:=by rfl):
 DP X c k (.Call (.Name x p) (e::es) [] pos) (ak (λds=>if ds.length=n then P ds else none) fs):=λhid ρ=>
 PE.imp (tK F hr hg hm hk hb .nil (yR (X:=X)) (ha hid ρ) hdb he hpl) λσ H Q hq_=>by
  obtain⟨sr,d,hd,q⟩:=hq_
  obtain⟨ds,e1,e2⟩:=lH hd
  have e2':(if ds.length=n then P ds else none)=some d:=e2
  split at e2'
  ·refine⟨sr,ds,e1,λvs H1 s1 r1=>?_⟩
   show eW X.K k n P (vs++[]) H1 Q E0;rw[List.append_nil];exact⟨hid,ds,(sr.ext s1).trk,r1, ‹_›,d,e2',λv H' s2 r2=>q v H' (s1.trans s2) (RK.left s1 r2)⟩
  ·cases e2'
def fP(i:Nat)(bs:List D)(ρ:aC):aC:=match ρ[i]? with
 |some (.own _)=>ρ.set i (.own bs)
 |some (.arg _)=>ρ.set i (.arg bs)
 |_=>ρ
def gy(i:Nat)(ρ:aC):Option (List D):=match ρ[i]? with
 |some (.own ds)=>some ds
 |some (.arg ds)=>some ds
 |_=>none
theorem gX {i:Nat}{ρ:aC}{bs:List D}(h:gy i ρ=some bs):ρ[i]? =some (.own bs)\/ρ[i]? =some (.arg bs):=by
 unfold gy at h;split at h
 ·cases h;exact .inl ‹_›
 ·cases h;exact .inr ‹_›
 ·cases h
theorem SR.held {K:W.Frag}{hid:bF}{ρ:aC}{σ:St}{H:Hp}{i:Nat}{bs:List D}(h:SR K c hid ρ σ H)(hg:gy i ρ=some bs): ∃a xs,σ[i]? =some (some (.ref a))/\H a=some (.lst xs)/\hid a=true/\Reps K (vw H hid) xs bs/\(c.mu a=true\/c.H₀ a=none):=by
 rcases gX hg with e|e
 ·obtain⟨a,xs,h1,h2,h3,h4,h5⟩:=h.sl i _ e
  exact⟨a,xs,h1,h2,h3,h5,.inr h4⟩
 ·obtain⟨a,xs,h1,h2,h3,h4,h5⟩:=h.sl i _ e
  exact⟨a,xs,h1,h2,h3,h5,.inl h4⟩
theorem ju {i j:Nat}{ρ:aC}{bs:List D}(h:j≠i):(fP i bs ρ)[j]? =ρ[j]? :=by
 unfold fP;split
 ·rw[List.getElem?_set_ne (Ne.symm h)]
 ·rw[List.getElem?_set_ne (Ne.symm h)]
 ·rfl
theorem wf {i:Nat}{ρ:aC}{bs:List D}:(fP i bs ρ).length=ρ.length:=by
 unfold fP;split
 ·simp
 ·simp
 ·rfl
theorem oH {i j:Nat}{ρ:aC}{bs:List D}(h:Ow (fP i bs ρ)[j]?):Ow ρ[j]? :=by
 by_cases e:j=i
 ·subst e
  unfold fP at h;split at h
  ·rw[‹ρ[j]? =_›];trivial
  ·rw[‹ρ[j]? =_›];trivial
  ·exact h
 ·rw[ju e] at h;exact h
theorem SR.put {K:W.Frag}{hid:bF}{ρ:aC}{σ:St}{H H':Hp}{i:Nat}{bs bs':List D}{a:Addr}{xs':List V}(h:SR K c hid ρ σ H)(hg:gy i ρ=some bs)(ha:σ[i]? =some (some (.ref a)))(kp: ∀b o,H b=some o->b≠a->H' b=some o)
 (hx:H' a=some (.lst xs')) (r:Reps K (vw H' hid) xs' bs'):SR K c hid (fP i bs' ρ) σ H':=by
 obtain⟨a1,xs,h1,h2,h3,h4,h5⟩:=h.held hg
 rw[ha] at h1;cases h1;have sm:Same (vw H hid) (vw H' hid):=sT λb o q hb=>kp b o q (λe=>by subst e;rw[h3] at hb;cases hb)
 have tr': ∀b o,H b=some o-> ∃o',H' b=some o':=λb o q=>by
  by_cases e:b=a
  ·subst e;exact⟨_,hx⟩
  ·exact⟨o,kp b o q e⟩
 refine⟨λb hb=>let⟨o,q⟩:=h.tr b hb;tr' b o q,λb xs hb q=>by
  by_cases e:b=a
  ·subst e;rw[hx] at q;cases q
  ·obtain⟨o,w⟩:=h.tr b hb
   have z:=kp b o w e
   rw[q] at z;cases z;exact h.ht b xs hb w,h.h0,λb o q m=>?_,λb o q=>let⟨o',q'⟩:=h.t0 b o q;tr' b o' q',h.c0,h.m0,by rw[wf];exact h.len,λj s q=>?_,λj l z n o1 o2=>h.ap j l z n (oH o1) (oH o2)⟩
 ·refine kp b o (h.kp b o q m) λe=>?_
  subst e;rcases h5 with h5|h5
  ·rw[h5] at m;cases m
  ·rw[h5] at q;cases q
 ·by_cases e:j=i
  ·subst e
   rcases gX hg with w|w
   ·have lt:=(List.getElem?_eq_some_iff.mp w).1
    unfold fP at q;rw[w] at q;dsimp only at q;rw[List.getElem?_set_self lt] at q;cases q
    obtain⟨a2,xs2,g1,g2,g3,g4,g5⟩:=h.sl j _ w
    rw[ha] at g1;cases g1;exact⟨_,xs',ha,hx,g3,g4,r⟩
   ·have lt:=(List.getElem?_eq_some_iff.mp w).1
    unfold fP at q;rw[w] at q;dsimp only at q;rw[List.getElem?_set_self lt] at q;cases q
    obtain⟨a2,xs2,g1,g2,g3,g4,g5⟩:=h.sl j _ w
    rw[ha] at g1;cases g1;exact⟨_,xs',ha,hx,g3,g4,r⟩
  ·rw[ju e] at q
   have z:=h.sl j s q
   cases s with
   |no=>trivial
   |v d=>obtain⟨x,h1,h2⟩:=z;exact⟨x,h1,h2.mono sm⟩
   |own ds=>
    obtain⟨a',xs,z1,z2,z3,z4,z5⟩:=z
    have ne:a'≠a:=λe'=>by
     subst e';refine h.ap j i a' e (by rw[q];trivial) ?_ z1 ha
     rcases gX hg with w|w<;>rw[w]<;>trivial
    exact⟨a',xs,z1,kp _ _ z2 ne,z3,z4,z5.mono sm⟩
   |arg ds=>
    obtain⟨a',xs,z1,z2,z3,z4,z5⟩:=z
    have ne:a'≠a:=λe'=>by
     subst e';refine h.ap j i a' e (by rw[q];trivial) ?_ z1 ha
     rcases gX hg with w|w<;>rw[w]<;>trivial
    exact⟨a',xs,z1,kp _ _ z2 ne,z3,z4,z5.mono sm⟩
   |ob b=>
    obtain⟨a',z1,z2⟩:=z
    refine⟨a',z1,z2.mono (λow x hx o w=>kp _ _ w (hx.ne (λe'=>?_) h2)) sm λ_ _ _ w=>w⟩
    subst e';refine h.ap j i a' e (by rw[q];exact ow) ?_ z1 ha
    rcases gX hg with w|w<;>rw[w]<;>trivial
def aF(i n:Nat)(M:List D->List D->Option (D×List D))(fs:GA):GE:=λρ=>match gy i ρ with
 |none=>none
 |some _=>match fs ρ with
  |none=>none
  |some (ds,ρ1)=>match gy i ρ1 with
   |none=>none
   |some bs=>if ds.length=n then match M bs ds with
     |none=>none
     |some (d,bs')=>some (d,fP i bs' ρ1) else none
theorem jG {i:Nat}{M:List D->List D->Option (D×List D)}{fs:GA}{ρ ρ':aC}{d:D}(h:aF i n M fs ρ=some (d,ρ')): ∃bs0 ds ρ1 bs bs',gy i ρ=some bs0/\fs ρ=some (ds,ρ1)/\gy i ρ1=some bs/\ds.length=n/\M bs ds=some (d,bs')/\ρ'=fP i bs' ρ1:=by
 unfold aF at h;split at h
 ·cases h
 ·split at h
  ·cases h
  ·split at h
   ·cases h
   ·split at h
    ·split at h
     ·cases h
     ·cases h;exact⟨_,_,_,_,_, ‹_›, ‹_›, ‹_›, ‹_›, ‹_›,rfl⟩
    ·cases h
theorem vO(i:Nat){y:Str}{py:Pos}{M:List D->List D->Option (D×List D)}{fs:GA}(F:FnOk X.prog X.w X.K X.mg X.base nM j f fd ps (qJ X.K k n M))(hr:Room j X.A)(hm:X.mg x=some (.ref f))(hk:W.keepIn X.K (.ref f)=true)(hb:Binds X.K fd ps [])
 (ha:DG X c es fs) (hkb:k≠ .b:=by decide) (hN:X.N[i]? =some y:=by rfl) (hv:rf X.env.scope y:=by first|exact Or.inl rfl|exact Or.inr (Or.inl rfl)|exact Or.inr (Or.inr rfl)) (hd:(y==("__debug__":Str))=false:=by decide)
 (hcd:(y==("__classdict__":Str))=false:=by decide) (hs:starEach (.Name y py::es) X.env=(false,eval (.Name y py) X.env)::starEach es X.env:=by rfl) (hg:Gl X x:=by rfl) (hdb:(x==("__debug__":Str))=false:=by decide) (hpl:(backTo pos (starEach es X.env)).any (·.1)=false:=by rfl):
 DE X c k (.Call (.Name x p) (.Name y py::es) [] pos) (aF i n M fs):=λhid ρ=>
 PE.imp (tK F hr hg hm hk hb .nil (yR (X:=X)) (aV (pv i hN hv hd hcd) (ha hid ρ) hs) hdb hs hpl) λσ H Q hq_=>by
  obtain⟨sr,d,ρ',hd',q⟩:=hq_
  obtain⟨bs0,ds,ρ1,bs,bs',e0,e1,e2,e3,e4,rfl⟩:=jG hd'
  obtain⟨a,xs0,a1,_,a3,_,_⟩:=sr.held e0
  refine⟨.ref a,a1,sr,ds,ρ1,e1,λus H1 k1 s1 r1=>?_⟩
  obtain⟨a',xs,b1,b2,b3,b4,b5⟩:=s1.held e2
  rw[a1] at b1;cases b1;show qJ X.K k n M ((.ref a::us)++[]) H1 Q E0;rw[List.append_nil];refine⟨hid,a,xs,bs,us,ds,rfl,s1.trk,b3,b2,b4,r1,e3,d,bs',e4,λv H' xs' kp hx hr'=>q v H' ?_⟩
  have kp':Kept hid H1 H':=λb o q hb=>kp b o q λe=>by subst e;rw[b3] at hb;cases hb
  cases k with
  |b=>exact absurd rfl hkb
  |s=>exact⟨k1.trans kp',s1.put e2 a1 kp hx hr'.2,hr'.1⟩
  |n=>
   obtain⟨p',ys,es',rfl,rfl,h1,h2,h3,h4⟩:=hr'
   have np:hid p'=false:=s1.fresh h1
   have na:a≠p':=λe=>by subst e;rw[b2] at h1;cases h1
   have sB:SR X.K c (cH hid p') ρ1 σ (cw H1 p' (.lst ys)):=s1.hide (bd h1 _) h1 aY
   have kp2: ∀b o,(cw H1 p' (.lst ys)) b=some o->b≠a->H' b=some o:=λb o z hb=>by
    by_cases e:b=p'
    ·subst e;rw[aY] at z;cases z;exact h2
    ·rw[aI e] at z;exact kp b o z hb
   have sC:SR X.K c (cH hid p') (fP i bs' ρ1) σ H':=sB.put e2 a1 kp2 hx h4
   have hn:H p'=none:=by
    cases e:H p' with
    |none=>rfl
    |some o=>rw[k1 p' o e np] at h1;cases h1
   refine⟨k1.trans kp',p',ys,es',rfl,rfl,hn,h2,s1.fresh0 h1,np,sC,h3,λm hm hσ=>?_⟩
   have:=s1.notOw np m (oH hm)
   exact this hσ
end
inductive Out where
 |nx (ρ:aC)|rt (d:D) (ρ:aC)|bk (ρ:aC)|ct (ρ:aC)|no
abbrev FS:=aC->Out
def C7(c:Ct)(k:Kd)(v:V):bF:=match k,v with
 | .n,.ref a=>cH c.hid₀ a
 |_,_=>c.hid₀
structure Ret(K:W.Frag)(c:Ct)(k:Kd)(ρ':aC)(H':Hp)(v:V)(d:D):Prop where
 kp: ∀b o,c.H₀ b=some o->c.mu b=false->H' b=some o
 val:match k with
  | .n=> ∃a xs ds,d=.lst ds/\v=.ref a/\c.H₀ a=none/\H' a=some (.lst xs)/\Reps K (vw H' (cH c.hid₀ a)) xs ds
  |_=>Rep K (vw H' c.hid₀) v d
 arg: ∀(i:Nat) (bs:List D),ρ'[i]? =some (Sl.arg bs)-> ∃a xs,c.mu a=true/\H' a=some (.lst xs)/\Reps K (vw H' (C7 c k v)) xs bs
def EndOk(K:W.Frag)(c:Ct)(k:Kd)(D:Ends)(W:Hp):Out->Prop
 | .nx ρ'=> ∀σ' H' hid',SR K c hid' ρ' σ' H'->Same W (vw H' hid')->D.nx σ' H'
 | .rt d ρ'=> ∀v H',Ret K c k ρ' H' v d->D.rt v H'
 | .bk ρ'=> ∀σ' H' hid',SR K c hid' ρ' σ' H'->Same W (vw H' hid')->D.bk σ' H'
 | .ct ρ'=> ∀σ' H' hid',SR K c hid' ρ' σ' H'->Same W (vw H' hid')->D.ct σ' H'
 | .no=>False
theorem EndOk.mono {K:W.Frag}{c:Ct}{k:Kd}{D:Ends}{W W':Hp}{o:Out}(h:EndOk K c k D W o)(s:Same W W'):EndOk K c k D W' o:=by
 cases o with
 |nx ρ=>exact λσ' H' hid' z w=>h σ' H' hid' z (s.trans w)
 |rt d ρ=>exact h
 |bk ρ=>exact λσ' H' hid' z w=>h σ' H' hid' z (s.trans w)
 |ct ρ=>exact λσ' H' hid' z w=>h σ' H' hid' z (s.trans w)
 |no=>exact h
def Ea(K:W.Frag)(c:Ct)(k:Kd)(t:FS)(ρ:aC):TS:=λD σ H=> ∃hid,SR K c hid ρ σ H/\EndOk K c k D (vw H hid) (t ρ)
def DS(X:Cx)(c:Ct)(k:Kd)(st:Stmt)(t:FS):Prop:= ∀ρ,PS X st (Ea X.K c k t ρ)
def qR(X:Cx)(c:Ct)(k:Kd)(st:List Stmt)(t:FS):Prop:= ∀ρ,PSs X st (Ea X.K c k t ρ)
section
variable {X:Cx}{c:Ct}{k:Kd}{st:Stmt}{sts rest:List Stmt}{t u:FS}{e:Expr}{pos:Pos}
theorem sS {α:Type}{t:α->TS}(h: ∀z,PSs X sts (t z)):PSs X sts (λD σ H=> ∃z,t z D σ H):=λae s σ H D I ⟨z,q⟩=>h z ae s σ H D I q
theorem A9 {α:Type}{t:α->TT}(h: ∀z,PT X e (t z)):PT X e (λD σ H=> ∃z,t z D σ H):=λae s σ H D I ⟨z,q⟩=>h z ae s σ H D I q
def skip:FS:=λρ=>.nx ρ
def aB(t u:FS):FS:=λρ=>match t ρ with
 | .nx ρ'=>u ρ'
 | .rt d ρ'=>.rt d ρ'
 | .bk ρ'=>.bk ρ'
 | .ct ρ'=>.ct ρ'
 | .no=>.no
theorem bH:qR X c k [] skip:=λρ=>PSs.imp tz λD σ H ⟨hid,sr,q⟩=>q σ H hid sr (Same.refl _)
theorem au(h:DS X c k st t):qR X c k [st] t:=λρ=>tw (h ρ)
theorem ao(h1:DS X c k st t)(h2:qR X c k rest u):qR X c k (st::rest) (aB t u):=λρ=>
 PSs.imp (pq (h1 ρ) (sS λρ1=>h2 ρ1)) λD σ H hq_=>by
  obtain⟨hid,sr,q⟩:=hq_
  refine⟨hid,sr,?_⟩
  unfold aB at q;cases e:t ρ with
  |nx ρ1=>rw[e] at q;exact λσ1 H1 hid1 sr1 v1=>⟨ρ1,hid1,sr1,EndOk.mono q v1⟩
  |rt d ρ1=>rw[e] at q;exact q
  |bk ρ1=>rw[e] at q;exact q
  |ct ρ1=>rw[e] at q;exact q
  |no=>rw[e] at q;exact q
def zw:FS:=λρ=>.bk ρ
theorem u9:DS X c k (.Break pos) zw:=λρ=>PS.imp wG λD σ H ⟨hid,sr,q⟩=>q σ H hid sr (Same.refl _)
def fH(p:FT)(t u:FS):FS:=λρ=>match p ρ with
 |some true=>t ρ
 |some false=>u ρ
 |none=>.no
theorem et {p:FT}{a b:List Stmt}(hp:DT X c e p)(ha:qR X c k a t)(hb:qR X c k b u):DS X c k (.If e a b pos) (fH p t u):=λρ=>
 PS.imp (zc (A9 λhid=>hp hid ρ) (ha ρ) (hb ρ)) λD σ H hq_=>by
  obtain⟨hid,sr,q⟩:=hq_
  cases e1:p ρ with
  |none=>unfold fH at q;rw[e1] at q;exact q.elim
  |some x=>
   refine⟨hid,sr,x,e1,λH1 s1=>?_⟩
   unfold fH at q;rw[e1] at q;cases x with
   |true=>exact pH ⟨hid,sr.ext s1,EndOk.mono q (aN s1)⟩
   |false=>exact p6 ⟨hid,sr.ext s1,EndOk.mono q (aN s1)⟩
def bp(f:FE):FS:=λρ=>match f ρ with
 |some d=>.rt d ρ
 |none=>.no
theorem v9 {K:W.Frag}{hid:bF}{ρ':aC}{σ:St}{H H':Hp}{v:V}{d:D}(hk:k≠ .b)(p:PostE K c hid k ρ' σ H H' v d)(h0: ∀b,c.hid₀ b=true->hid b=true):Ret K c k ρ' H' v d:=by
 cases k with
 |b=>exact absurd rfl hk
 |s=>
  obtain⟨_,sr,r⟩:=p
  refine⟨sr.kp,r.mono (fU sr.h0),λi bs e=>?_⟩
  obtain⟨a,xs,z1,z2,z3,z4,z5⟩:=sr.sl i _ e
  refine⟨a,xs,z4,z2,?_⟩
  show Reps K (vw H' c.hid₀) xs bs;exact z5.mono (fU sr.h0)
 |n=>
  obtain⟨_,a,xs,ds,rfl,rfl,_,h1,h2,h3,sr,h5,h6⟩:=p
  have le:Same (vw H' (cH hid a)) (vw H' (cH c.hid₀ a)):=fU λb q=>by
   unfold cH at q⊢;cases e:c.hid₀ b with
   |true=>rw[h0 b e];rfl
   |false=>rw[e] at q;rw[Bool.or_eq_true];right;simpa using q
  refine⟨sr.kp,⟨a,xs,ds,rfl,rfl,h2,h1,h5.mono le⟩,λi bs e=>?_⟩
  obtain⟨a',xs',z1,z2,z3,z4,z5⟩:=sr.sl i _ e
  exact⟨a',xs',z4,z2,z5.mono le⟩
theorem ba {f:FE}(he:DP X c k e f)(hk:k≠ .b:=by decide):DS X c k (.Return (some e) pos) (bp f):=λρ=>PS.imp (rJ (mC λhid=>he hid ρ)) λD σ H hq_=>by
 obtain⟨hid,sr,q⟩:=hq_
 unfold bp at q;cases e1:f ρ with
 |none=>rw[e1] at q;exact q.elim
 |some z=>rw[e1] at q;exact⟨hid,sr,_,e1,λv H' s r=>q v H' (v9 hk (sr.post s r hk) sr.h0)⟩
def qQ:Option Sl->Option (List D)
 |some (.own ds)=>some ds
 |_=>none
def qG(i:Nat):FS:=λρ=>match qQ ρ[i]? with
 |some ds=>.rt (.lst ds) ρ
 |none=>.no
theorem nu {o:Option Sl}{ds:List D}(h:qQ o=some ds):o=some (.own ds):=by
 unfold qQ at h;split at h
 ·cases h;rfl
 ·cases h
theorem lh(i:Nat){x:Str}{pos':Pos}(hN:X.N[i]? =some x:=by rfl)(hv:rf X.env.scope x:=by first|exact Or.inl rfl|exact Or.inr (Or.inl rfl)|exact Or.inr (Or.inr rfl))(hd:(x==("__debug__":Str))=false:=by decide)
 (hcd:(x==("__classdict__":Str))=false:=by decide):DS X c .n (.Return (some (.Name x pos')) pos) (qG i):=λρ=>PS.imp (rJ (pv i hN hv hd hcd)) λD σ H hq_=>by
 obtain⟨hid,sr,q⟩:=hq_
 unfold qG at q;cases e0:qQ ρ[i]? with
 |none=>rw[e0] at q;exact q.elim
 |some ds=>
  rw[e0] at q;have e:=nu e0
  obtain⟨a,xs,z1,z2,z3,z4,z5⟩:=sr.sl i _ e
  have le:Same (vw H hid) (vw H (cH c.hid₀ a)):=fU λb w=>by
   unfold cH at w;cases e:c.hid₀ b with
   |true=>exact sr.h0 b e
   |false=>
    rw[e] at w;have:b=a:=by simpa using w
    rw[this];exact z3
  refine⟨_,z1,q _ H ⟨sr.kp,⟨a,xs,ds,rfl,rfl,z4,z2,z5.mono le⟩,λj bs e'=>?_⟩⟩
  obtain⟨a',xs',w1,w2,w3,w4,w5⟩:=sr.sl j _ e'
  exact⟨a',xs',w4,w2,w5.mono le⟩
end
section
variable {K:W.Frag}{c:Ct}{hid:bF}{ρ:aC}{σ:St}{H H':Hp}{i:Nat}{a:Addr}{v:V}{d:D}
theorem SR.setV(h:SR K c hid ρ σ H)(r:Rep K (vw H hid) v d)(i:Nat):SR K c hid (ρ.set i (.v d)) (σ.set i (some v)) H:=by
 refine⟨h.tr,h.ht,h.h0,h.kp,h.t0,h.c0,h.m0,by simp[h.len],λj s q=>?_,λj l z n o1 o2 q1 q2=>?_⟩
 ·by_cases e:j=i
  ·subst e
   have lt:j<ρ.length:=by
    have:=(List.getElem?_eq_some_iff.mp q).1
    simpa using this
   rw[List.getElem?_set_self lt] at q;cases q
   exact⟨v,List.getElem?_set_self (by rw[h.len];exact lt),r⟩
  ·rw[List.getElem?_set_ne (Ne.symm e)] at q
   have w:=h.sl j s q
   have es:(σ.set i (some v))[j]? =σ[j]? :=List.getElem?_set_ne (Ne.symm e)
   cases s with
   |no=>trivial
   |v d=>obtain⟨x,h1,h2⟩:=w;exact⟨x,es.trans h1,h2⟩
   |own ds=>obtain⟨a,xs,h1,h2⟩:=w;exact⟨a,xs,es.trans h1,h2⟩
   |arg ds=>obtain⟨a,xs,h1,h2⟩:=w;exact⟨a,xs,es.trans h1,h2⟩
   |ob b=>obtain⟨a,h1,h2⟩:=w;exact⟨a,es.trans h1,h2⟩
 ·have nj: ∀m,Ow (ρ.set i (.v d))[m]? ->m≠i:=λm o e=>by
   subst e
   by_cases lt:m<ρ.length
   ·rw[List.getElem?_set_self lt] at o;exact o
   ·rw[List.getElem?_eq_none (by simpa using lt)] at o;exact o
  have e1:=nj j o1
  have e2:=nj l o2
  rw[List.getElem?_set_ne (Ne.symm e1)] at o1 q1;rw[List.getElem?_set_ne (Ne.symm e2)] at o2 q2;exact h.ap j l z n o1 o2 q1 q2
theorem SR.setO {xs:List V}{ds:List D}(h:SR K c hid ρ σ H)(ha:H a=some (.lst xs))(hh:hid a=true)(h0:c.H₀ a=none)(r:Reps K (vw H hid) xs ds)(no: ∀i:Nat,Ow ρ[i]? ->σ[i]? ≠some (some (.ref a)))(i:Nat):
 SR K c hid (ρ.set i (.own ds)) (σ.set i (some (.ref a))) H:=by
 refine⟨h.tr,h.ht,h.h0,h.kp,h.t0,h.c0,h.m0,by simp[h.len],λj s q=>?_,λj l z n o1 o2 q1 q2=>?_⟩
 ·by_cases e:j=i
  ·subst e
   have lt:j<ρ.length:=by
    have:=(List.getElem?_eq_some_iff.mp q).1
    simpa using this
   rw[List.getElem?_set_self lt] at q;cases q
   exact⟨a,xs,List.getElem?_set_self (by rw[h.len];exact lt),ha,hh,h0,r⟩
  ·rw[List.getElem?_set_ne (Ne.symm e)] at q
   have w:=h.sl j s q
   have es:(σ.set i (some (V.ref a)))[j]? =σ[j]? :=List.getElem?_set_ne (Ne.symm e)
   cases s with
   |no=>trivial
   |v d=>obtain⟨x,h1,h2⟩:=w;exact⟨x,es.trans h1,h2⟩
   |own ds=>obtain⟨a,xs,h1,h2⟩:=w;exact⟨a,xs,es.trans h1,h2⟩
   |arg ds=>obtain⟨a,xs,h1,h2⟩:=w;exact⟨a,xs,es.trans h1,h2⟩
   |ob b=>obtain⟨a,h1,h2⟩:=w;exact⟨a,es.trans h1,h2⟩
 ·by_cases e1:j=i
  ·subst e1
   have e2:l≠j:=λe=>n e.symm
   rw[List.getElem?_set_ne (Ne.symm e2)] at o2 q2
   by_cases lt:j<σ.length
   ·rw[List.getElem?_set_self lt] at q1;cases q1;exact no l o2 q2
   ·rw[List.getElem?_eq_none (by simpa using lt)] at q1;cases q1
  ·rw[List.getElem?_set_ne (Ne.symm e1)] at o1 q1
   by_cases e2:l=i
   ·subst e2
    by_cases lt:l<σ.length
    ·rw[List.getElem?_set_self lt] at q2;cases q2;exact no j o1 q1
    ·rw[List.getElem?_eq_none (by simpa using lt)] at q2;cases q2
   ·rw[List.getElem?_set_ne (Ne.symm e2)] at o2 q2
    exact h.ap j l z n o1 o2 q1 q2
end
section
variable {X:Cx}{c:Ct}{k:Kd}{st:Stmt}{sts rest:List Stmt}{t u:FS}{e:Expr}{es:List Expr}{pos pos':Pos}{x:Str}{i:Nat}
def h9(i:Nat)(f:GE):FS:=λρ=>match f ρ with
 |some (d,ρ')=>.nx (ρ'.set i (.v d))
 |none=>.no
def aS(i:Nat)(f:FE):FS:=λρ=>match f ρ with
 |some d=>.nx (ρ.set i (.v d))
 |none=>.no
def DK:D->Option (List D)
 | .lst ds=>some ds
 |_=>none
def rE(i:Nat)(f:GE):FS:=λρ=>match f ρ with
 |some (d,ρ')=>(match DK d with
  |some ds=>.nx (ρ'.set i (.own ds))
  |none=>.no)
 |none=>.no
def eI(i:Nat)(f:FE):FS:=λρ=>match f ρ with
 |some d=>(match DK d with
  |some ds=>.nx (ρ.set i (.own ds))
  |none=>.no)
 |none=>.no
theorem je(i:Nat){f:GE}(hn:X.N.Nodup)(he:DE X c .s e f)(hi:X.N[i]? =some x:=by rfl)(hx:xc X.env.scope x:=by first|exact Or.inl rfl|exact Or.inr rfl)(hs:swapsWith e (some (.Name x pos')) pos.line X.env=pure false:=by rfl)
 (hf:X.fn x=true\/X.env.scope.names.lookup x=some .local:=by first|exact .inl rfl|exact .inr rfl|assumption):DS X c k (.Assign [.Name x pos'] e pos) (h9 i f):=λρ=>PS.imp (oR hn hi hx (mC λhid=>he hid ρ) hs hf) λD σ H hq_=>by
 obtain⟨hid,sr,q⟩:=hq_
 unfold h9 at q;cases e1:f ρ with
 |none=>rw[e1] at q;exact q.elim
 |some z=>
  rw[e1] at q;exact⟨hid,sr,z.1,z.2,e1,λv H' ⟨kp,s',r⟩=>q _ H' hid (s'.setV r i) kp.vw⟩
theorem aW(i:Nat){f:FE}(hn:X.N.Nodup)(he:DP X c .s e f)(hi:X.N[i]? =some x:=by rfl)(hx:xc X.env.scope x:=by first|exact Or.inl rfl|exact Or.inr rfl)(hs:swapsWith e (some (.Name x pos')) pos.line X.env=pure false:=by rfl)
 (hf:X.fn x=true\/X.env.scope.names.lookup x=some .local:=by first|exact .inl rfl|exact .inr rfl|assumption):DS X c k (.Assign [.Name x pos'] e pos) (aS i f):=λρ=>PS.imp (oR hn hi hx (mC λhid=>he hid ρ) hs hf) λD σ H hq_=>by
 obtain⟨hid,sr,q⟩:=hq_
 unfold aS at q;cases e1:f ρ with
 |none=>rw[e1] at q;exact q.elim
 |some z=>
  rw[e1] at q;exact⟨hid,sr,z,e1,λv H' s' r=>q _ H' hid ((sr.ext s').setV r i) (aN s')⟩
theorem AJ {K:W.Frag}{hid:bF}{ρ':aC}{σ:St}{H H':Hp}{v:V}{d:D}{D:Ends}(p:PostE K c hid .n ρ' σ H H' v d)(q:EndOk K c k D (vw H hid) (match DK d with
 |some ds=>.nx (ρ'.set i (.own ds))
 |none=>.no)):D.nx (σ.set i (some v)) H':=by
 obtain⟨kp,a,xs,ds,rfl,rfl,hn,h1,h2,h3,h4,h5,h6⟩:=p
 refine q _ H' (cH hid a) (h4.setO h1 jk h2 h5 h6 i) λb o w=>?_
 obtain⟨w1,w2⟩:=vw_some.mp w
 refine vw_some.mpr ⟨?_,kp b o w2 w1⟩
 unfold cH;rw[w1];have:b≠a:=bR w2 hn
 simp[this]
theorem yq(i:Nat){f:GE}(hn:X.N.Nodup)(he:DE X c .n e f)(hi:X.N[i]? =some x:=by rfl)(hx:xc X.env.scope x:=by first|exact Or.inl rfl|exact Or.inr rfl)(hs:swapsWith e (some (.Name x pos')) pos.line X.env=pure false:=by rfl)
 (hf:X.fn x=true\/X.env.scope.names.lookup x=some .local:=by first|exact .inl rfl|exact .inr rfl|assumption):DS X c k (.Assign [.Name x pos'] e pos) (rE i f):=λρ=>PS.imp (oR hn hi hx (mC λhid=>he hid ρ) hs hf) λD σ H hq_=>by
 obtain⟨hid,sr,q⟩:=hq_
 unfold rE at q;cases e1:f ρ with
 |none=>rw[e1] at q;exact q.elim
 |some z=>
  rw[e1] at q;exact⟨hid,sr,z.1,z.2,e1,λv H' p=>AJ p q⟩
theorem gJ(i:Nat){f:FE}(hn:X.N.Nodup)(he:DP X c .n e f)(hi:X.N[i]? =some x:=by rfl)(hx:xc X.env.scope x:=by first|exact Or.inl rfl|exact Or.inr rfl)(hs:swapsWith e (some (.Name x pos')) pos.line X.env=pure false:=by rfl)
 (hf:X.fn x=true\/X.env.scope.names.lookup x=some .local:=by first|exact .inl rfl|exact .inr rfl|assumption):DS X c k (.Assign [.Name x pos'] e pos) (eI i f):=λρ=>PS.imp (oR hn hi hx (mC λhid=>he hid ρ) hs hf) λD σ H hq_=>by
 obtain⟨hid,sr,q⟩:=hq_
 unfold eI at q;cases e1:f ρ with
 |none=>rw[e1] at q;exact q.elim
 |some z=>
  rw[e1] at q;exact⟨hid,sr,z,e1,λv H' s r=>AJ (sr.post s r (by decide)) q⟩
def uC(i:Nat)(ρ:aC):aC:=match qQ ρ[i]? with
 |some ds=>ρ.set i (.v (.lst ds))
 |none=>ρ
theorem SR.freeze {K:W.Frag}{hid:bF}{ρ:aC}{σ:St}{H:Hp}(h:SR K c hid ρ σ H)(i:Nat): ∃hid',SR K c hid' (uC i ρ) σ H/\Same (vw H hid) (vw H hid'):=by
 unfold uC;cases e0:qQ ρ[i]? with
 |none=>exact⟨hid,h,Same.refl _⟩
 |some ds=>
  have e:=nu e0
  obtain⟨a,xs,z1,z2,z3,z4,z5⟩:=h.sl i _ e
  have sm:Same (vw H hid) (vw H (md hid a)):=fU λb w=>by unfold md at w;rw[Bool.and_eq_true] at w;exact w.1
  have un: ∀b,b≠a->hid b=true->md hid a b=true:=λb n w=>by unfold md;rw[w];simp[n]
  have na:c.hid₀ a=false:=by
   cases q:c.hid₀ a with
   |false=>rfl
   |true=>obtain⟨o,w⟩:=h.c0 a q;rw[z4] at w;cases w
  refine⟨md hid a,⟨λb w=>h.tr b (by unfold md at w;rw[Bool.and_eq_true] at w;exact w.1),λb xs w=>h.ht b xs (by unfold md at w;rw[Bool.and_eq_true] at w;exact w.1),λb w=>un b (λe=>by subst e;rw[na] at w;cases w) (h.h0 b w),h.kp,h.t0,h.c0,h.m0,by simp[h.len],λj s q=>?_,λj l z n o1 o2 q1 q2=>?_⟩,sm⟩
  ·by_cases ej:j=i
   ·subst ej
    rw[List.getElem?_set_self (List.getElem?_eq_some_iff.mp e).1] at q;cases q
    exact⟨_,z1,.lst (vw_some.mpr ⟨by unfold md;simp,z2⟩) (z5.mono sm)⟩
   ·rw[List.getElem?_set_ne (Ne.symm ej)] at q
    have w:=h.sl j s q
    cases s with
    |no=>trivial
    |v d=>obtain⟨x,h1,h2⟩:=w;exact⟨x,h1,h2.mono sm⟩
    |own ds=>
     obtain⟨a',xs,h1,h2,h3,h4,h5⟩:=w
     exact⟨a',xs,h1,h2,un a' (λe'=>by subst e';exact h.ap j i _ ej (by rw[q];trivial) (by rw[e];trivial) h1 z1) h3,h4,h5.mono sm⟩
    |arg ds=>
     obtain⟨a',xs,h1,h2,h3,h4,h5⟩:=w
     exact⟨a',xs,h1,h2,un a' (λe'=>by subst e';exact h.ap j i _ ej (by rw[q];trivial) (by rw[e];trivial) h1 z1) h3,h4,h5.mono sm⟩
    |ob b=>
     obtain⟨a',h1,h2⟩:=w
     exact⟨a',h1,h2.mono (λ_ _ _ _ q=>q) sm λow x hx=>un x (hx.ne (λe'=>by subst e';exact h.ap j i _ ej (by rw[q];exact ow) (by rw[e];trivial) h1 z1) z2)⟩
  ·have nj: ∀m,Ow (ρ.set i (.v (.lst ds)))[m]? ->m≠i:=λm o e'=>by
    subst e'
    by_cases lt:m<ρ.length
    ·rw[List.getElem?_set_self lt] at o;exact o
    ·rw[List.getElem?_eq_none (by simpa using lt)] at o;exact o
   have e1:=nj j o1
   have e2:=nj l o2
   rw[List.getElem?_set_ne (Ne.symm e1)] at o1;rw[List.getElem?_set_ne (Ne.symm e2)] at o2;exact h.ap j l z n o1 o2 q1 q2
theorem A5(i:Nat)(h:DS X c k st t):DS X c k st (λρ=>t (uC i ρ)):=λρ=>PS.imp (h (uC i ρ)) λD σ H hq_=>by
 obtain⟨hid,sr,q⟩:=hq_
 obtain⟨hid',sr',sm⟩:=sr.freeze i
 exact⟨hid',sr',EndOk.mono q sm⟩
def cr(f:GE):FS:=λρ=>match f ρ with
 |some (_,ρ')=>.nx ρ'
 |none=>.no
theorem fy {f:GE}(he:DE X c .s e f)(hs:swapsWith e none pos.line X.env=pure false:=by rfl):DS X c k (.Expr e pos) (cr f):=λρ=>PS.imp (sO (mC λhid=>he hid ρ) hs) λD σ H hq_=>by
 obtain⟨hid,sr,q⟩:=hq_
 unfold cr at q;cases e1:f ρ with
 |none=>rw[e1] at q;exact q.elim
 |some z=>
  rw[e1] at q;exact⟨hid,sr,z.1,z.2,e1,λv H' ⟨kp,s',_⟩=>q _ H' hid s' kp.vw⟩
def Ar(K:W.Frag)(r:V->List V->Hp->VK->Prop)(n:Nat)(M:List D->List D->Option (D×List D)):Prop:= ∀(H:Hp) (hid:bF) (a:Addr) (xs us:List V) (bs ds bs':List D) (d:D) (Q:VK),H a=some (.lst xs)->hid a=true->Reps K (vw H hid) xs bs->Reps K (vw H hid) us ds->
 ds.length=n->M bs ds=some (d,bs')->(∀w xs',Reps K (vw H hid) xs' bs'->Rep K (vw H hid) w d->Q w (cw H a (.lst xs')))->r (.ref a) us H Q
theorem yW {K:W.Frag}{r:V->List V->Hp->VK->Prop}{n:Nat}{M:List D->List D->Option (D×List D)}(hM:Ar K r n M){hid:bF}{ρ1:aC}{σ:St}{H H1:Hp}{a:Addr}{us:List V}{bs ds bs':List D}{d:D}{Q:VK}(k1:Kept hid H H1)(s1:SR K c hid ρ1 σ H1)(e2:gy i ρ1=some bs)
 (ha:σ[i]? =some (some (.ref a))) (r1:Reps K (vw H1 hid) us ds) (hn:ds.length=n) (hm:M bs ds=some (d,bs')) (q: ∀v H',PostE K c hid .s (fP i bs' ρ1) σ H H' v d->Q v H'):r (.ref a) us H1 Q:=by
 obtain⟨a',xs,b1,b2,b3,b4,b5⟩:=s1.held e2
 rw[ha] at b1;cases b1;refine hM H1 hid a xs us bs ds bs' d Q b2 b3 b4 r1 hn hm λw xs' rx rw'=>q w _ ⟨k1.trans λb o z hb=>?_,?_,?_⟩
 ·rw[aI (λe=>by subst e;rw[b3] at hb;cases hb)];exact z
 ·exact s1.put e2 ha (λb o z hb=>by rw[aI hb];exact z) aY (by rw[gK b3];exact rx)
 ·rw[gK b3];exact rw'
variable {n:Nat}{M:List D->List D->Option (D×List D)}{fs:GA}{r:V->List V->Hp->VK->Prop}{y name:Str}{py apos:Pos}{id:String}
theorem ie(i:Nat)(hM:Ar X.K r n M)(hm:A3 X id r)(slot:Slot "list" name id)(hty:typeOf (.builtin id)=pure (.type "method_descriptor"))(ha:DG X c (e::es) fs)
 (hN:X.N[i]? =some y:=by rfl) (hv:rf X.env.scope y:=by first|exact Or.inl rfl|exact Or.inr (Or.inl rfl)|exact Or.inr (Or.inr rfl)) (hd:(y==("__debug__":Str))=false:=by decide) (hcd:(y==("__classdict__":Str))=false:=by decide)
 (hbase:attributeBase (.Name y py) name X.env (eval (.Name y py) X.env)=eval (.Name y py) X.env:=by rfl)
 (hfew:((backTo pos (starEach (e::es) X.env)).all (λx=> !x.1)&&(backToKw pos (keywordEach [] X.env)).all (λx=>x.1.isSome)
   &&decide ((e::es).length+([]:List Keyword).length+(if([]:List Keyword).isEmpty then 0 else 1)<30))=true:=by rfl)
 (hline:(apos.endLine==pos.line)=true:=by rfl) (hs:starEach (e::es) X.env=(false,eval e X.env)::starEach es X.env:=by rfl) (hplain:(backTo pos (starEach es X.env)).any (·.1)=false:=by rfl):
 DE X c .s (.Call (.Attribute (.Name y py) name apos) (e::es) [] pos) (aF i n M fs):=λhid ρ=>
 PE.imp (qb PySem.F.plainAttrs_list slot hty hm (pv i hN hv hd hcd) (ha hid ρ) hbase hfew hline hs hplain) λσ H Q hq_=>by
  obtain⟨sr,d,ρ',hd',q⟩:=hq_
  obtain⟨bs0,ds,ρ1,bs,bs',e0,e1,e2,e3,e4,rfl⟩:=jG hd'
  obtain⟨a,xs0,a1,a2,a3,_,_⟩:=sr.held e0
  exact⟨.ref a,a1,.inl ⟨rfl,_,SqL.of a2⟩,sr,ds,ρ1,e1,λus H1 k1 s1 r1=>yW hM k1 s1 e2 a1 r1 e3 e4 q⟩
theorem pO(i:Nat)(hM:Ar X.K r 0 M)(hm:A3 X id r)(slot:Slot "list" name id)(hty:typeOf (.builtin id)=pure (.type "method_descriptor"))
 (hN:X.N[i]? =some y:=by rfl) (hv:rf X.env.scope y:=by first|exact Or.inl rfl|exact Or.inr (Or.inl rfl)|exact Or.inr (Or.inr rfl)) (hd:(y==("__debug__":Str))=false:=by decide) (hcd:(y==("__classdict__":Str))=false:=by decide)
 (hbase:attributeBase (.Name y py) name X.env (eval (.Name y py) X.env)=eval (.Name y py) X.env:=by rfl) (hline:(apos.endLine==pos.line)=true:=by rfl):
 DE X c .s (.Call (.Attribute (.Name y py) name apos) [] [] pos) (aF i 0 M (cm ah)):=λhid ρ=>
 PE.imp (Ai PySem.F.plainAttrs_list slot hty hm (pv i hN hv hd hcd) hbase hline) λσ H Q hq_=>by
  obtain⟨sr,d,ρ',hd',q⟩:=hq_
  obtain⟨bs0,ds,ρ1,bs,bs',e0,e1,e2,e3,e4,rfl⟩:=jG hd'
  obtain⟨e5,rfl⟩:=lY e1
  cases e5
  obtain⟨a,xs0,a1,a2,a3,_,_⟩:=sr.held e0
  exact⟨.ref a,a1,.inl ⟨rfl,_,SqL.of a2⟩,yW hM (.of (Same.refl _)) sr e2 a1 .nil e3 e4 q⟩
end
section
variable {K:W.Frag}
def iP:List D->List D->Option (D×List D):=λbs ds=>match ds with
 | [d]=>if bs.length<sizeLine then some (.non,bs++[d]) else none
 |_=>none
theorem gP:Ar K sM 1 iP:=by
 intro H hid a xs us bs ds bs' d Q h1 h2 h3 h4 h5 h6 q;unfold iP at h6;split at h6
 ·split at h6
  ·cases h6
   cases h4 with
   |cons r t=>
    cases t
    exact⟨a,xs,_,rfl,rfl,h1,by rw[h3.length];assumption,q _ _ (h3.append (.cons r .nil)) .non⟩
  ·cases h6
 ·cases h6
def m8:List D->List D->Option (D×List D):=λbs ds=>match ds with
 | [.int i]=>match (if bs.length<=sizeLine then qy bs.length i else none) with
   |some j=>(bs[j]?).map λd=>(d,bs.eraseIdx j)
   |none=>none
 |_=>none
theorem Av:Ar K vp 1 m8:=by
 intro H hid a xs us bs ds bs' d Q h1 h2 h3 h4 h5 h6 q;unfold m8 at h6;split at h6
 ·split at h6
  ·rename_i i _ j e
   cases e1:bs[j]? with
   |none=>rw[e1] at h6;cases h6
   |some z=>
    rw[e1] at h6;cases h6;cases h4 with
    |cons r t=>
     cases t
     cases r
     obtain⟨x,g1,g2⟩:=h3.get e1
     split at e
     ·obtain⟨w1,w2,w3,w4⟩:=oK e
      have hl:=h3.length
      have l63:=jQ
      refine⟨a,xs,i,j,x,rfl,rfl,h1,by omega,by omega,by rw[hl];exact w1,g1,q _ _ (h3.eraseIdx j) g2⟩
     ·cases e
  ·cases h6
 ·cases h6
end
abbrev FG:=D->aC->Option aC
abbrev qY:=List D->aC->Option aC
def OwK(ρ ρ':aC)(σ σ':St):Prop:= ∀i:Nat,Ow ρ'[i]? ->Ow ρ[i]? /\σ'[i]? =σ[i]?
theorem OwK.trans {ρ ρ1 ρ2:aC}{σ σ1 σ2:St}(a:OwK ρ ρ1 σ σ1)(b:OwK ρ1 ρ2 σ1 σ2):OwK ρ ρ2 σ σ2:=λi o=>⟨(a i (b i o).1).1,(b i o).2.trans (a i (b i o).1).2⟩
def C4 {ι:Type}(IR:Hp->V->ι->Prop)(K:W.Frag)(c:Ct)(hid:bF)(g:ι->aC->Option aC)(ρ:aC)(d:ι):TG:=λv σ H Q=>SR K c hid ρ σ H/\IR (vw H hid) v d/\ ∃ρ',g d ρ=some ρ'/\ ∀σ',SR K c hid ρ' σ' H->OwK ρ ρ' σ σ'->Q σ' H
def CO {ι:Type}(IR:Hp->V->ι->Prop)(X:Cx)(c:Ct)(tg:Expr)(g:ι->aC->Option aC):Prop:= ∀hid ρ d,PG X tg (C4 IR X.K c hid g ρ d)
abbrev sH(X:Cx)(c:Ct)(tg:Expr)(g:FG):Prop:=CO (Rep X.K) X c tg g
def C1(K:W.Frag)(c:Ct)(hid:bF)(g:qY)(ρ:aC)(d:List D):vP:=λv σ H Q=>SR K c hid ρ σ H/\Reps K (vw H hid) v d/\ ∃ρ',g d ρ=some ρ'/\ ∀σ',SR K c hid ρ' σ' H->OwK ρ ρ' σ σ'->Q σ' H
def CM(X:Cx)(c:Ct)(tg:List Expr)(g:qY):Prop:= ∀hid ρ d,PGs X tg (C1 X.K c hid g ρ d)
theorem PG.imp {X:Cx}{e:Expr}{t t':TG}(h:PG X e t)(i: ∀v σ H Q,t' v σ H Q->t v σ H Q):PG X e t':=λae s σ H v u Q I r q=>h ae s σ H v u Q I r (i v σ H Q q)
theorem PGs.imp {X:Cx}{e:List Expr}{t t':vP}(h:PGs X e t)(i: ∀v σ H Q,t' v σ H Q->t v σ H Q):PGs X e t':=λae s σ H v u Q I r q=>h ae s σ H v u Q I r (i v σ H Q q)
theorem wa {X:Cx}{e:Expr}{α:Type}{t:α->TG}(h: ∀z,PG X e (t z)):PG X e (λv σ H Q=> ∃z,t z v σ H Q):=λae s σ H v u Q I r ⟨z,q⟩=>h z ae s σ H v u Q I r q
theorem sx {X:Cx}{e:List Expr}{α:Type}{t:α->vP}(h: ∀z,PGs X e (t z)):PGs X e (λv σ H Q=> ∃z,t z v σ H Q):=λae s σ H v u Q I r ⟨z,q⟩=>h z ae s σ H v u Q I r q
section
variable {X:Cx}{c:Ct}{k:Kd}{st:Stmt}{sts body:List Stmt}{t u:FS}{e tg iter:Expr}{es:List Expr}{pos pos':Pos}{x:Str}{i:Nat}
def gN(i:Nat):FG:=λd ρ=>some (ρ.set i (.v d))
theorem ax(i:Nat)(hn:X.N.Nodup)(hi:X.N[i]? =some x:=by rfl)(hx:xc X.env.scope x:=by first|exact Or.inl rfl|exact Or.inr rfl)(hf:X.fn x=true\/X.env.scope.names.lookup x=some .local:=by first|exact .inl rfl|exact .inr rfl|assumption):
 sH X c (.Name x pos) (gN i):=λhid ρ d=>PG.imp (yJ (i:=i) hn hi hx hf) λv σ H Q hq_=>by
 obtain⟨sr,r,ρ',e,q⟩:=hq_
 cases e
 refine q _ (sr.setV r i) λj o=>?_
 have ne:j≠i:=λe=>by
  subst e
  by_cases lt:j<ρ.length
  ·rw[List.getElem?_set_self lt] at o;exact o
  ·rw[List.getElem?_eq_none (by simpa using lt)] at o;exact o
 rw[List.getElem?_set_ne (Ne.symm ne)] at o⊢;exact⟨o,rfl⟩
def jo:qY:=λds ρ=>match ds with
 | []=>some ρ
 |_=>none
def dN(g:FG)(gs:qY):qY:=λds ρ=>match ds with
 | []=>none
 |d::r=>(g d ρ).bind λρ'=>gs r ρ'
theorem cV:CM X c [] jo:=λhid ρ d=>PGs.imp tB λv σ H Q hq_=>by
 obtain⟨sr,r,ρ',e,q⟩:=hq_
 unfold jo at e;split at e
 ·cases e;cases r;exact⟨rfl,q σ sr λi o=>⟨o,rfl⟩⟩
 ·cases e
theorem aG {g:FG}{gs:qY}(h1:sH X c e g)(h2:CM X c es gs)(hs:(assignEach (e::es) X.env).map (·.2)=assign e X.env::(assignEach es X.env).map (·.2):=by rfl):CM X c (e::es) (dN g gs):=λhid ρ d=>
 PGs.imp (qA (wa λd=>h1 hid ρ d) (sx λz:aC×List D=>h2 hid z.1 z.2) hs) λv σ H Q hq_=>by
  obtain⟨sr,r,ρ',e,q⟩:=hq_
  cases d with
  |nil=>cases e
  |cons d1 ds=>
   cases r with
   |cons r1 r2=>
    have e:(g d1 ρ).bind (λρ'=>gs ds ρ')=some ρ':=e
    cases e1:g d1 ρ with
    |none=>rw[e1] at e;cases e
    |some ρ1=>
     rw[e1] at e;exact⟨_,_,rfl,d1,sr,r1,ρ1,e1,λσ1 s1 o1=>⟨(ρ1,ds),s1,r2,ρ',e,λσ2 s2 o2=>q σ2 s2 (o1.trans o2)⟩⟩
def gT(n:Nat)(gs:qY):FG:=λd ρ=>match d with
 | .tup ds=>if ds.length=n then gs ds ρ else none
 |_=>none
theorem cX {gs:qY}{kk n:Nat}(hc:X.calm=true)(h:CM X c es gs)(hn:(assignEach es X.env).length=n:=by rfl)(hst:(assignEach es X.env).findIdx? (·.1)=none:=by rfl):sH X c (.Tuple es kk pos) (gT n gs):=λhid ρ d=>
 PG.imp (vW hc (sx λds=>h hid ρ ds) hn hst) λv σ H Q hq_=>by
  obtain⟨sr,r,ρ',e,q⟩:=hq_
  unfold gT at e;split at e
  ·split at e
   ·cases r with
    |tup h1 h2=>exact⟨_,_,rfl,Same.seqT (eT _ _) h1,by rw[h2.length];assumption,_,sr,h2,ρ',e,q⟩
   ·cases e
  ·cases e
def AW:Option aC->Out
 |some ρ=>.nx ρ
 |none=>.no
def eV(g:FG)(f:GE):FS:=λρ=>match f ρ with
 |some z=>AW (g z.1 z.2)
 |none=>.no
theorem iR {g:FG}{f:GE}(he:DE X c .s e f)(hg:sH X c tg g)(hs:swapsWithSole [tg] e pos.line X.env=pure false:=by rfl)(hw:swappedStores [tg] e X.env=pure none:=by rfl)
 (h1:(assignEach [tg] X.env).map (·.2)=[assign tg X.env]:=by rfl):DS X c k (.Assign [tg] e pos) (eV g f):=λρ=>
 PS.imp (wV (mC λhid=>he hid ρ) (wa λz:bF×aC×D=>hg z.1 z.2.1 z.2.2) hs hw h1) λD σ H hq_=>by
  obtain⟨hid,sr,q⟩:=hq_
  unfold eV at q;cases e1:f ρ with
  |none=>rw[e1] at q;exact q.elim
  |some z=>
   rw[e1] at q;cases e2:g z.1 z.2 with
   |none=>dsimp only at q;rw[e2] at q;exact q.elim
   |some ρ2=>
    dsimp only at q;rw[e2] at q;exact⟨hid,sr,z.1,z.2,e1,λv H' ⟨kp,s',r⟩=>⟨(hid,z.2,z.1),s',r,ρ2,e2,λσ' s2 _=>q σ' H' hid s2 kp.vw⟩⟩
def eR(i:Nat)(fi:FE)(d:D)(ρ:aC):Option aC:=match gy i ρ with
 |some bs=>(match fi ρ with
  |some (.int j)=>(match qy bs.length j with
   |some m=>some (fP i (bs.set m d) ρ)
   |none=>none)
  |_=>none)
 |none=>none
theorem rC {fi:FE}{d:D}{ρ ρ':aC}(h:eR i fi d ρ=some ρ'): ∃bs j m,gy i ρ=some bs/\fi ρ=some (.int j)/\qy bs.length j=some m/\ρ'=fP i (bs.set m d) ρ:=by
 unfold eR at h;split at h
 ·split at h
  ·split at h
   ·cases h;exact⟨_,_,_, ‹_›, ‹_›, ‹_›,rfl⟩
   ·cases h
  ·cases h
 ·cases h
def Dt(K:W.Frag)(c:Ct)(hid:bF)(g:FG)(ρ:aC)(d:D):TG:=λv σ H Q=>SR K c hid ρ σ H/\Rep K (vw H hid) v d/\ ∃ρ',g d ρ=some ρ'/\ ∀H',Kept hid H H'->SR K c hid ρ' σ H'->Q σ H'
def CB(X:Cx)(c:Ct)(tg:Expr)(g:FG):Prop:= ∀hid ρ d,PG X tg (Dt X.K c hid g ρ d)
theorem jX(i:Nat){y:Str}{py:Pos}{ix:Expr}{fi:FE}{k1:Kd}(hi:DP X c k1 ix fi)(hN:X.N[i]? =some y:=by rfl)(hv:rf X.env.scope y:=by first|exact Or.inl rfl|exact Or.inr (Or.inl rfl)|exact Or.inr (Or.inr rfl))(hd:(y==("__debug__":Str))=false:=by decide)(hcd:(y==("__classdict__":Str))=false:=by decide)
 (ha: ∀v,assign (.Subscript (.Name y py) ix pos) X.env v=(do
   let ov <-holding [v] (eval (.Name y py) X.env)
   let iv <-holding [v,ov] (eval ix X.env)
   standAt pos
   holding [v,ov,iv] (setItem ov iv v)
   release [v,ov,iv] []):=by intro _;rfl):CB X c (.Subscript (.Name y py) ix pos) (eR i fi):=λhid ρ d=>
 PG.imp (zh (pv i hN hv hd hcd) (hi hid ρ) wM ha) λv σ H Q hq_=>by
  obtain⟨sr,r,ρ',e,q⟩:=hq_
  obtain⟨bs,j,m,e1,e2,e3,rfl⟩:=rC e
  obtain⟨a,xs,a1,a2,a3,a4,a5⟩:=sr.held e1
  refine⟨.ref a,a1,sr,_,e2,λw H1 s1 r1=>?_⟩
  have b1:=(RK.b k1 r1 λa n=>sr.fresh n).int
  cases b1
  have a4':=a4.mono (aN (hid:=hid) s1)
  refine⟨a,xs,j,m,rfl,rfl,s1 _ _ a2,by rw[a4.length];exact e3,q _ (λb o z hb=>?_) ?_⟩
  ·rw[aI (λe=>by subst e;rw[a3] at hb;cases hb)];exact s1 _ _ z
  ·exact(sr.ext s1).put e1 a1 (λb o z hb=>by rw[aI hb];exact z) aY (by rw[gK a3];exact Reps.set (r.mono (aN s1)) m a4')
theorem n8 {g:FG}{f:GE}(he:DE X c .s e f)(hg:CB X c tg g)(hs:swapsWithSole [tg] e pos.line X.env=pure false:=by rfl)(hw:swappedStores [tg] e X.env=pure none:=by rfl)
 (h1:(assignEach [tg] X.env).map (·.2)=[assign tg X.env]:=by rfl):DS X c k (.Assign [tg] e pos) (eV g f):=λρ=>
 PS.imp (wV (mC λhid=>he hid ρ) (wa λz:bF×aC×D=>hg z.1 z.2.1 z.2.2) hs hw h1) λD σ H hq_=>by
  obtain⟨hid,sr,q⟩:=hq_
  unfold eV at q;cases e1:f ρ with
  |none=>rw[e1] at q;exact q.elim
  |some z=>
   rw[e1] at q;cases e2:g z.1 z.2 with
   |none=>dsimp only at q;rw[e2] at q;exact q.elim
   |some ρ2=>
    dsimp only at q;rw[e2] at q;exact⟨hid,sr,z.1,z.2,e1,λv H' ⟨kp,s',r⟩=>⟨(hid,z.2,z.1),s',r,ρ2,e2,λH2 k2 s2=>q σ H2 hid s2 (kp.trans k2).vw⟩⟩
def Dl(K:W.Frag)(c:Ct)(hid:bF)(g:qY)(ρ:aC)(d:List D):vP:=λv σ H Q=>SR K c hid ρ σ H/\Reps K (vw H hid) v d/\ ∃ρ',g d ρ=some ρ'/\ ∀H',Kept hid H H'->SR K c hid ρ' σ H'->Q σ H'
def CN(X:Cx)(c:Ct)(tg:List Expr)(g:qY):Prop:= ∀hid ρ d,PGs X tg (Dl X.K c hid g ρ d)
theorem x6:CN X c [] jo:=λhid ρ d=>PGs.imp tB λv σ H Q hq_=>by
 obtain⟨sr,r,ρ',e,q⟩:=hq_
 unfold jo at e;split at e
 ·cases e;cases r;exact⟨rfl,q H (.of (Same.refl _)) sr⟩
 ·cases e
theorem qf {g:FG}{gs:qY}(h1:CB X c e g)(h2:CN X c es gs)(hs:(assignEach (e::es) X.env).map (·.2)=assign e X.env::(assignEach es X.env).map (·.2):=by rfl):CN X c (e::es) (dN g gs):=λhid ρ d=>
 PGs.imp (qA (wa λd=>h1 hid ρ d) (sx λz:aC×List D=>h2 hid z.1 z.2) hs) λv σ H Q hq_=>by
  obtain⟨sr,r,ρ',e,q⟩:=hq_
  cases d with
  |nil=>cases e
  |cons d1 ds=>
   cases r with
   |cons r1 r2=>
    have e:(g d1 ρ).bind (λρ'=>gs ds ρ')=some ρ':=e
    cases e1:g d1 ρ with
    |none=>rw[e1] at e;cases e
    |some ρ1=>
     rw[e1] at e;exact⟨_,_,rfl,d1,sr,r1,ρ1,e1,λH1 k1 s1=>⟨(ρ1,ds),s1,r2.mono k1.vw,ρ',e,λH2 k2 s2=>q H2 (k1.trans k2) s2⟩⟩
theorem xu {gs:qY}{kk n:Nat}(hc:X.calm=true)(h:CN X c es gs)(hn:(assignEach es X.env).length=n:=by rfl)(hst:(assignEach es X.env).findIdx? (·.1)=none:=by rfl):CB X c (.Tuple es kk pos) (gT n gs):=λhid ρ d=>
 PG.imp (vW hc (sx λds=>h hid ρ ds) hn hst) λv σ H Q hq_=>by
  obtain⟨sr,r,ρ',e,q⟩:=hq_
  unfold gT at e;split at e
  ·split at e
   ·cases r with
    |tup h1 h2=>exact⟨_,_,rfl,Same.seqT (eT _ _) h1,by rw[h2.length];assumption,_,sr,h2,ρ',e,q⟩
   ·cases e
  ·cases e
def ItOk(K:W.Frag)(W:Hp)(J:It)(ds:List D):Prop:=
 (∀(i:Nat) (d:D) (H:Hp),ds[i]? =some d->Same W H->J.go i H/\ ∀x H',J.yld i H x H'->Same H H'/\ ∀hid:bF,(∀b,hid b=true-> ∃o,H b=some o)->Same W (vw H hid)->Rep K (vw H' hid) x d)/\ ∀H,Same W H->J.stop ds.length H
def Es(K:W.Frag)(c:Ct)(hid:bF)(f:GA)(ρ:aC):TI:=λσ H R=>SR K c hid ρ σ H/\ ∃ds ρ',f ρ=some (ds,ρ')/\ ∀J H',Kept hid H H'->SR K c hid ρ' σ H'->ItOk K (vw H' hid) J ds->R J H'
def DI(X:Cx)(c:Ct)(tg iter:Expr)(f:GA):Prop:= ∀hid ρ,PI X tg iter (Es X.K c hid f ρ)
theorem PI.imp {t t':TI}(h:PI X tg iter t)(i: ∀σ H Q,t' σ H Q->t σ H Q):PI X tg iter t':=λae s σ H R I q=>h ae s σ H R I (i σ H R q)
theorem Dx {α:Type}{t:α->TI}(h: ∀z,PI X tg iter (t z)):PI X tg iter (λσ H R=> ∃z,t z σ H R):=λae s σ H R I ⟨z,q⟩=>h z ae s σ H R I q
theorem wK {K:W.Frag}{W:Hp}{a:Addr}{xs:List V}{ds:List D}(h:SqT K W a xs)(r:Reps K W xs ds):ItOk K W (Db K a) ds:=by
 refine⟨λi d H e s=>?_,λH s=>⟨xs,Same.seqT s h,by rw[r.length];exact Nat.le_refl _⟩⟩
 obtain⟨x,e1,r1⟩:=r.get e
 refine⟨⟨xs,x,Same.seqT s h,e1⟩,λy H' ⟨e2,e3⟩=>?_⟩
 subst e2;have:=e3 xs (Same.seqT s h)
 rw[e1] at this;cases this;exact⟨Same.refl _,λhid _ sw=>r1.mono sw⟩
def qd(lo:Int)(n:Nat):List D:=(List.range n).map λ(i:Nat)=>D.int (lo+i)
theorem rB {K:W.Frag}{W:Hp}{lo:Int}{n:Nat}:ItOk K W (CA lo n) (qd lo n):=by
 refine⟨λi d H e s=>?_,λH s=>by show n<=(qd lo n).length;simp[qd]⟩
 unfold qd at e;rw[List.getElem?_map] at e;cases e1:(List.range n)[i]? with
 |none=>rw[e1] at e;cases e
 |some j=>
  rw[e1] at e;obtain⟨h1,h2⟩:=List.getElem?_eq_some_iff.mp e1
  simp at h1 h2;subst h2;cases e
  refine⟨h1,λy H' ⟨e2,e3⟩=>?_⟩
  subst e2 e3;exact⟨Same.refl _,λhid _ sw=>.int⟩
def fM(g:FG)(b:FS):List D->FS
 | [],ρ=>.nx ρ
 |d::r,ρ=>match g d ρ with
  |none=>.no
  |some ρ1=>match b ρ1 with
   | .nx ρ2=>fM g b r ρ2
   | .ct ρ2=>fM g b r ρ2
   | .bk ρ2=>.nx ρ2
   | .rt d ρ2=>.rt d ρ2
   | .no=>.no
def fQ(f:GA)(g:FG)(b:FS):FS:=λρ=>match f ρ with
 |some (ds,ρ')=>fM g b ds ρ'
 |none=>.no
theorem iV {f:GA}{g:FG}{tb:FS}(hp:PassesOwn (model X.prog X.w) X.A X.env X.xe)(hc:X.calm=true)(hi:DI X c tg iter f)(hg:sH X c tg g)(hb:qR X c k body tb)
 (hs: ∀x,foldedSetIterable iter X.env x=pure x:=by intro _;rfl):DS X c k (.For tg iter body [] pos) (fQ f g tb):=λρ=>
 PS.imp (zn hp hc (Dx λhid=>hi hid ρ) (wa λz:bF×aC×D=>hg z.1 z.2.1 z.2.2) (sS λρ=>hb ρ) hs) λD σ H hq_=>by
  obtain⟨hid,sr,q⟩:=hq_
  unfold fQ at q;cases e1:f ρ with
  |none=>rw[e1] at q;exact q.elim
  |some z=>
   obtain⟨ds,ρ0⟩:=z
   rw[e1] at q;have q':EndOk X.K c k D (vw H hid) (fM g tb ds ρ0):=q
   refine⟨hid,sr,ds,ρ0,e1,λJ H1 kp s1 it=>?_⟩
   refine⟨λi m σ H=>m=ds.length-i/\i<=ds.length/\ ∃hid2 ρ2,SR X.K c hid2 ρ2 σ H/\Same (vw H1 hid) (vw H hid2)/\EndOk X.K c k D (vw H hid2) (fM g tb (ds.drop i) ρ2),⟨ds.length,by simp,Nat.zero_le _,hid,ρ0,s1,Same.refl _,EndOk.mono q' kp.vw⟩,?_⟩
   rintro i m σ2 H2 ⟨rfl,hi',hid2,ρ2,s2,w2,q2⟩
   have wH:Same (vw H1 hid) H2:=w2.trans (eT _ _)
   by_cases hlt:i<ds.length
   ·have hd:ds[i]? =some ds[i]:=List.getElem?_eq_getElem hlt
    have e2:ds.drop i=ds[i]::ds.drop (i+1):=List.drop_eq_getElem_cons hlt
    rw[e2] at q2;unfold fM at q2;obtain⟨go,yl⟩:=it.1 i ds[i] H2 hd wH
    refine .inr ⟨go,λσ' H'=> ∃hid3 ρ3,SR X.K c hid3 ρ3 σ' H'/\Same (vw H1 hid) (vw H' hid3)/\EndOk X.K c k D (vw H' hid3) (fM g tb (ds.drop (i+1)) ρ3),λσ' H' n3=>⟨ds.length- (i+1),by omega,rfl,hlt,n3⟩,λx H3 y=>?_⟩
    obtain⟨s3,rp⟩:=yl x H3 y
    have rx:=rp hid2 s2.tr w2
    cases e3:g ds[i] ρ2 with
    |none=>rw[e3] at q2;exact q2.elim
    |some ρ3=>
     rw[e3] at q2;refine⟨(hid2,ρ2,ds[i]),s2.ext s3,rx,ρ3,e3,λσ4 s4 _=>⟨ρ3,hid2,s4,?_⟩⟩
     have w3:Same (vw H2 hid2) (vw H3 hid2):=aN s3
     dsimp only at q2;cases e4:tb ρ3 with
     |nx ρ5=>rw[e4] at q2;exact λσ' H' hid' z w=>⟨hid',ρ5,z,(w2.trans w3).trans w,EndOk.mono q2 (w3.trans w)⟩
     |ct ρ5=>rw[e4] at q2;exact λσ' H' hid' z w=>⟨hid',ρ5,z,(w2.trans w3).trans w,EndOk.mono q2 (w3.trans w)⟩
     |bk ρ5=>rw[e4] at q2;exact λσ' H' hid' z w=>q2 σ' H' hid' z (w3.trans w)
     |rt d ρ5=>rw[e4] at q2;exact q2
     |no=>rw[e4] at q2;exact q2.elim
   ·have e:i=ds.length:=by omega
    subst e;rw[List.drop_eq_nil_of_le (Nat.le_refl _)] at q2;exact .inl ⟨it.2 H2 wH,q2 σ2 H2 hid2 s2 (Same.refl _)⟩
def jv(p:FT)(b:FS):Nat->FS
 |0,_=>.no
 |n+1,ρ=>match p ρ with
  |none=>.no
  |some false=>.nx ρ
  |some true=>match b ρ with
   | .nx ρ2=>jv p b n ρ2
   | .ct ρ2=>jv p b n ρ2
   | .bk ρ2=>.nx ρ2
   | .rt d ρ2=>.rt d ρ2
   | .no=>.no
theorem i4(n:Nat){p:FT}{tb:FS}(hp:PassesOwn (model X.prog X.w) X.A X.env X.xe)(hc:DT X c e p)(hb:qR X c k body tb):DS X c k (.While e body [] pos) (jv p tb n):=λρ=>
 PS.imp (wF hp (A9 λz:bF×aC=>hc z.1 z.2) (sS λρ=>hb ρ)) λD σ H hq_=>by
  obtain⟨hid,sr,q⟩:=hq_
  refine⟨λm σ H=> ∃hid2 ρ2,SR X.K c hid2 ρ2 σ H/\EndOk X.K c k D (vw H hid2) (jv p tb m ρ2),⟨n,hid,ρ,sr,q⟩,?_⟩
  rintro m σ2 H2 ⟨hid2,ρ2,s2,q2⟩
  cases m with
  |zero=>exact q2.elim
  |succ m=>
   unfold jv at q2;cases e1:p ρ2 with
   |none=>rw[e1] at q2;exact q2.elim
   |some b=>
    rw[e1] at q2;refine⟨(hid2,ρ2),s2,b,e1,λH3 s3=>?_⟩
    cases b with
    |false=>exact p6 (q2 σ2 H3 hid2 (s2.ext s3) (aN s3))
    |true=>
     refine pH ⟨λσ' H'=> ∃hid3 ρ3,SR X.K c hid3 ρ3 σ' H'/\EndOk X.K c k D (vw H' hid3) (jv p tb m ρ3),λσ' H' n3=>⟨m,Nat.lt_succ_self _,n3⟩,ρ2,hid2,s2.ext s3,?_⟩
     have w3:Same (vw H2 hid2) (vw H3 hid2):=aN s3
     dsimp only at q2;cases e4:tb ρ2 with
     |nx ρ5=>rw[e4] at q2;exact λσ' H' hid' z w=>⟨hid',ρ5,z,EndOk.mono q2 (w3.trans w)⟩
     |ct ρ5=>rw[e4] at q2;exact λσ' H' hid' z w=>⟨hid',ρ5,z,EndOk.mono q2 (w3.trans w)⟩
     |bk ρ5=>rw[e4] at q2;exact λσ' H' hid' z w=>q2 σ' H' hid' z (w3.trans w)
     |rt d ρ5=>rw[e4] at q2;exact q2
     |no=>rw[e4] at q2;exact q2.elim
end
def cY(n:Nat)(ds:List D):aC:=ds.map Sl.v++List.replicate (n-ds.length) .no
def iJ(kd:Kd)(n:Nat)(t:FS)(ds:List D):Option D:=match t (cY n ds) with
 | .rt d _=>some d
 | .nx _=>(match kd with
   | .n=>none
   |_=>some .non)
 |_=>none
def kS(n:Nat)(bs ds:List D):aC:=.arg bs::(ds.map Sl.v++List.replicate (n-1-ds.length) .no)
def lZ:aC->Option (List D)
 | .arg bs::_=>some bs
 |_=>none
def qK(kd:Kd)(n:Nat)(t:FS)(bs ds:List D):Option (D×List D):=match t (kS n bs ds) with
 | .rt d ρ=>(lZ ρ).map λb=>(d,b)
 | .nx ρ=>(match kd with
   | .n=>none
   |_=>(lZ ρ).map λb=>(.non,b))
 |_=>none
theorem vL {K:W.Frag}{c:Ct}{hid:bF}{H:Hp}(m:Nat): ∀ {vs:List V} {ds:List D},Reps K (vw H hid) vs ds-> ∀(i:Nat) (s:Sl),(ds.map Sl.v++List.replicate m .no)[i]? =some s->SlOk K c hid (vs.map some++List.replicate m none) H i s:=by
 intro vs ds r i s e;have hl:=r.length
 by_cases hi:i<ds.length
 ·rw[List.getElem?_append_left (by simpa using hi),List.getElem?_map] at e
  have e2:ds[i]? =some ds[i]:=List.getElem?_eq_getElem hi
  rw[e2] at e;cases e
  obtain⟨x,h1,h2⟩:=r.get e2
  exact⟨x,by rw[List.getElem?_append_left (by simp;omega),List.getElem?_map,h1];rfl,h2⟩
 ·rw[List.getElem?_append_right (by simpa using hi),List.getElem?_replicate] at e
  split at e
  ·cases e;trivial
  ·cases e
theorem zt {ds:List D}{m i:Nat}: ¬Ow (ds.map Sl.v++List.replicate m Sl.no)[i]? :=λo=>by
 by_cases hi:i<ds.length
 ·rw[List.getElem?_append_left (by simpa using hi),List.getElem?_map,List.getElem?_eq_getElem hi] at o
  exact o
 ·rw[List.getElem?_append_right (by simpa using hi),List.getElem?_replicate] at o
  split at o<;>exact o
theorem SR.begins {K:W.Frag}{hid:bF}{H:Hp}{N:List Str}{vs:List V}{ds:List D}(tr:AZ hid H)(r:Reps K (vw H hid) vs ds):SR K ⟨H,hid,λ_=>false⟩ hid (cY N.length ds) (start N vs) H:=by
 have hl:=r.length
 unfold start cY;rw[hl];exact⟨tr.1,tr.2,λ_ h=>h,λ_ _ h _=>h,λb o h=>⟨o,h⟩,tr.1,(λ_ h=>nomatch h),by simp[hl],λi s e=>vL _ r i s e,λi j a _ o=>absurd o zt⟩
section
variable {P:Program}{w:World}{K:W.Frag}{mg:Str->Option Value}{base:Heap}{x qual:Str}{st:Stmt}{f:Addr}{fd:FuncData}{N ps:List Str}{k:Nat}{t:FS}{kd:Kd}
theorem t4(F:Fun K x qual st f fd)(S:FnScope N ps (aj st))(hkd:kd≠ .b)
 (body: ∀(cdv:Value) (A:Around) (outer:List Env) (s:Shared) (H:Hp) (hid:bF) (E:XK),Room k (A.deeper (envOfC qual (aj st) s.heap.objs.size f cdv))->
   qR (kJ nM P w K mg base N qual (aj st) f cdv A outer s H E).nox ⟨H,hid,λ_=>false⟩ kd (aD st) t):
 FnOk P w K mg base nM (k+1) f fd ps (eW K kd ps.length (iJ kd N.length t)):=by
 refine F.ok S (λvs H Q E h=>?_) (λcdv A outer s H vs Q E hr h=>?_)
 ·obtain⟨hid,ds,_,r,hl,_⟩:=h
  rw[r.length,hl]
 ·obtain⟨hid,ds,tr,r,hl,d,hP,q⟩:=h
  refine⟨_,body cdv A outer s H hid E hr (cY N.length ds),hid,SR.begins tr r,?_⟩
  unfold iJ at hP;cases e:t (cY N.length ds) with
  |nx ρ=>
   rw[e] at hP;intro σ' H' hid' sr _;have sm:Same H H':=λb o z=>sr.kp b o z rfl
   cases kd with
   |b=>exact absurd rfl hkd
   |s=>cases hP;exact q _ H' sm .non
   |n=>cases hP
  |rt d' ρ=>
   rw[e] at hP;cases hP
   intro v H' R;have sm:Same H H':=λb o z=>R.kp b o z rfl
   cases kd with
   |b=>exact absurd rfl hkd
   |s=>exact q v H' sm R.val
   |n=>exact q v H' sm R.val
  |bk ρ=>rw[e] at hP;cases hP
  |ct ρ=>rw[e] at hP;cases hP
  |no=>rw[e] at hP;cases hP
theorem SR.beginsE {hid:bF}{H:Hp}{a:Addr}{xs us:List V}{bs ds:List D}(tr:AZ hid H)(ha:hid a=true)(hx:H a=some (.lst xs))(rb:Reps K (vw H hid) xs bs)(r:Reps K (vw H hid) us ds)(hN:0<N.length):
 SR K ⟨H,hid,λb=>decide (b=a)⟩ hid (kS N.length bs ds) (start N (.ref a::us)) H:=by
 have hl:=r.length
 have es:start N (.ref a::us)=some (V.ref a)::(us.map some++List.replicate (N.length-1-ds.length) none):=by
  unfold start;rw[List.map_cons,List.cons_append,List.length_cons,hl];congr 3
  omega
 rw[es];unfold kS;refine⟨tr.1,tr.2,λ_ h=>h,λ_ _ h _=>h,λb o h=>⟨o,h⟩,tr.1,λb h=>?_,by simp[hl],λi s e=>?_,λi j z n o1 o2 q1 q2=>?_⟩
 ·have:b=a:=by simpa using h
  rw[this];exact ha
 ·cases i with
  |zero=>
   cases e
   exact⟨a,xs,rfl,hx,ha,by simp,rb⟩
  |succ i=>
   have z:=vL (c:=⟨H,hid,λb=>decide (b=a)⟩) (N.length-1-ds.length) r i s (by simpa using e)
   cases s with
   |no=>trivial
   |v d=>obtain⟨x,h1,h2⟩:=z;exact⟨x,by simpa using h1,h2⟩
   |own ds=>obtain⟨x,xs,h1,h2⟩:=z;exact⟨x,xs,by simpa using h1,h2⟩
   |arg ds=>obtain⟨x,xs,h1,h2⟩:=z;exact⟨x,xs,by simpa using h1,h2⟩
   |ob b=>obtain⟨x,h1,h2⟩:=z;exact⟨x,by simpa using h1,h2⟩
 ·cases i with
  |zero=>
   cases j with
   |zero=>exact n rfl
   |succ j=>exact zt (by simpa using o2)
  |succ i=>exact zt (by simpa using o1)
theorem uf {ρ:aC}{b:List D}(h:lZ ρ=some b):ρ[0]? =some (.arg b):=by
 unfold lZ at h;split at h
 ·cases h;rfl
 ·cases h
theorem AY {n:Nat}(F:Fun K x qual st f fd)(S:FnScope N ps (aj st))(hkd:kd≠ .b)(hn:ps.length=n+1)
 (body: ∀(cdv:Value) (A:Around) (outer:List Env) (s:Shared) (H:Hp) (hid:bF) (a:Addr) (E:XK),Room k (A.deeper (envOfC qual (aj st) s.heap.objs.size f cdv))->
   qR (kJ nM P w K mg base N qual (aj st) f cdv A outer s H E).nox ⟨H,hid,λb=>decide (b=a)⟩ kd (aD st) t):
 FnOk P w K mg base nM (k+1) f fd ps (qJ K kd n (qK kd N.length t)):=by
 refine F.ok S (λvs H Q E h=>?_) (λcdv A outer s H vs Q E hr h=>?_)
 ·obtain⟨hid,a,xs,bs,us,ds,rfl,_,_,_,_,r,hl,_⟩:=h
  rw[List.length_cons,r.length,hl,hn]
 ·obtain⟨hid,a,xs,bs,us,ds,rfl,tr,ha,hx,rb,r,hl,d,bs',hM,q⟩:=h
  have hN:0<N.length:=by have:=congrArg List.length S.pre;rw[List.length_take] at this;omega
  refine⟨_,body cdv A outer s H hid a E hr (kS N.length bs ds),hid,SR.beginsE tr ha hx rb r hN,?_⟩
  have fin: ∀(v:V) (H':Hp) (ρ:aC) (d:D),Ret K ⟨H,hid,λb=>decide (b=a)⟩ kd ρ H' v d->lZ ρ=some bs'->(∀v H' xs',(∀b o,H b=some o->b≠a->H' b=some o)->H' a=some (.lst xs')->BM K kd hid H H' v d xs' bs'->Q v H')->Q v H':=by
   intro v H' ρ d R h0 q;obtain⟨a',xs',m1,m2,m3⟩:=R.arg 0 _ (uf h0)
   have:a'=a:=by simpa using m1
   subst this;refine q v H' xs' (λb o z n=>R.kp b o z (by simpa using n)) m2 ?_
   cases kd with
   |b=>exact absurd rfl hkd
   |s=>exact⟨R.val,m3⟩
   |n=>
    obtain⟨p,ys,es,rfl,rfl,h1,h2,h3⟩:=R.val
    exact⟨p,ys,es,rfl,rfl,h1,h2,h3,m3⟩
  unfold qK at hM;cases e:t (kS N.length bs ds) with
  |nx ρ=>
   rw[e] at hM;intro σ' H' hid' sr _;cases kd with
   |b=>exact absurd rfl hkd
   |s=>
    dsimp only at hM;cases e0:lZ ρ with
    |none=>rw[e0] at hM;cases hM
    |some b=>
     rw[e0] at hM;cases hM;exact fin .non H' ρ .non (v9 (k:=.s) (by decide) (sr.post (k:=.s) (Same.refl _) .non (by decide)) sr.h0) e0 q
   |n=>cases hM
  |rt d' ρ=>
   rw[e] at hM;dsimp only at hM;cases e0:lZ ρ with
   |none=>rw[e0] at hM;cases hM
   |some b=>
    rw[e0] at hM;cases hM;intro v H' R;exact fin v H' ρ _ R e0 q
  |bk ρ=>rw[e] at hM;cases hM
  |ct ρ=>rw[e] at hM;cases hM
  |no=>rw[e] at hM;cases hM
end
def sN(K:W.Frag):Sp:=λvs H Q _=> ∃(a:Addr) (ns:List Int),vs=[.ref a]/\SqR K H a (ns.map V.int)/\ns.length<=63/\ ∀H',Q (.bl true) H'
theorem nQ {K:W.Frag}{F:Hp}: ∀ns:List Int,Reps K F (ns.map V.int) (ns.map D.int)
 | []=>.nil
 |_::r=>.cons .int (nQ r)
theorem zO {P:Program}{w:World}{K:W.Frag}{mg:Str->Option Value}{base:Heap}{f:Addr}{fd:FuncData}{x:Str}{k:Nat}{M:List D->Option D}(F:FnOk P w K mg base nM k f fd [x] (eW K .s 1 M))(hM: ∀ns:List Int,ns.length<=63->M [.scr (ns.map D.int)]=some (.bl true)):
 FnOk P w K mg base nM k f fd [x] (sN K):=F.imp λvs H Q E hq_=>by
 obtain⟨a,ns,e,hS,hl,q⟩:=hq_
 subst e;have hv:vw H (λ_=>false)=H:=by funext b;unfold vw;simp
 refine⟨λ_=>false,[.scr (ns.map D.int)],⟨(λb h=>nomatch h),(λb xs h=>nomatch h)⟩,?_,rfl,.bl true,hM ns hl,λv H' _ r=>?_⟩
 ·rw[hv];exact .cons (.scr hS (nQ ns)) .nil
 ·cases r;exact q H'
theorem walkD {l:W.OpenLaw}{k:Nat}{x:Str}{q:Program}{loose:List Str}{XP:(Str->Option Value)->Heap->Prop}{YP:World->Heap->Prop}{d:DefRec}{K:Params->W.Frag}(hn:l.most=some 63)(hdf:d.params.defaults=[])(hr:Room k callerA)
 (hY: ∀(w:World) (h:Heap),YP w h->(K w.params).In h)
 (F: ∀(w:World) (mg:Str->Option Value) (fa:Addr) (h:Heap),(K w.params).In h->h.Ns mainGlobals mg->mg d.name=some (.ref fa)->
   ∃fd:FuncData,(∀(s:Shared) (u:Value),BindsTo s fd ⟨[u],[]⟩ [(x,u)])/\ ∀base:Heap,(K w.params).In base->base.Ns mainGlobals mg->FnOk l.prog w (K w.params) mg base nM k fa fd [x] (sN (K w.params))):
 W.WalkO q loose XP YP l.row.toRowW d [] (λf vs=>PySem.call f vs):=
 L2.walk_of (n:=63) (k:=k) (x:=x) (CX:=λ_=>nM) (sp:=λw=>sN (K w.params)) hn (by decide) hdf hr hY F (λ_ H a ns hl hO hS=>⟨a,ns,rfl,hS.elim (λr=>r.elim (λe=>by rcases hO a with z|⟨o,xs,z⟩<;>rw[z] at e<;>cases e) .inl) .inr,hl,λ_=>rfl⟩) λ_ _ _ _ _ z=>z
def pi(cells:List (Str×Addr)):List (Str×NameKind)->List (Str×Addr)->List (Str×Addr)
 | [],acc=>acc
 |(n,k)::r,acc=>pi cells r (if k== .free then(match cells.lookup n with
  |some c=>(n,c)::acc
  |none=>acc) else acc)
theorem oX {cells:List (Str×Addr)}: ∀ {names:List (Str×NameKind)} {acc:List (Str×Addr)},(∀p∈acc,cells.lookup p.1=some p.2)-> ∀p∈pi cells names acc,cells.lookup p.1=some p.2
 | [],acc,h,p,hp=>h p hp
 |(n,k)::r,acc,h,p,hp=>by
  refine oX (names:=r) ?_ p hp
  intro q hq;split at hq
  ·split at hq
   ·rename_i c e
    rcases List.mem_cons.mp hq with rfl|hq
    ·exact e
    ·exact h q hq
   ·exact h q hq
  ·exact h q hq
theorem qI {cells:List (Str×Addr)}: ∀ {names:List (Str×NameKind)} {acc:List (Str×Addr)} (p:Str×Addr),p∈pi cells names acc->p∈acc\/(p.1,NameKind.free)∈names
 | [],acc,p,hp=>.inl hp
 |(n,k)::r,acc,p,hp=>by
  rcases qI (names:=r) p hp with hq|hq
  ·split at hq
   ·rename_i ek
    split at hq
    ·rcases List.mem_cons.mp hq with e|hq
     ·subst e
      have:k=.free:=by simpa using ek
      subst this;exact .inr List.mem_cons_self
     ·exact .inl hq
    ·exact .inl hq
   ·exact .inl hq
  ·exact .inr (List.mem_cons_of_mem _ hq)
theorem qw {cells:List (Str×Addr)}: ∀ {names:List (Str×NameKind)} {acc:List (Str×Addr)} {p:Str×Addr},p∈acc->p∈pi cells names acc
 | [],acc,p,h=>h
 |(n,k)::r,acc,p,h=>by
  refine qw (names:=r) ?_
  split
  ·split
   ·exact List.mem_cons_of_mem _ h
   ·exact h
  ·exact h
theorem sI {cells:List (Str×Addr)}{x:Str}{c:Addr}(hc:cells.lookup x=some c): ∀ {names:List (Str×NameKind)} {acc:List (Str×Addr)},(x,NameKind.free)∈names->(x,c)∈pi cells names acc
 | [],_,h=>nomatch h
 |(n,k)::r,acc,h=>by
  rcases List.mem_cons.mp h with e|h
  ·cases e
   refine qw (names:=r) ?_
   rw[if_pos (by rfl),hc]
   exact List.mem_cons_self
  ·exact sI hc (names:=r) h
theorem m9 {l:List (Str×Addr)}{x:Str}{c:Addr}(h:(x,c)∈l)(u: ∀p∈l,p.1=x->p.2=c):l.lookup x=some c:=by
 induction l with
 |nil=>exact nomatch h
 |cons p r ih=>
  obtain⟨n,a⟩:=p
  rw[List.lookup_cons];cases e:x==n with
  |true=>
   have e':x=n:=eq_of_beq e
   have:=u (n,a) List.mem_cons_self e'.symm
   simpa using this
  |false=>
   have ne:x≠n:=λe'=>by rw[e'] at e;simp at e
   rcases List.mem_cons.mp h with e'|h
   ·cases e';exact absurd rfl ne
   ·exact ih h λp hp=>u p (List.mem_cons_of_mem _ hp)
theorem qZ {cells:List (Str×Addr)}{names:List (Str×NameKind)}{x:Str}{c:Addr}(h:(pi cells names []).lookup x=some c):cells.lookup x=some c:=
 oX (names:=names) (acc:=[]) (λ_ z=>nomatch z) (x,c) (PySem.mem_of_lookup h)
theorem kP {cells:List (Str×Addr)}{names:List (Str×NameKind)}{x:Str}{c:Addr}(hc:cells.lookup x=some c)(hf:(x,NameKind.free)∈names):(pi cells names []).lookup x=some c:=
 m9 (sI hc hf) λp hp e=>by
  have:=oX (names:=names) (acc:=[]) (λ_ z=>nomatch z) p hp
  rw[e,hc] at this;exact(Option.some.inj this).symm
theorem gg {scope:Scope}{env:Env}(h: ∀x,(x,NameKind.free)∈scope.names-> ∃c,env.cells.lookup x=some c):closureFor scope env=pure (pi env.cells scope.names []):=by
 unfold closureFor;have key: ∀(names:List (Str×NameKind)) (acc:List (Str×Addr)),(∀x,(x,NameKind.free)∈names-> ∃c,env.cells.lookup x=some c)->
  (forIn names acc (λ(p:Str×NameKind) (r:List (Str×Addr))=>match p with
    |(name,kind)=>if(kind==NameKind.free)=true then do
       let __do_lift <-cellOf env name
       pure (ForInStep.yield ((name,__do_lift)::r)) else pure (ForInStep.yield r)):Sem (List (Str×Addr)))=pure (pi env.cells names acc):=by
  intro names
  induction names with
  |nil=>intro acc _;rfl
  |cons p r ih=>
   intro acc h;obtain⟨n,k⟩:=p
   rw[List.forIn_cons];have hr: ∀x,(x,NameKind.free)∈r-> ∃c,env.cells.lookup x=some c:=λx hx=>h x (List.mem_cons_of_mem _ hx)
   cases e:k==NameKind.free with
   |false=>
    simp only[e,Bool.false_eq_true,if_false,pure_bind];rw[ih acc hr]
    conv=>rhs;unfold pi
    simp[e]
   |true=>
    have ek:k=.free:=by simpa using e
    subst ek;obtain⟨c,hc⟩:=h n List.mem_cons_self
    have ec:cellOf env n=pure c:=by unfold cellOf;rw[hc]
    simp only[beq_self_eq_true,if_true,ec,pure_bind];rw[ih _ hr]
    conv=>rhs;unfold pi
    simp[hc]
 have:=key scope.names [] h
 simp only[this,pure_bind]
theorem g0 {sc:Scope}{env:Env}{x:Str}{k:NameKind}(h:(relabel sc env).names.lookup x=some k): ∃k0,sc.names.lookup x=some k0/\(k=k0\/(k0=.free/\k=.cell)):=by
 unfold relabel at h;dsimp only at h
 generalize sc.names=l at h⊢
 induction l with
 |nil=>simp at h
 |cons p r ih=>
  obtain⟨n,k1⟩:=p
  rw[List.map_cons] at h;dsimp only at h;rw[List.lookup_cons];cases hx:x==n with
  |true=>
   refine⟨k1,rfl,?_⟩
   split at h
   ·rename_i hc
    rw[List.lookup_cons] at h;simp only[hx] at h;cases h
    have:k1=.free:=by
     simp only[Bool.and_eq_true] at hc;exact eq_of_beq hc.1.1
    exact .inr ⟨this,rfl⟩
   ·rw[List.lookup_cons] at h
    simp only[hx] at h;cases h
    exact .inl rfl
  |false=>
   split at h
   ·rw[List.lookup_cons] at h;simp only[hx] at h;exact ih h
   ·rw[List.lookup_cons] at h;simp only[hx] at h;exact ih h
def mk(cells:List (Str×Addr))(scope:Scope)(C:Addr):List (Str×Addr):=cellsFrom (C+1) scope.names (pi cells scope.names [])
theorem bv: ∀(names:List (Str×NameKind)) (n:Nat) (acc:List (Str×Addr)),cellsFrom n names acc=cellsFrom n names []++acc
 | [],_,_=>rfl
 |(name,kind)::r,n,acc=>by
  unfold cellsFrom;split
  ·rw[bv r (n+1) ((name,n)::acc),bv r (n+1) [(name,n)],List.append_assoc];rfl
  ·exact bv r n acc
theorem om: ∀ {names:List (Str×NameKind)} {n:Nat} {p:Str×Addr},p∈cellsFrom n names []->(p.1,NameKind.cell)∈names
 | [],_,_,h=>nomatch h
 |(name,kind)::r,n,p,h=>by
  unfold cellsFrom at h;split at h
  ·rename_i hk
   have hk':kind=.cell:=by simpa using hk
   subst hk';rw[bv] at h;rcases List.mem_append.mp h with h|h
   ·exact List.mem_cons_of_mem _ (om h)
   ·rw[List.mem_singleton.mp h];exact List.mem_cons_self
  ·exact List.mem_cons_of_mem _ (om h)
theorem kA: ∀ {names:List (Str×NameKind)} {n:Nat} {x:Str},(x,NameKind.cell)∈names-> ∃c,(x,c)∈cellsFrom n names []
 | [],_,_,h=>nomatch h
 |(name,kind)::r,n,x,h=>by
  unfold cellsFrom;rcases List.mem_cons.mp h with e|h
  ·cases e
   rw[if_pos (by rfl),bv]
   exact⟨n,List.mem_append_right _ List.mem_cons_self⟩
  ·split
   ·obtain⟨c,hc⟩:=kA (n:=n+1) h
    rw[bv];exact⟨c,List.mem_append_left _ hc⟩
   ·exact kA h
theorem rN {l:List (Str×Addr)}{x:Str}{c:Addr}(h:(x,c)∈l): ∃c',l.lookup x=some c':=by
 induction l with
 |nil=>exact nomatch h
 |cons p r ih=>
  obtain⟨n,a⟩:=p
  rw[List.lookup_cons];cases e:x==n with
  |true=>exact⟨a,rfl⟩
  |false=>
   rcases List.mem_cons.mp h with e'|h
   ·cases e';simp at e
   ·exact ih h
theorem fh {cells:List (Str×Addr)}{sc:Scope}{C:Addr}{x:Str}{c:Addr}(h:(mk cells sc C).lookup x=some c):(x,c)∈cellsFrom (C+1) sc.names []\/(pi cells sc.names []).lookup x=some c:=by
 unfold mk at h;rw[bv,List.lookup_append] at h;cases e:(cellsFrom (C+1) sc.names []).lookup x with
 |none=>rw[e] at h;exact .inr h
 |some c'=>rw[e] at h;cases h;exact .inl (PySem.mem_of_lookup e)
theorem vE {cells:List (Str×Addr)}{sc:Scope}{C:Addr}{x:Str}(h:(x,NameKind.cell)∈sc.names): ∃c,(mk cells sc C).lookup x=some c:=by
 obtain⟨c,hc⟩:=kA (n:=C+1) h
 obtain⟨c',e⟩:=rN hc
 exact⟨c',by unfold mk;rw[bv,List.lookup_append,e];rfl⟩
theorem qH {cells:List (Str×Addr)}{sc:Scope}{C:Addr}{x:Str}(h:(x,NameKind.cell)∉sc.names):(mk cells sc C).lookup x=(pi cells sc.names []).lookup x:=by
 unfold mk;rw[bv,List.lookup_append];cases e:(cellsFrom (C+1) sc.names []).lookup x with
 |none=>rfl
 |some c'=>exact absurd (om (PySem.mem_of_lookup e)) h
theorem tf {M:Model}{A:Around}{E:Value->Shared->Prop}{s:Shared}{scope:Scope}{globals:Addr}{closure:List (Str×Addr)}{qual:Str}{outer:Env}{Q:Env->Shared->Prop}
 (hQ: ∀h',h'.Ns s.heap.objs.size (λ_=>none)->(∀b o,s.heap.get? b=some o->h'.get? b=some o)->CellsOk h' (s.heap.objs.size+1) (cellsFrom (s.heap.objs.size+1) scope.names [])->
   Q (newEnv scope s.heap.objs.size globals (cellsFrom (s.heap.objs.size+1) scope.names closure) qual none .none (some outer) builtinsNs) {s with heap:=h',toks:=s.toks}):
 wpAny M A (newFunctionEnv scope globals closure [] qual none .none (some outer)) Q E s:=by
 simp only[newFunctionEnv,Option.isSome_some,if_true];refine wpAny_bind (wpAny_alloc ?_)
 refine wpAny_bind (wpAny_layCells _ (λname kind cells=>by cases hkc:kind==NameKind.cell<;>simp[hkc]) _ _ _ _ ?_)
 have ok:=cellsFrom_ok scope.names (s.heap.push {cls:=.type "dict",data:=.dict #[]}) (s.heap.objs.size+1) [] ⟨λ_ _ hm=>(nomatch hm),List.Pairwise.nil⟩ (by rw[Heap.size_push];exact Nat.le_refl _)
 rw[Heap.size_push] at ok;rw[show({s with heap:=s.heap.push {cls:=.type "dict",data:=.dict #[]}}:Shared).heap.objs.size=s.heap.objs.size+1 from Heap.size_push ..]
 rw[List.forIn_nil];refine wpAny_bind (wpAny_pure (wpAny_pure ?_))
 exact hQ _ ((Heap.Ns.new s.heap (.type "dict")).keeps (pushCells_keeps _ _)) (λb o e=>pushCells_keeps _ _ b o (Heap.get?_push_of_some _ e)) ok
def aL(X:Cx)(N':List Str)(scope:Scope)(C:Addr)(s₀:Shared)(H₀:Hp)(ex:List Addr):Cx where
 prog:=X.prog
 w:=X.w
 K:=X.K
 mg:=X.mg
 base:=X.base
 A:=X.A
 N:=N'
 s₀:=s₀
 H₀:=H₀
 env:=compEnvC scope (mk X.env.cells scope C) C X.env
 outer:=X.stack
 stack:=X.stack
 ex:=ex
 fn:=λx=>scope.names.lookup x==some .local||scope.names.lookup x==some .cell
 calm:=X.calm
 pn:=[]
 xe:=λ_ _=>False
def u3(N N':List Str)(sc:Scope):Bool:=
 decide (N.length<=N'.length)&&((N'.take N.length).zip N).all (λp=>(p.1==p.2&& !(sc.names.lookup p.1==some .local)&& !(sc.names.lookup p.1==some .cell))||(sc.names.lookup p.1).isNone)&&
  (N'.drop N.length).all λx=>sc.names.lookup x==some .local||sc.names.lookup x==some .cell
def u0(sc:Scope)(outer:Scope):Bool:=
 sc.names.all λy=>(y.2 != .cell||sc.names.lookup y.1==some .cell)&&(y.2 != .local||sc.names.lookup y.1==some .local)&&(y.2 != .free||(sc.names.lookup y.1==some .free&&(outer.names.lookup y.1==some .cell||outer.names.lookup y.1==some .free)))
theorem qi {sc o:Scope}(h:u0 sc o=true): ∀y∈sc.names,y.2=.cell->sc.names.lookup y.1=some .cell:=λy hy e=>by
 have:=List.all_eq_true.mp h y hy
 simpa [e] using this
theorem kK {sc o:Scope}(h:u0 sc o=true): ∀y∈sc.names,y.2=.local->sc.names.lookup y.1=some .local:=λy hy e=>by
 have:=List.all_eq_true.mp h y hy
 simpa [e] using this
theorem iL {sc o:Scope}(h:u0 sc o=true): ∀x,(x,NameKind.free)∈sc.names->o.names.lookup x=some .cell\/o.names.lookup x=some .free:=λx hx=>by
 have:=List.all_eq_true.mp h _ hx
 simpa using (by simpa using this:_/\_).2
theorem nL {sc o:Scope}(h:u0 sc o=true): ∀x,(x,NameKind.free)∈sc.names->sc.names.lookup x=some .free:=λx hx=>by
 have:=List.all_eq_true.mp h _ hx
 simpa using (by simpa using this:_/\_).1
theorem uk {N N':List Str}{sc:Scope}(h:u3 N N' sc=true){i:Nat}{x:Str}(hi:i<N.length)(e:N'[i]? =some x)(hv: ∃k,sc.names.lookup x=some k/\(k=.local\/k=.cell\/k=.free)):N[i]? =some x/\sc.names.lookup x=some .free:=by
 unfold u3 at h;simp only[Bool.and_eq_true,decide_eq_true_eq] at h;obtain⟨⟨h1,h2⟩,_⟩:=h
 have hN:N[i]? =some N[i]:=List.getElem?_eq_getElem hi
 have e1:(N'.take N.length)[i]? =some x:=by rw[List.getElem?_take_of_lt hi];exact e
 have hm:(x,N[i])∈(N'.take N.length).zip N:=by
  refine List.mem_of_getElem? (i:=i) ?_
  rw[List.getElem?_zip_eq_some];exact⟨e1,hN⟩
 have:=List.all_eq_true.mp h2 _ hm
 obtain⟨k,hk,hk2⟩:=hv
 dsimp only at this;rw[hk] at this;simp only[Option.isNone_some,Bool.or_false,Bool.and_eq_true,Bool.not_eq_true'] at this;obtain⟨⟨t1,t2⟩,t3⟩:=this
 have ex:x=N[i]:=eq_of_beq t1
 rcases hk2 with rfl|rfl|rfl
 ·simp at t2
 ·simp at t3
 ·exact⟨by rw[hN,<-ex],hk⟩
theorem yg {N N':List Str}{sc:Scope}(h:u3 N N' sc=true):N.length<=N'.length:=by
 unfold u3 at h;simp only[Bool.and_eq_true,decide_eq_true_eq] at h;exact h.1.1
section
variable {X:Cx}{ae:List (Addr×Obj)}{σ:St}{H:Hp}{s:Shared}{scope:Scope}{N':List Str}{fp:List Addr}
theorem uz(I:Inv X ae σ H s){b:Addr}(f:jq X ae H b):b∉frs X.stack:=λz=>by
 rcases List.mem_cons.mp (I.stkSub b z) with e|z
 ·exact f.2.1 e
 ·exact f.2.2.1 z
theorem pG {h':Heap}{tk:Nat}(I:Inv X ae σ H s)(hF: ∀b∈fp,jq X ae H b)(hO: ∀b∈fp,∃o,s.heap.get? b=some o)(hk:scope.kind=.function)(hs:u0 scope X.env.scope=true)(hn:u3 X.N N' scope=true)
 (ns:h'.Ns s.heap.objs.size λ_=>none) (kp: ∀b o,s.heap.get? b=some o->h'.get? b=some o) (oc:CellsOk h' (s.heap.objs.size+1) (cellsFrom (s.heap.objs.size+1) scope.names [])):
 Inv (aL X N' scope s.heap.objs.size s H fp) [] (σ++List.replicate (N'.length-X.N.length) none) H {s with heap:=h',toks:=tk}:=by
 have hlen:=yg hn
 have cl: ∀x c,(pi X.env.cells scope.names []).lookup x=some c->X.env.cells.lookup x=some c:=λx c e=>qZ e
 have clt: ∀x c,(pi X.env.cells scope.names []).lookup x=some c->c<s.heap.objs.size:=λx c e=>let⟨_,z⟩:=I.cell x c (cl x c e);z.lt
 have newC:H s.heap.objs.size=none:=I.hok.fresh (Nat.le_refl _)
 refine⟨⟨I.ok.mod,hk,I.ok.glob,I.ok.blt,Nat.le_refl _,λx y c h1 h2=>?_,λx hx=>?_,λx c h1 h2=>?_,I.ok.hd,I.ok.frames,.inl rfl,λb hb=>⟨?_,λx c e=>?_⟩,I.bs,Nat.le_trans I.ok.bsz I.sz,λb o e hb=>?_,λb hb=>uz I (hF b hb),I.stack,I.stkFree⟩,
  rfl,I.bare,Un.kept kp,⟨_,ns,λi x v e1 e2 e3=>?_⟩,λx c e=>?_,newC,λx c e=>?_,λp hp=>absurd (show p∈([]:List (Addr×Obj)) from hp) (by simp),I.hok.kept kp,?_⟩
 ·
  rcases fh h1 with h1|h1<;>rcases fh h2 with h2|h2
  ·exact name_of_addr oc.apart h1 h2
  ·exact absurd (clt y c h2) (Nat.not_lt.mpr (Nat.le_of_succ_le (oc.empty _ _ h1).2))
  ·exact absurd (clt x c h1) (Nat.not_lt.mpr (Nat.le_of_succ_le (oc.empty _ _ h2).2))
  ·exact I.ok.inj x y c (cl x c h1) (cl y c h2)
 ·
  have hx':(relabel scope X.env).names.lookup x=some .cell\/(relabel scope X.env).names.lookup x=some .free:=hx
  have:(x,NameKind.cell)∈scope.names\/(x,NameKind.free)∈scope.names:=by
   rcases hx' with hx'|hx'
   ·obtain⟨k0,e0,e1|⟨e1,_⟩⟩:=g0 hx'
    ·subst e1;exact .inl (PySem.mem_of_lookup e0)
    ·subst e1;exact .inr (PySem.mem_of_lookup e0)
   ·obtain⟨k0,e0,e1|⟨_,e1⟩⟩:=g0 hx'
    ·subst e1;exact .inr (PySem.mem_of_lookup e0)
    ·cases e1
  rcases this with this|this
  ·exact vE this
  ·have hc:=iL hs x this
   obtain⟨c,e⟩:=I.ok.has x hc
   exact⟨c,(qH λz=>by have z1:=qi hs _ z rfl;have z2:=nL hs x this;rw[z2] at z1;cases z1).trans (kP e this)⟩
 ·
  have h1':scope.names.lookup x=some .local\/scope.names.lookup x=some .cell:=by
   have h1:(scope.names.lookup x==some .local||scope.names.lookup x==some .cell)=true:=h1
   simpa using h1
  rcases fh h2 with h2|h2
  ·exact Nat.le_of_succ_le (oc.empty _ _ h2).2
  ·exfalso
   rcases qI _ (PySem.mem_of_lookup h2) with z|z
   ·exact nomatch z
   ·rw[nL hs x z] at h1';rcases h1' with h1'|h1'<;>cases h1'
 ·obtain⟨o,e⟩:=hO b hb
  exact Nat.ne_of_lt (Heap.lt_size e)
 ·rcases fh e with e|e
  ·obtain⟨o,e'⟩:=hO b hb
   exact λz=>absurd (Heap.lt_size e') (Nat.not_lt.mpr (z▸Nat.le_of_succ_le (oc.empty _ _ e).2))
  ·exact(hF b hb).2.2.2.2.1 x c (cl x c e)
 ·obtain⟨_,_,_,h4,_⟩:=hF b hb
  rcases h4 with h4|h4
  ·exact I.ok.noex b o e h4
  ·exact absurd (Nat.lt_of_lt_of_le (Heap.lt_size e) (Nat.le_trans I.ok.bsz h4)) (Nat.lt_irrefl _)
 ·have hi:i<X.N.length:=by
   by_cases hi:i<σ.length
   ·rw[<-I.len];exact hi
   ·rw[List.getElem?_append_right (by omega),List.getElem?_replicate] at e2
    split at e2<;>cases e2
  rw[List.getElem?_append_left (by rw[I.len];exact hi)] at e2
  have e3':(relabel scope X.env).names.lookup x=some .local\/(relabel scope X.env).names.lookup x=some .cell\/(relabel scope X.env).names.lookup x=some .free:=e3
  have hv: ∃k,scope.names.lookup x=some k/\(k=.local\/k=.cell\/k=.free):=by
   rcases e3' with z|z|z
   all_goals
    obtain⟨k0,q0,q1|⟨q1,q2⟩⟩:=g0 z
    ·subst q1;exact⟨_,q0,by simp⟩
    ·subst q1;exact⟨_,q0,by simp⟩
  obtain⟨hN,hf⟩:=uk hn hi e1 hv
  have hfm:=PySem.mem_of_lookup hf
  have hc:=iL hs x hfm
  have nc:(x,NameKind.cell)∉scope.names:=λz=>by have z1:=qi hs _ z rfl;rw[hf] at z1;cases z1
  obtain⟨m,hm,hl⟩:=I.loc
  obtain⟨u,r,l⟩:=hl i x v hN e2 (.inr hc)
  refine⟨u,r,.inr ⟨?_,?_⟩⟩
  ·show(relabel scope X.env).names.lookup x=some .cell\/(relabel scope X.env).names.lookup x=some .free
   rcases e3' with z|z|z
   ·obtain⟨k0,q0,q1|⟨q1,q2⟩⟩:=g0 z
    ·subst q1;rw[hf] at q0;cases q0
    ·cases q2
   ·exact .inl z
   ·exact .inr z
  ·rcases l with⟨l,_⟩|⟨_,c,ec,z⟩
   ·have l':X.env.scope.names.lookup x=some .local:=l
    rcases hc with hc|hc<;>rw[hc] at l'<;>cases l'
   ·exact⟨c,(qH nc).trans (kP ec hfm),z.keeps kp⟩
 ·rcases fh e with e|e
  ·exact⟨_,(oc.empty _ _ e).1⟩
  ·obtain⟨v,z⟩:=I.cell x c (cl x c e)
   exact⟨v,z.keeps kp⟩
 ·rcases fh e with e|e
  ·exact I.hok.fresh (Nat.le_of_succ_le (oc.empty _ _ e).2)
  ·exact I.freeC x c (cl x c e)
 ·show(σ++_).length=N'.length
  rw[List.length_append,List.length_replicate,I.len];omega
end
def C6(K:W.Frag)(c:Ct)(hid:bF)(f:FA)(ρ:aC):TI:=λσ H R=>SR K c hid ρ σ H/\ ∃ds,f ρ=some ds/\ ∀J H',Same H H'->ItOk K (vw H' hid) J ds->R J H'
def DIp(X:Cx)(c:Ct)(tg iter:Expr)(f:FA):Prop:= ∀hid ρ,PI X tg iter (C6 X.K c hid f ρ)
def B8 {ι:Type}(IR:Hp->V->ι->Prop)(L W:Hp)(J:It)(ds:List ι):Prop:=
 (∀(i:Nat) (d:ι) (H:Hp),ds[i]? =some d->Same L H->Same W H->J.go i H/\ ∀x H',J.yld i H x H'->Same H H'/\ ∀hid:bF,(∀b,hid b=true-> ∃o,H b=some o)->Same W (vw H hid)->IR (vw H' hid) x d)/\ ∀H,Same L H->Same W H->J.stop ds.length H
abbrev B9(K:W.Frag)(L W:Hp)(J:It)(ds:List D):Prop:=B8 (Rep K) L W J ds
theorem ItOk.b {K:W.Frag}{L W:Hp}{J:It}{ds:List D}(h:ItOk K W J ds):B9 K L W J ds:=⟨λi d H e _ w=>h.1 i d H e w,λH _ w=>h.2 H w⟩
def D3 {ι:Type}(IR:Hp->V->ι->Prop)(K:W.Frag)(c:Ct)(hid:bF)(f:aC->Option (List ι))(ρ:aC):TI:=λσ H R=>SR K c hid ρ σ H/\ ∃ds,f ρ=some ds/\ ∀J H',Same H H'->B8 IR H' (vw H' hid) J ds->R J H'
def D7 {ι:Type}(IR:Hp->V->ι->Prop)(X:Cx)(c:Ct)(tg iter:Expr)(f:aC->Option (List ι)):Prop:= ∀hid ρ,PI X tg iter (D3 IR X.K c hid f ρ)
abbrev Bf(X:Cx)(c:Ct)(tg iter:Expr)(f:FA):Prop:=D7 (Rep X.K) X c tg iter f
section
variable {X:Cx}{c:Ct}{k:Kd}{tg iter:Expr}{pos:Pos}
theorem DIp.b {f:FA}(h:DIp X c tg iter f):Bf X c tg iter f:=λhid ρ=>PI.imp (h hid ρ) λσ H R ⟨sr,ds,e,q⟩=>⟨sr,ds,e,λJ H' s io=>q J H' s io.b⟩
theorem DIp.e {f:FA}(h:DIp X c tg iter f):DI X c tg iter (cm f):=λhid ρ=>PI.imp (h hid ρ) λσ H R hq_=>by
 obtain⟨sr,ds,ρ',e,q⟩:=hq_
 obtain⟨e1,rfl⟩:=lY e
 exact⟨sr,ds,e1,λJ H' s io=>q J H' (.of s) (sr.ext s) io⟩
def oZ(f:FE):FA:=λρ=>(f ρ).bind λd=>match d with
 | .lst ds=>some ds
 |_=>none
def xX(f:FE):FA:=λρ=>(f ρ).bind λd=>match d with
 | .tup ds=>some ds
 |_=>none
theorem nE {f:FE}{ρ:aC}{ds:List D}(h:oZ f ρ=some ds):f ρ=some (.lst ds):=by
 unfold oZ at h;cases e:f ρ with
 |none=>rw[e] at h;cases h
 |some d=>
  rw[e] at h;cases d with
  |lst z=>cases h;rfl
  |_=>cases h
theorem uw {f:FE}{ρ:aC}{ds:List D}(h:xX f ρ=some ds):f ρ=some (.tup ds):=by
 unfold xX at h;cases e:f ρ with
 |none=>rw[e] at h;cases h
 |some d=>
  rw[e] at h;cases d with
  |tup z=>cases h;rfl
  |_=>cases h
theorem wr {K:W.Frag}{W:Hp}{a:Addr}{xs:List V}{ds:List D}(h1:SqL K W a xs)(h2:Reps K W xs ds):ItOk K W (Dg K a) ds:=by
 refine⟨λi d H e s=>?_,λH s=>⟨_,s.seq h1,by rw[h2.length];exact Nat.le_refl _⟩⟩
 obtain⟨x,e1,r1⟩:=h2.get e
 refine⟨⟨_,x,s.seq h1,e1⟩,λy H' ⟨e2,e3⟩=>?_⟩
 subst e2;have:=e3 _ (s.seq h1)
 rw[e1] at this;cases this;exact⟨Same.refl _,λhid _ sw=>r1.mono sw⟩
theorem vU {f:FE}(h:DP X c .s iter f):DIp X c tg iter (oZ f):=λhid ρ=>PI.imp (sE (h hid ρ)) λσ H R hq_=>by
 obtain⟨sr,ds,e,q⟩:=hq_
 refine⟨sr,_,nE e,λv H' s' r=>?_⟩
 cases r with
 |lst h1 h2=>have h1:=SqL.of (K:=X.K) h1;exact⟨_,rfl,⟨_,(eT _ _).seq h1⟩,q _ H' s' (wr h1 h2)⟩
theorem pP {f:FE}(h:DP X c .b iter f):Bf X c tg iter (oZ f):=λhid ρ=>PI.imp (sE (h hid ρ)) λσ H R hq_=>by
 obtain⟨sr,ds,e,q⟩:=hq_
 refine⟨sr,_,nE e,λv H' s' r=>?_⟩
 obtain⟨a,xs,rfl,h1,h2⟩:=Rep1.lst r
 refine⟨a,rfl,⟨_,h1⟩,q _ H' s' ⟨λi d H e s w=>?_,λH s w=>⟨_,s.seq h1,by rw[h2.length];exact Nat.le_refl _⟩⟩⟩
 obtain⟨x,e1,r1⟩:=h2.get e
 refine⟨⟨_,x,s.seq h1,e1⟩,λy H' ⟨e2,e3⟩=>?_⟩
 subst e2;have:=e3 _ (s.seq h1)
 rw[e1] at this;cases this;exact⟨Same.refl _,λhid _ sw=>r1.mono sw⟩
theorem yD {f:FE}(h:DP X c .s iter f):DIp X c tg iter (xX f):=λhid ρ=>PI.imp (AR (h hid ρ)) λσ H R hq_=>by
 obtain⟨sr,ds,e,q⟩:=hq_
 refine⟨sr,_,uw e,λv H' s' r=>?_⟩
 cases r with
 |tup h1 h2=>exact⟨_,rfl,⟨_,Same.seqT (eT _ _) h1⟩,q _ H' s' (wK h1 h2)⟩
def dc(f:FA):FA:=λρ=>(f ρ).bind λds=>match ds with
 | [.int j]=>if j.natAbs<4000000000 then some (qd 0 j.toNat) else none
 |_=>none
theorem cK {a:Expr}{f:FA}{p:Pos}(hm:X.mg "range"=none)(ha:DA X c [a] f)(hg:Gl X "range":=by rfl)(hs:starEach [a] X.env=[(false,eval a X.env)]:=by rfl):DIp X c tg (.Call (.Name "range" p) [a] [] pos) (dc f):=λhid ρ=>
 PI.imp (uU hg hm (ha hid ρ) hs) λσ H R hq_=>by
  obtain⟨sr,ds,e,q⟩:=hq_
  unfold dc at e;cases e1:f ρ with
  |none=>rw[e1] at e;cases e
  |some z=>
   rw[e1] at e;dsimp only[Option.bind] at e;split at e
   ·split at e
    ·cases e
     refine⟨sr,_,e1,λvs H' s' r=>?_⟩
     cases r with
     |cons r t=>cases t;cases r;exact⟨_,rfl,by omega,by omega,q _ H' s' rB⟩
    ·cases e
   ·cases e
def jY(ifs:List Expr)(env:Env):Sem Bool:=forIn ifs true λc r=>if r=true then do let ok <-isTrue c env (eval c env);pure (ForInStep.yield ok) else pure (ForInStep.yield r)
def tL(X:Cx)(c:Ct)(ifs:List Expr)(p:FT):Prop:= ∀hid ρ (ae:List (Addr×Obj)) (s:Shared) (σ:St) (H:Hp) (Q:Bool->Hp->Prop),Inv X ae σ H s->Dp X.K c hid p ρ σ H Q->wpAny (model X.prog X.w) X.A (jY ifs X.env) (TP X ae σ Q) X.xe s
def gz:FT:=λ_=>some true
theorem eM:tL X c [] gz:=λhid ρ ae s σ H Q I hq_=>by
 obtain⟨sr,d,e,q⟩:=hq_
 cases e
 exact wpAny_tests_nil ⟨H,I,q H (Same.refl _)⟩
theorem li {e:Expr}{p:FT}(h:DT X c e p):tL X c [e] p:=λhid ρ ae s σ H Q I q=>wpAny_tests_one (h hid ρ ae s σ H Q I q)
end
theorem g7 {prog:Program}{w:World}{A:Around}{R:Result->Shared->Prop}{s:Shared}{elt target iter:Expr}{ifs:List Expr}{scope:Scope}{pos:Pos}{it acc:Value}{env:Env}(I:Nat->Shared->Prop)
 (turn: ∀n s,I n s->wpAny (model prog w) A (pyNext it) (λr s₁=>match r with
   |none=>R (.ok .next) s₁
   |some v=>wpAny (model prog w) A (letOwnedTupleGo target it v) (λ_ s₁=>wpAny (model prog w) A (assign target env v) (λ_ s₂=>
     wpAny (model prog w) A (jY ifs env) (λok s₃=>
      if ok=true then wpAny (model prog w) A (eval elt env) (λx s₄=>
       wpAny (model prog w) A (call (.builtin "list.append") [acc,x]) (λ_ s₅=> ∃m,m<n/\I m s₅) (λ_ _=>False) s₄) (λ_ _=>False) s₃
      else∃m,m<n/\I m s₃) (λ_ _=>False) s₂) (λ_ _=>False) s₁) (λ_ _=>False) s₁) (λ_ _=>False) s)
 (n:Nat) (h:I n s):
 codeAny (model prog w) A (.compLoop (.ListComp elt [⟨target,iter,ifs,0⟩] scope pos) 0 it acc env) R s:=by
 have no: ∀ {E':Value->Shared->Prop} (x:Value) (s:Shared),False->E' x s:=λ_ _ z=>z.elim
 refine codeAny_loop rfl I (λn s hI=>?_) n h
 show wpAny _ A ((compTurn (.ListComp elt [⟨target,iter,ifs,0⟩] scope pos) 0 it acc env).onRaise (λx=>do noteFrame x env;theTreesLotGoes x)) _ _ s
 refine wpAny_noted ?_
 rw[compTurn_list];refine wpAny_bind (wpAny_standAt (wpAny_bind (wpAny_mono (turn n s hI) (λr s₁ h₁=>?_) no)))
 cases r with
 |none=>exact wpAny_pure h₁
 |some v=>
  refine wpAny_bind (wpAny_mono h₁ (λ_ s₁ h₁=>?_) no)
  refine wpAny_bind (wpAny_mono h₁ (λ_ s₂ h₂=>wpAny_bind (wpAny_mono h₂ (λok s₃ h₃=>?_) no)) no)
  cases ok with
  |false=>exact wpAny_pure ⟨rfl,h₃⟩
  |true=>
   exact wpAny_bind (wpAny_bind (wpAny_mono h₃ (λx s₄ h₄=>wpAny_bind (wpAny_mono h₄ (λ_ s₅ h₅=>wpAny_pure (wpAny_pure ⟨rfl,h₅⟩)) no)) no))
def dm {ι:Type}(g:ι->aC->Option aC)(p:FT)(f:FE)(ρ0:aC):List ι->Option (List D)
 | []=>some []
 |d::r=>(g d ρ0).bind λρ1=>(p ρ1).bind λb=>if b=true then(f ρ1).bind λy=>(dm g p f ρ0 r).map (y:: ·) else dm g p f ρ0 r
def bu {ι:Type}(m:Nat)(gi:aC->Option (List ι))(g:ι->aC->Option aC)(p:FT)(f:FE):FE:=λρ=>(gi ρ).bind λds=>if ds.length<=sizeLine then(dm g p f (ρ++List.replicate m .no) ds).map D.lst else none
theorem lN {ι:Type}{m:Nat}{gi:aC->Option (List ι)}{g:ι->aC->Option aC}{p:FT}{f:FE}{ρ:aC}{d:D}(h:bu m gi g p f ρ=some d): ∃ds ys,gi ρ=some ds/\ds.length<=sizeLine/\dm g p f (ρ++List.replicate m .no) ds=some ys/\d=.lst ys:=by
 unfold bu at h;cases e1:gi ρ with
 |none=>rw[e1] at h;cases h
 |some ds=>
  rw[e1] at h;dsimp only[Option.bind] at h;split at h
  ·cases e2:dm g p f (ρ++List.replicate m .no) ds with
   |none=>rw[e2] at h;cases h
   |some ys=>rw[e2] at h;cases h;exact⟨ds,ys,rfl, ‹_›,e2,rfl⟩
  ·cases h
def jP {ι:Type}(n:Nat)(g:ι->aC->Option aC):Prop:= ∀d (ρ0 ρ1:aC),g d ρ0=some ρ1->ρ1.length=ρ0.length/\ ∀i:Nat,i<n->ρ1[i]? =ρ0[i]?
def tV(n:Nat)(g:qY):Prop:= ∀d (ρ0 ρ1:aC),g d ρ0=some ρ1->ρ1.length=ρ0.length/\ ∀i:Nat,i<n->ρ1[i]? =ρ0[i]?
theorem bW {n i:Nat}(h:n<=i):jP n (gN i):=λd ρ0 ρ1 e=>by
 cases e
 exact⟨by simp,λj hj=>List.getElem?_set_ne (by omega)⟩
theorem gS {n:Nat}:tV n jo:=λd ρ0 ρ1 e=>by
 unfold jo at e;split at e
 ·cases e;exact⟨rfl,λ_ _=>rfl⟩
 ·cases e
theorem bq {n:Nat}{g:FG}{gs:qY}(h1:jP n g)(h2:tV n gs):tV n (dN g gs):=λd ρ0 ρ1 e=>by
 cases d with
 |nil=>cases e
 |cons d ds=>
  have e:(g d ρ0).bind (λρ'=>gs ds ρ')=some ρ1:=e
  cases e1:g d ρ0 with
  |none=>rw[e1] at e;cases e
  |some ρ2=>
   rw[e1] at e;obtain⟨a1,a2⟩:=h1 d ρ0 ρ2 e1
   obtain⟨b1,b2⟩:=h2 ds ρ2 ρ1 e
   exact⟨b1.trans a1,λi hi=>(b2 i hi).trans (a2 i hi)⟩
theorem lQ {n m:Nat}{gs:qY}(h:tV n gs):jP n (gT m gs):=λd ρ0 ρ1 e=>by
 unfold gT at e;split at e
 ·split at e
  ·exact h _ _ _ e
  ·cases e
 ·cases e
theorem SR.forget {K:W.Frag}{c:Ct}{hid:bF}{ρ0 ρ1:aC}{σ:St}{H:Hp}(h:SR K c hid ρ1 σ H)(hl:ρ1.length=ρ0.length)(hs: ∀(i:Nat) (s:Sl),ρ0[i]? =some s->s=.no\/ρ1[i]? =some s):SR K c hid ρ0 σ H:=by
 have ow: ∀i:Nat,Ow ρ0[i]? ->Ow ρ1[i]? :=λi o=>by
  cases e:ρ0[i]? with
  |none=>rw[e] at o;exact o.elim
  |some s=>
   rcases hs i s e with rfl|z
   ·rw[e] at o;exact o.elim
   ·rw[z,<-e];exact o
 refine⟨h.tr,h.ht,h.h0,h.kp,h.t0,h.c0,h.m0,h.len.trans hl,λi s e=>?_,λi j a n o1 o2=>h.ap i j a n (ow i o1) (ow j o2)⟩
 rcases hs i s e with rfl|z
 ·trivial
 ·exact h.sl i s z
theorem SR.more {K:W.Frag}{c:Ct}{hid:bF}{ρ:aC}{σ:St}{H:Hp}(h:SR K c hid ρ σ H)(m:Nat):SR K c hid (ρ++List.replicate m .no) (σ++List.replicate m none) H:=by
 have lt: ∀ {i:Nat},Ow (ρ++List.replicate m Sl.no)[i]? ->i<ρ.length:=λ{i} o=>by
  by_cases hi:i<ρ.length
  ·exact hi
  ·rw[List.getElem?_append_right (by omega),List.getElem?_replicate] at o
   split at o<;>exact o.elim
 refine⟨h.tr,h.ht,h.h0,h.kp,h.t0,h.c0,h.m0,by simp[h.len],λi s e=>?_,λi j a n o1 o2 q1 q2=>?_⟩
 ·by_cases hi:i<ρ.length
  ·rw[List.getElem?_append_left hi] at e
   have z:=h.sl i s e
   have es:(σ++List.replicate m none)[i]? =σ[i]? :=List.getElem?_append_left (by rw[h.len];exact hi)
   cases s with
   |no=>trivial
   |v d=>obtain⟨x,h1,h2⟩:=z;exact⟨x,es.trans h1,h2⟩
   |own ds=>obtain⟨a,xs,h1,h2⟩:=z;exact⟨a,xs,es.trans h1,h2⟩
   |arg ds=>obtain⟨a,xs,h1,h2⟩:=z;exact⟨a,xs,es.trans h1,h2⟩
   |ob b=>obtain⟨a,h1,h2⟩:=z;exact⟨a,es.trans h1,h2⟩
  ·rw[List.getElem?_append_right (by omega),List.getElem?_replicate] at e
   split at e
   ·cases e;trivial
   ·cases e
 ·have l1:=lt o1
  have l2:=lt o2
  rw[List.getElem?_append_left l1] at o1;rw[List.getElem?_append_left l2] at o2;rw[List.getElem?_append_left (by rw[h.len];exact l1)] at q1
  rw[List.getElem?_append_left (by rw[h.len];exact l2)] at q2
  exact h.ap i j a n o1 o2 q1 q2
section
variable {X:Cx}{c:Ct}{elt tg iter:Expr}{ifs:List Expr}{scope:Scope}{pos:Pos}{N':List Str}{m:Nat}{ι:Type}{IR:Hp->V->ι->Prop}{gi:aC->Option (List ι)}{g:ι->aC->Option aC}{p:FT}{f:FE}
theorem SR.write {K:W.Frag}{hid:bF}{ρ:aC}{σ:St}{H:Hp}{a:Addr}{o':HO}(h:SR K c hid ρ σ H)(hh:hid a=true)(h0:c.H₀ a=none)(na: ∀i:Nat,Ow ρ[i]? ->σ[i]? ≠some (some (.ref a))){o:HO}(ha:H a=some o)(hm: ∀p u,o≠ .nst p u:=by intro _ _ e;cases e)(hn: ∀xs,o'≠ .tup xs:=by intro _ e;cases e):SR K c hid ρ σ (cw H a o'):=by
 have tr': ∀b o,H b=some o-> ∃o2,(cw H a o') b=some o2:=λb o q=>by
  by_cases e:b=a
  ·subst e;exact⟨_,aY⟩
  ·exact⟨o,by rw[aI e];exact q⟩
 refine⟨λb hb=>let⟨o,q⟩:=h.tr b hb;tr' b o q,λb xs hb q=>by
  by_cases e:b=a
  ·subst e;rw[aY] at q;exact hn _ (Option.some.inj q)
  ·rw[aI e] at q;exact h.ht b xs hb q,h.h0,λb o q m=>?_,λb o q=>let⟨o2,q2⟩:=h.t0 b o q;tr' b o2 q2,h.c0,h.m0,h.len,λi s e=>?_,h.ap⟩
 ·rw[aI (bR q h0)];exact h.kp b o q m
 ·have z:=h.sl i s e
  have ne: ∀a',Ow ρ[i]? ->σ[i]? =some (some (.ref a'))->a'≠a:=λa' o q w=>by subst w;exact na i o q
  cases s with
  |no=>trivial
  |v d=>obtain⟨x,h1,h2⟩:=z;exact⟨x,h1,by rw[gK hh];exact h2⟩
  |own ds=>obtain⟨a',xs,h1,h2,h3,h4,h5⟩:=z;exact⟨a',xs,h1,by rw[aI (ne a' (by rw[e];trivial) h1)];exact h2,h3,h4,by rw[gK hh];exact h5⟩
  |arg ds=>obtain⟨a',xs,h1,h2,h3,h4,h5⟩:=z;exact⟨a',xs,h1,by rw[aI (ne a' (by rw[e];trivial) h1)];exact h2,h3,h4,by rw[gK hh];exact h5⟩
  |ob b=>obtain⟨a',h1,h2⟩:=z;exact⟨a',h1,h2.mono (λow x hx o q=>by rw[aI (hx.ne (ne a' (by rw[e];exact ow) h1) ha hm)];exact q) (by rw[gK hh];exact Same.refl _) λ_ _ _ q=>q⟩
structure CLI(Y:Cx)(K:W.Frag)(c:Ct)(hid:bF)(ρ0:aC)(H W:Hp)(D0:Addr)(fp:List Addr)(tn:Nat->Heap->Prop){ι:Type}(g:ι->aC->Option aC)(p:FT)(f:FE)(ds:List ι)(ys:List D)(n i:Nat)(xs:List V)(ad:List D)(σ':St)(H':Hp)(s':Shared):Prop where
 e:n=ds.length-i
 hi:i<=ds.length
 I:Inv Y [] σ' H' s'
 st:tn i s'.heap
 fr: ∀b∈fp,H' b=none
 sr:SR K c hid ρ0 σ' H'
 sm:Same H H'
 ac:H' D0=some (.lst xs)
 rp:Reps K (vw H' hid) xs ad
 w:Same W (vw H' hid)
 hl:xs.length<=i
 na: ∀i:Nat,Ow ρ0[i]? ->σ'[i]? ≠some (some (.ref D0))
 go: ∃rest,dm g p f ρ0 (ds.drop i)=some rest/\ad++rest=ys
theorem uG(hcalm:X.calm=true)(hT:jP X.N.length g)
 (hg: ∀C s₀ H₀ ex,CO IR (aL X N' scope C s₀ H₀ ex) c tg g) (hp: ∀C s₀ H₀ ex,tL (aL X N' scope C s₀ H₀ ex) c ifs p) (he: ∀C s₀ H₀ ex,DP (aL X N' scope C s₀ H₀ ex) c .s elt f)
 {σ3:St} {H H3:Hp} {s3 s4:Shared} {hid:bF} {ρ:aC} {J:It} {it D0 C:Addr} {fp:List Addr} {tn:Nat->Heap->Prop} {ds:List ι} {ys:List D} {R:Result->Shared->Prop} {W:Hp} (hρ:ρ.length=X.N.length)
 (I:Inv (aL X N' scope C s3 H3 fp) [] σ3 H3 s4) (sr:SR X.K c hid (ρ++List.replicate m .no) σ3 H3) (hh:hid D0=true) (h00:c.H₀ D0=none) (na: ∀i:Nat,Ow (ρ++List.replicate m Sl.no)[i]? ->σ3[i]? ≠some (some (.ref D0))) (hacc:H3 D0=some (.lst [])) (sm:Same H H3) (nD:H D0=none) (wv:Same W (vw H3 hid)) (T:Turn X.prog X.w X.K tg J fp it tn) (st:tn 0 s4.heap) (hF: ∀b∈fp,H3 b=none)
 (io:B8 IR H W J ds) (hz:ds.length<=sizeLine) (hc:dm g p f (ρ++List.replicate m .no) ds=some ys)
 (hR: ∀(s':Shared) (σ':St) (H':Hp) (xs:List V),Inv (aL X N' scope C s3 H3 fp) [] σ' H' s'->Same H H'->H' D0=some (.lst xs)->Reps X.K (vw H' hid) xs ys->R (.ok .next) s'):
 codeAny (model X.prog X.w) X.A (.compLoop (.ListComp elt [⟨tg,iter,ifs,0⟩] scope pos) 0 (.ref it) (.ref D0) (compEnvC scope (mk X.env.cells scope C) C X.env)) R s4:=by
 have stat: ∀ {ae:List (Addr×Obj)} {H':Hp},(∀q∈ae,q.1∉fp)->(∀b∈fp,H' b=none)-> ∀b∈fp,jq (aL X N' scope C s3 H3 fp) ae H' b:=λ{ae H'} hpn hn b hb=>
  ⟨hn b hb,(I.ok.exf b hb).1,I.ok.exfs b hb,.inl hb,(I.ok.exf b hb).2,λq hq e=>hpn q (by have hq':q∈([]:List (Addr×Obj))++ae:=hq;simpa using hq') (by rw[e];exact hb)⟩
 have no: ∀q∈([]:List (Addr×Obj)),q.1∉fp:=λq hq=>nomatch hq
 refine g7 (λn s'=> ∃(i:Nat) (xs:List V) (ad:List D) (σ':St) (H':Hp),CLI (aL X N' scope C s3 H3 fp) X.K c hid (ρ++List.replicate m .no) H W D0 fp tn g p f ds ys n i xs ad σ' H' s') ?_ ds.length
  ⟨0,[],[],σ3,H3,by simp,Nat.zero_le _,I,st,hF,sr,sm,hacc,.nil,wv,Nat.zero_le _,na,ys,by simpa using hc,rfl⟩
 rintro n s5 ⟨i,xs,ad,σ5,H5,rfl,hi,I5,st5,f5,sr5,sm5,ac5,rp5,w5,hl5,na5,rest,hc5,hy5⟩
 have wH:Same W H5:=w5.trans (eT _ _)
 by_cases hlt:i<ds.length
 ·have hd:ds[i]? =some ds[i]:=List.getElem?_eq_getElem hlt
  have e2:ds.drop i=ds[i]::ds.drop (i+1):=List.drop_eq_getElem_cons hlt
  rw[e2] at hc5;unfold dm at hc5;obtain⟨go,yl⟩:=io.1 i ds[i] H5 hd sm5 wH
  refine cI (T.item (aL X N' scope C s3 H3 fp) rfl rfl rfl hcalm i [] s5 σ5 H5 (λ_ _=>False) I5 (stat no f5) st5 go) λr s6 hq_=>?_
  obtain⟨u,hr,h6⟩:=hq_
  subst hr;refine cI h6 λ_ s7 hq_=>?_
  obtain⟨x,H7,I7,r7,y7,st7,f7⟩:=hq_
  obtain⟨s7',rp⟩:=yl x H7 y7
  have rx:=rp hid sr5.tr w5
  have I7':=I7.pinned (stat no f7) (T.obj _ _ st7)
  cases e3:g ds[i] (ρ++List.replicate m .no) with
  |none=>rw[e3] at hc5;cases hc5
  |some ρ1=>
   rw[e3] at hc5;have hc5:(p ρ1).bind (λb=>if b=true then(f ρ1).bind λy=>(dm g p f (ρ++List.replicate m .no) (ds.drop (i+1))).map (y:: ·) else dm g p f (ρ++List.replicate m .no) (ds.drop (i+1)))=some rest:=hc5
   obtain⟨tl1,tl2⟩:=hT _ _ _ e3
   have fg: ∀ {σ':St} {H':Hp},SR X.K c hid ρ1 σ' H'->SR X.K c hid (ρ++List.replicate m .no) σ' H':=λ{σ' H'} z=>z.forget tl1 λj s e=>by
    by_cases hj:j<X.N.length
    ·exact .inr ((tl2 j hj).trans e)
    ·refine .inl ?_
     rw[List.getElem?_append_right (by omega),List.getElem?_replicate] at e
     split at e
     ·cases e;rfl
     ·cases e
   have keepT: ∀ {σ':St} {H':Hp} {s':Shared},Inv (aL X N' scope C s3 H3 fp) ([]++kx fp s7.heap) σ' H' s'->tn (i+1) s'.heap/\ ∀b∈fp,H' b=none:=λ{σ' H' s'} J'=>by
    refine⟨T.keep _ _ _ st7 λb hb o e=>(J'.pin (b,o) (List.mem_append_right _ (List.mem_append_right _ (fe hb e)))).1,λb hb=>?_⟩
    obtain⟨o,e,_⟩:=T.obj _ _ st7 b hb
    exact(J'.pin (b,o) (List.mem_append_right _ (List.mem_append_right _ (fe hb e)))).2.1
   refine cI (hg C s3 H3 fp hid _ ds[i] _ s7 σ5 H7 x u (λσ' H'=>H'=H7/\SR X.K c hid ρ1 σ' H7/\OwK (ρ++List.replicate m .no) ρ1 σ5 σ') I7' r7 ⟨sr5.ext s7',rx,ρ1,e3,λσ' z o=>⟨rfl,z,o⟩⟩) λ_ s8 hq_=>?_
   obtain⟨σ8,H8,I8,e8,q8,o8⟩:=hq_
   subst e8;have na8: ∀i:Nat,Ow (ρ++List.replicate m Sl.no)[i]? ->σ8[i]? ≠some (some (.ref D0)):=λj o=>by
    have o1:Ow ρ1[j]? :=by
     by_cases hj:j<X.N.length
     ·rw[tl2 j hj];exact o
     ·exfalso
      rw[List.getElem?_append_right (by omega),List.getElem?_replicate] at o
      split at o<;>exact o.elim
    rw[(o8 j o1).2];exact na5 j o
   cases e4:p ρ1 with
   |none=>rw[e4] at hc5;cases hc5
   |some b=>
    rw[e4] at hc5;have hc5:(if b=true then(f ρ1).bind λy=>(dm g p f (ρ++List.replicate m .no) (ds.drop (i+1))).map (y:: ·) else dm g p f (ρ++List.replicate m .no) (ds.drop (i+1)))=some rest:=hc5
    refine cI (hp C s3 H3 fp hid ρ1 _ s8 σ8 H8 (λb' H'=>b'=b/\Same H8 H') I8 ⟨q8,b,e4,λH' s'=>⟨rfl,s'⟩⟩) λok s9 hq_=>?_
    obtain⟨H9,I9,e9,sm9⟩:=hq_
    subst e9;have w9:Same (vw H5 hid) (vw H9 hid):=aN (s7'.trans sm9)
    cases ok with
    |false=>
     have hc5:dm g p f (ρ++List.replicate m .no) (ds.drop (i+1))=some rest:=hc5
     obtain⟨k1,k2⟩:=keepT I9
     exact⟨ds.length- (i+1),by omega,i+1,xs,ad,σ8,H9,rfl,hlt,I9.unpinned,k1,k2,fg (q8.ext sm9),sm5.trans (s7'.trans sm9),sm9 _ _ (s7' _ _ ac5),rp5.mono w9,w5.trans w9,by omega,na8,rest,hc5,hy5⟩
    |true=>
     have hc5:((f ρ1).bind λy=>(dm g p f (ρ++List.replicate m .no) (ds.drop (i+1))).map (y:: ·))=some rest:=hc5
     cases e5:f ρ1 with
     |none=>rw[e5] at hc5;cases hc5
     |some y=>
      rw[e5] at hc5;have hc5:(dm g p f (ρ++List.replicate m .no) (ds.drop (i+1))).map (y:: ·)=some rest:=hc5
      cases e6:dm g p f (ρ++List.replicate m .no) (ds.drop (i+1)) with
      |none=>rw[e6] at hc5;cases hc5
      |some rest'=>
       rw[e6] at hc5;cases hc5
       show wpAny (model X.prog X.w) X.A (eval elt _) _ _ s9;refine cI (he C s3 H3 fp hid ρ1 _ s9 σ8 H9 (λv H'=>Same H9 H'/\Rep X.K (vw H' hid) v y) I9 ⟨q8.ext sm9,y,e5,λv H' s' r=>⟨s',r⟩⟩) λv s10 hq_=>?_
       obtain⟨z,H10,I10,rz,sm10,rp10⟩:=hq_
       have sm':Same H5 H10:=s7'.trans (sm9.trans sm10)
       have a10:H10 D0=some (.lst xs):=sm' _ _ ac5
       refine cI (eY (X:=aL X N' scope C s3 H3 fp) _ s10 σ8 H10 (.ref D0) [z] (.ref D0) [v] (λ_ H'=>H'=cw H10 D0 (.lst (xs++[z]))) I10 rfl (.cons rz .nil) ⟨D0,xs,z,rfl,rfl,a10,by omega,rfl⟩) λ_ s11 ⟨_,H11,I11,_,e11⟩=>?_
       subst e11;obtain⟨k1,k2⟩:=keepT I11
       have vv:vw (cw H10 D0 (.lst (xs++[z]))) hid=vw H10 hid:=gK hh
       have w10:Same (vw H5 hid) (vw H10 hid):=aN sm'
       refine⟨ds.length- (i+1),by omega,i+1,xs++[z],ad++[y],σ8,_,rfl,hlt,I11.unpinned,k1,k2,?_,λb o e=>?_,aY,?_,?_,by simp;omega,na8,rest',e6,by rw[<-hy5];simp⟩
       ·
        have q10:=fg ((q8.ext sm9).ext sm10)
        exact q10.write hh h00 na8 a10
       ·rw[aI (bR e nD)];exact sm' _ _ (sm5 _ _ e)
       ·rw[vv];exact(rp5.mono w10).append (.cons rp10 .nil)
       ·rw[vv];exact w5.trans w10
 ·have e:i=ds.length:=by omega
  subst e;rw[List.drop_eq_nil_of_le (Nat.le_refl _)] at hc5;cases hc5
  rw[List.append_nil] at hy5;subst hy5;refine cI (T.done (aL X N' scope C s3 H3 fp) rfl rfl rfl hcalm ds.length [] s5 σ5 H5 (λ_ _=>False) I5 (stat no f5) st5 (io.2 H5 sm5 wH)) λr s6 hq_=>?_
  obtain⟨hr,I6⟩:=hq_
  subst hr;exact hR s6 σ5 H5 xs I6 sm5 ac5 rp5
theorem mO(hcalm:X.calm=true)(hk:scope.kind=.function)(hs:u0 scope X.env.scope=true)(hn:u3 X.N N' scope=true)(hm:N'.length-X.N.length=m)(hT:jP X.N.length g)
 (hg: ∀C s₀ H₀ ex,CO IR (aL X N' scope C s₀ H₀ ex) c tg g) (hp: ∀C s₀ H₀ ex,tL (aL X N' scope C s₀ H₀ ex) c ifs p) (he: ∀C s₀ H₀ ex,DP (aL X N' scope C s₀ H₀ ex) c .s elt f)
 {E:Value->Shared->Prop} {ae:List (Addr×Obj)} {σ:St} {H:Hp} {s:Shared} {hid:bF} {ρ:aC} {J:It} {it:Addr} {fp:List Addr} {tn:Nat->Heap->Prop} {ds:List ι} {ys:List D} {RR:Value->Addr->Result->Shared->Prop}
 (I:Inv X ae σ H s) (sr:SR X.K c hid ρ σ H) (T:Turn X.prog X.w X.K tg J fp it tn) (st:tn 0 s.heap) (hF: ∀b∈fp,jq X ae H b) (io:B8 IR H (vw H hid) J ds) (hz:ds.length<=sizeLine) (hc:dm g p f (ρ++List.replicate m .no) ds=some ys)
 (hR: ∀(D C:Addr) (s':Shared) (H':Hp) (xs:List V),s.heap.objs.size<=D->s.heap.objs.size<=C->D≠C->H D=none->Same H H'->H' D=some (.lst xs)->Reps X.K (vw H' (cH hid D)) xs ys->(∃m,s'.heap.Ns C m)->H' C=none->s'.os=s.os->AllBare s'.gens->HOk X.prog X.w H' s'.heap->Un (frs X.stack) fp H H' s.heap s'.heap->RR (.ref D) C (.ok .next) s'):
 wpAny (model X.prog X.w) X.A (newList []) (λacc s₃=>wpAny (model X.prog X.w) X.A (newFunctionEnv scope X.env.globals (pi X.env.cells scope.names []) [] X.env.qual none .none (some X.env)) (λcenv s₄=>
  codeAny (model X.prog X.w) X.A (.compStart (.ListComp elt [⟨tg,iter,ifs,0⟩] scope pos) 0 (.ref it) acc {cenv with scope:=relabel scope X.env}) (RR acc cenv.locals) s₄) E s₃) E s:=by
 refine wpAny_newObj_type (tf λh₁ hns₁ kp1 oc₁=>?_)
 dsimp only at hns₁ kp1 oc₁⊢
 generalize hH2:s.heap.push {cls:=.type "list",dict:=none,data:=.seq ([]:List Value).toArray}=H2 at hns₁ kp1 oc₁⊢
 have hC:H2.objs.size=s.heap.objs.size+1:=by rw[<-hH2,Heap.size_push]
 have hD:H s.heap.objs.size=none:=I.hok.fresh (Nat.le_refl _)
 have I2:Inv X ae σ (cw H s.heap.objs.size (.lst [])) {s with heap:=H2}:=by
  rw[<-hH2];exact I.laid (t':=s.toks) (λb o e=>Heap.get?_push_of_some _ e) (Nat.le_refl _) ⟨Nat.zero_le _,[],0,.nil,Heap.get?_push_size _ rfl⟩
 have fpLt: ∀b∈fp,b<s.heap.objs.size:=λb hb=>let⟨o,e,_⟩:=T.obj 0 s.heap st b hb;Heap.lt_size e
 have hF2: ∀b∈fp,jq X ae (cw H s.heap.objs.size (.lst [])) b:=λb hb=>⟨by rw[aI (Nat.ne_of_lt (fpLt b hb))];exact(hF b hb).1,(hF b hb).2⟩
 have kp0: ∀b o,s.heap.get? b=some o->H2.get? b=some o:=λb o e=>by rw[<-hH2];exact Heap.get?_push_of_some _ e
 have IY:=pG (tk:=s.toks) (N':=N') (fp:=fp) I2 hF2 (λb hb=>let⟨o,e,_⟩:=T.obj 0 s.heap st b hb;⟨o,kp0 b o e⟩) hk hs hn hns₁ kp1 oc₁
 rw[hm] at IY;dsimp only at IY;have sr0:SR X.K c (cH hid s.heap.objs.size) (ρ++List.replicate m .no) (σ++List.replicate m none) (cw H s.heap.objs.size (.lst [])):=(sr.hide (bd hD _) hD aY).more m
 have hρ:ρ.length=X.N.length:=by rw[<-sr.len];exact I.len
 have nf:hid s.heap.objs.size=false:=sr.fresh hD
 have st1:tn 0 h₁:=T.keep _ _ _ st λb hb o e=>kp1 b o (kp0 b o e)
 have na0: ∀i:Nat,Ow (ρ++List.replicate m Sl.no)[i]? ->(σ++List.replicate m none)[i]? ≠some (some (V.ref s.heap.objs.size)):=(sr.more m).notOw nf
 have wv:Same (vw H hid) (vw (cw H s.heap.objs.size (.lst [])) (cH hid s.heap.objs.size)):=by rw[rS hD];exact Same.refl _
 have loop: ∀s4:Shared,s4={s with heap:=h₁,toks:=s.toks}->
  codeAny (model X.prog X.w) X.A (.compLoop (.ListComp elt [⟨tg,iter,ifs,0⟩] scope pos) 0 (.ref it) (.ref s.heap.objs.size) (compEnvC scope (mk X.env.cells scope H2.objs.size) H2.objs.size X.env)) (RR (.ref s.heap.objs.size) H2.objs.size) s4:=by
  rintro s4 rfl
  refine uG (H:=H) (hid:=cH hid s.heap.objs.size) (W:=vw H hid) hcalm hT hg hp he hρ IY sr0 jk (sr.fresh0 hD) na0 aY (bd hD _) hD wv T st1 (λb hb=>(hF2 b hb).1) io hz hc ?_
  intro s' σ' H' xs I' sm' hx' rp';have un1:Un (frs X.stack) fp H (cw H s.heap.objs.size (.lst [])) s.heap H2:=Un.laid (λb o e=>kp0 b o e) (Nat.le_refl _) hD
  refine hR s.heap.objs.size H2.objs.size s' H' xs (Nat.le_refl _) (by rw[hC];exact Nat.le_succ _) (by rw[hC];exact Nat.ne_of_lt (Nat.lt_succ_self _)) hD sm' hx' rp' (let⟨m,hm,_⟩:=I'.loc;⟨m,hm⟩) I'.free I'.os I'.bare I'.hok (un1.trans I'.base)
 exact codeAny_compStart_list (loop _ rfl) (T.self X.A 0 _ _ _ st1 (loop _ rfl))
theorem gB(hcalm:X.calm=true)(hT:jP X.N.length g)(hi:D7 IR X c tg iter gi)
 (hg: ∀C s₀ H₀ ex,CO IR (aL X N' scope C s₀ H₀ ex) c tg g) (hp: ∀C s₀ H₀ ex,tL (aL X N' scope C s₀ H₀ ex) c ifs p) (he: ∀C s₀ H₀ ex,DP (aL X N' scope C s₀ H₀ ex) c .s elt f)
 (hk:scope.kind=.function:=by rfl) (hs:u0 scope X.env.scope=true:=by kernel_rfl) (hn:u3 X.N N' scope=true:=by kernel_rfl) (hm:N'.length-X.N.length=m:=by rfl) (hset: ∀x,foldedSetIterable iter X.env x=pure x:=by intro _;rfl):
 DP X c .n (.ListComp elt [⟨tg,iter,ifs,0⟩] scope pos) (bu m gi g p f):=by
 intro hid ρ ae s σ H Q I hq;obtain⟨sr,d,hd,q⟩:=hq
 obtain⟨ds,ys,e1,hz,hc,rfl⟩:=lN hd
 rw[eval_ListComp];refine wpAny_comprehension_free (use:=none) rfl hset (gg λx hx=>I.ok.has x (iL hs x hx)) hk (kK hs) ?_
 refine cI (hi hid ρ ae s σ H (λJ H'=>Same H H'/\B8 IR H' (vw H' hid) J ds) I ⟨sr,ds,e1,λJ H' s1 io=>⟨s1,io⟩⟩) λv s1 h1=>cI h1 λitv s2 h2=>?_
 obtain⟨it,fp,tn,J,H2,rfl,I2,T,st2,f2,sm,io⟩:=h2
 refine mO (RR:=λacc C=>compPost (model X.prog X.w) X.A X.xe none (EP X ae σ Q) acc C) hcalm hk hs hn hm hT hg hp he I2 (sr.ext sm) T st2 f2 io hz hc ?_
 intro D C s' H' xs hDge hCge hDC hD sm' hx rp ⟨mm,hns⟩ hC' hos hbare hok hun;refine⟨mm,hns,λh' hsb=>⟨.ref D,H',?_,rfl,q _ H' (sm.trans sm') ⟨D,xs,ys,rfl,rfl,sm.free hD,hx,rp⟩⟩⟩
 have neC: ∀b o,s2.heap.get? b=some o->b≠C:=λb o e z=>by subst z;exact absurd (Heap.lt_size e) (Nat.not_lt.mpr hCge)
 have hun':Un (frs X.stack) fp H2 H' s2.heap h':=⟨λb o e n h1 h2=>(hsb.2 b (neC b o e)).trans (hun.keep b o e n h1 h2),λb o e n h1 h2=>let⟨sl,z⟩:=hun.slot b o e n h1 h2;⟨sl,(hsb.2 b (neC b o e)).trans z⟩,hun.free,λb o e h2=>let⟨o',z⟩:=hun.there b o e h2;⟨o',(hsb.2 b (neC b o e)).trans z⟩,hun.tups,hun.frzs,hun.tbls⟩
 have hok':HOk X.prog X.w H' h':=λb o e=>by
  have nb: ∀b' o',H' b'=some o'->b'≠C:=λb' o' e' z=>by subst z;rw[hC'] at e';cases e'
  refine(hok b o e).stay (λc' u hc' z=>(hsb.2 c' ?_).trans z) (λ_ z=>z) λ_ _ z=>z
  rcases hc' with z'|z'
  ·rw[z'];exact nb b o e
  ·exact nb c' _ z'
 exact I2.call' (s':={s' with heap:=h'}) (ch:=fp) hos hun' hok' hbare λb hb=>⟨(f2 b hb).2.2.2.1,(f2 b hb).2.1,(f2 b hb).2.2.2.2.1,(f2 b hb).2.2.2.2.2⟩
end
section
variable {X:Cx}{c:Ct}{elt tg iter:Expr}{ifs:List Expr}{scope:Scope}{pos spos py:Pos}{N':List Str}{m:Nat}{gi:FA}{g:FG}{p:FT}{f:FE}{y:Str}
theorem tI(i:Nat)(hcalm:X.calm=true)(hN:X.N.Nodup)(hT:jP X.N.length g)(hi:Bf X c tg iter gi)
 (hg: ∀C s₀ H₀ ex,sH (aL X N' scope C s₀ H₀ ex) c tg g) (hp: ∀C s₀ H₀ ex,tL (aL X N' scope C s₀ H₀ ex) c ifs p) (he: ∀C s₀ H₀ ex,DP (aL X N' scope C s₀ H₀ ex) c .s elt f)
 (hsw:swapsWith (.ListComp elt [⟨tg,iter,ifs,0⟩] scope pos) (some (.Name y py)) spos.line X.env=pure true) (hyi:X.N[i]? =some y) (hy:X.env.scope.names.lookup y=some .local)
 (hk:scope.kind=.function) (hs:u0 scope X.env.scope=true) (hn:u3 X.N N' scope=true) (hm:N'.length-X.N.length=m) (hset: ∀x,foldedSetIterable iter X.env x=pure x) (ρ:aC):
 PS X (.Assign [.Name y py] (.ListComp elt [⟨tg,iter,ifs,0⟩] scope pos) spos) (zY (λσ H Q=> ∃hid,wb X.K c hid .n (bu m gi g p f) ρ σ H Q) (vx i)):=by
 intro ae s σ H E I hq;obtain⟨hid,sr,d,hd,q⟩:=hq
 obtain⟨ds,ys,e1,hz,hc,rfl⟩:=lN hd
 rw[exec_Assign_Name_used _ _ _ _ hsw];refine wpAny_bind (wpAny_standAt (wpAny_bind ?_))
 show wpAny _ X.A (do let _ <-comprehension (.ListComp elt [⟨tg,iter,ifs,0⟩] scope pos) scope X.env _ (newList []) false (eval iter X.env) (some (assign (.Name y py) X.env))) _ _ s
 refine wpAny_bind (wpAny_mono (wpAny_comprehension_free (use:=some (assign (.Name y py) X.env)) (Q:=λ_ s'=>SP X ae E .next s') rfl hset (gg λx hx=>I.ok.has x (iL hs x hx)) hk (kK hs) ?_) (λ_ s' hq=>wpAny_pure (wpAny_pure hq)) λ_ _ e=>e)
 refine cI (hi hid ρ ae s σ H (λJ H'=>Same H H'/\B9 X.K H' (vw H' hid) J ds) I ⟨sr,ds,e1,λJ H' s1 io=>⟨s1,io⟩⟩) λv s1 h1=>cI h1 λitv s2 h2=>?_
 obtain⟨it,fp,tn,J,H2,rfl,I2,T,st2,f2,sm,io⟩:=h2
 refine mO (IR:=Rep X.K) (RR:=λacc C=>compPost (model X.prog X.w) X.A X.xe (some (assign (.Name y py) X.env)) (λ_ s'=>SP X ae E .next s') acc C) hcalm hk hs hn hm hT hg hp he I2 (sr.ext sm) T st2 f2 io hz hc ?_
 intro D C s' H' xs hDge hCge hDC hD sm' hx rp ⟨mm,hns⟩ hC' hos hbare hok hun;have I3:Inv X ae σ H' s':=I2.call' (ch:=fp) hos hun hok hbare λb hb=>⟨(f2 b hb).2.2.2.1,(f2 b hb).2.1,(f2 b hb).2.2.2.2.1,(f2 b hb).2.2.2.2.2⟩
 have fin:=q _ H' (sm.trans sm') ⟨D,xs,ys,rfl,rfl,sm.free hD,hx,rp⟩
 have ltC: ∀b o,s2.heap.get? b=some o->b≠C:=λb o e z=>by subst z;exact absurd (Heap.lt_size e) (Nat.not_lt.mpr hCge)
 have hLC:C≠X.env.locals:=λz=>by
  have:=I2.lt
  rw[<-z] at this;exact absurd this (Nat.not_lt.mpr hCge)
 show wpAny _ X.A (assign (.Name y py) X.env (.ref D)) _ _ s';refine wpAny_assign_Name (nH (v:=.ref D) I3 hN hyi (.inl hy) rfl (λs'' I4 hb=>?_) (.inr hy))
 obtain⟨a,hsb,ha⟩:=hb
 have hCa:C≠a:=by
  rcases ha with rfl|ha
  ·exact hLC
  ·obtain⟨w',o,ho,_⟩:=I2.cell y a ha
   exact λz=>ltC a o ho z.symm
 refine⟨mm,hns.sameBut hsb hCa,λh3 hs3=>⟨_,H',?_,fin⟩⟩
 refine I4.turned (t':=s''.toks) (it:=C) (λb o nb e=>(hs3.2 b nb).trans e) hC' hLC (.inr (Nat.le_trans I2.sz hCge)) (λx c' e z=>?_) (λq hq z=>?_)
 ·obtain⟨w',o,ho,_⟩:=I2.cell x c' e
  exact ltC c' o ho z
 ·exact ltC q.1 q.2 (I2.pin q hq).1 z
theorem o6(i:Nat){k:Kd}(hcalm:X.calm=true)(hN:X.N.Nodup)(hT:jP X.N.length g)(hi:Bf X c tg iter gi)
 (hg: ∀C s₀ H₀ ex,sH (aL X N' scope C s₀ H₀ ex) c tg g) (hp: ∀C s₀ H₀ ex,tL (aL X N' scope C s₀ H₀ ex) c ifs p) (he: ∀C s₀ H₀ ex,DP (aL X N' scope C s₀ H₀ ex) c .s elt f)
 (hsw:swapsWith (.ListComp elt [⟨tg,iter,ifs,0⟩] scope pos) (some (.Name y py)) spos.line X.env=pure true:=by rfl) (hyi:X.N[i]? =some y:=by rfl) (hy:X.env.scope.names.lookup y=some .local:=by rfl)
 (hk:scope.kind=.function:=by rfl) (hs:u0 scope X.env.scope=true:=by kernel_rfl) (hn:u3 X.N N' scope=true:=by kernel_rfl) (hm:N'.length-X.N.length=m:=by rfl) (hset: ∀x,foldedSetIterable iter X.env x=pure x:=by intro _;rfl):
 DS X c k (.Assign [.Name y py] (.ListComp elt [⟨tg,iter,ifs,0⟩] scope pos) spos) (eI i (bu m gi g p f)):=λρ=>PS.imp (tI i hcalm hN hT hi hg hp he hsw hyi hy hk hs hn hm hset ρ) λD σ H hq_=>by
 obtain⟨hid,sr,q⟩:=hq_
 unfold eI at q;cases e1:bu m gi g p f ρ with
 |none=>rw[e1] at q;exact q.elim
 |some z=>
  rw[e1] at q;exact⟨hid,sr,z,e1,λv H' s r=>AJ (sr.post s r (by decide)) q⟩
theorem sJ(i:Nat){k:Kd}(hcalm:X.calm=true)(hN:X.N.Nodup)(hT:jP X.N.length g)(hi:Bf X c tg iter gi)
 (hg: ∀C s₀ H₀ ex,sH (aL X N' scope C s₀ H₀ ex) c tg g) (hp: ∀C s₀ H₀ ex,tL (aL X N' scope C s₀ H₀ ex) c ifs p) (he: ∀C s₀ H₀ ex,DP (aL X N' scope C s₀ H₀ ex) c .s elt f)
 (hsw:swapsWith (.ListComp elt [⟨tg,iter,ifs,0⟩] scope pos) (some (.Name y py)) spos.line X.env=pure true:=by rfl) (hyi:X.N[i]? =some y:=by rfl) (hy:X.env.scope.names.lookup y=some .local:=by rfl)
 (hk:scope.kind=.function:=by rfl) (hs:u0 scope X.env.scope=true:=by kernel_rfl) (hn:u3 X.N N' scope=true:=by kernel_rfl) (hm:N'.length-X.N.length=m:=by rfl) (hset: ∀x,foldedSetIterable iter X.env x=pure x:=by intro _;rfl):
 DS X c k (.Assign [.Name y py] (.ListComp elt [⟨tg,iter,ifs,0⟩] scope pos) spos) (aS i (bu m gi g p f)):=λρ=>PS.imp (tI i hcalm hN hT hi hg hp he hsw hyi hy hk hs hn hm hset ρ) λD σ H hq_=>by
 obtain⟨hid,sr,q⟩:=hq_
 unfold aS at q;cases e1:bu m gi g p f ρ with
 |none=>rw[e1] at q;exact q.elim
 |some z=>
  rw[e1] at q;exact⟨hid,sr,z,e1,λv H' s r=>q _ H' hid ((sr.ext s).setV (RN.rep r λa n=>sr.fresh n) i) (aN s)⟩
end
mutual
def cu:D->D->Bool
 | .non,.non=>true
 | .bl a,.bl b=>a==b
 | .bl a,.int b=>(if a then 1 else 0)==b
 | .int a,.bl b=>a==(if b then 1 else 0)
 | .int a,.int b=>a==b
 | .str a,.str b=>a==b
 | .tup a,.tup b=>dI a b
 | .lst a,.lst b=>dI a b
 | .lst a,.scr b=>dI a b
 | .scr a,.lst b=>dI a b
 | .scr a,.scr b=>dI a b
 |_,_=>false
def dI:List D->List D->Bool
 | [],[]=>true
 |x::xs,y::ys=>cu x y&&dI xs ys
 |_,_=>false
end
mutual
def dY:D->Nat
 | .tup a=>ck a+1
 | .lst a=>ck a+1
 | .scr _=>cLine
 |_=>0
def ck:List D->Nat
 | []=>0
 |x::xs=>max (dY x) (ck xs)
end
theorem j9: ∀ {xs:List D} {i:Nat} {d:D},xs[i]? =some d->dY d<=ck xs
 | [],_,_,h=>by simp at h
 |x::xs,0,d,h=>by simp at h;subst h;unfold ck;exact Nat.le_max_left _ _
 |x::xs,i+1,d,h=>by
  have:=j9 (xs:=xs) (i:=i) (d:=d) (by simpa using h)
  unfold ck;exact Nat.le_trans this (Nat.le_max_right _ _)
mutual
theorem lS: ∀x:D,cu x x=true
 | .non=>by unfold cu;rfl
 | .bl a=>by unfold cu;simp
 | .int a=>by unfold cu;simp
 | .str a=>by unfold cu;simp
 | .tup a=>by unfold cu;exact i8 a
 | .lst a=>by unfold cu;exact i8 a
 | .scr a=>by unfold cu;exact i8 a
theorem i8: ∀x:List D,dI x x=true
 | []=>by unfold dI;rfl
 |x::xs=>by unfold dI;rw[lS x,i8 xs];rfl
end
def jt(xs ys:List D)(j:Nat):Bool:=match xs[j]?,ys[j]? with
 |some x,some y=>cu x y
 |_,_=>false
theorem nN {xs ys:List D}(h:xs.length=ys.length):(List.range xs.length).all (jt xs ys)=dI xs ys:=by
 induction xs generalizing ys with
 |nil=>
  cases ys with
  |nil=>unfold dI;rfl
  |cons y ys=>simp at h
 |cons x xs ih=>
  cases ys with
  |nil=>simp at h
  |cons y ys=>
   rw[List.length_cons,List.range_succ_eq_map,List.all_cons,List.all_map];have e0:jt (x::xs) (y::ys) 0=cu x y:=rfl
   have e1:((jt (x::xs) (y::ys))∘Nat.succ)=jt xs ys:=by funext j;simp[jt]
   rw[e0,e1,ih (by simpa using h)]
   conv=>rhs;unfold dI
theorem lF: ∀ {xs ys:List D},xs.length≠ys.length->dI xs ys=false
 | [],[],h=>absurd rfl h
 | [],_::_,_=>by unfold dI;rfl
 |_::_,[],_=>by unfold dI;rfl
 |x::xs,y::ys,h=>by unfold dI;rw[lF (xs:=xs) (ys:=ys) (by simpa using h)];simp
section
variable {X:Cx}{ae:List (Addr×Obj)}{σ:St}{H:Hp}{s:Shared}
theorem fD(I:Inv X ae σ H s){a:Addr}{xs ys:List V}(h:SqL X.K H a xs)(h':SqT X.K H a ys):False:=by
 obtain⟨its,_,pl,_⟩:=I.list h
 obtain⟨its',_,pt,_⟩:=I.tuple h'
 exact SeqAt.ne_of_list_tuple pl.isList pt rfl
theorem Bb {a b:List D}(h: ∀zs,dI a zs=dI b zs):(∀z,cu (.tup a) z=cu (.tup b) z)/\(∀z,cu (.lst a) z=cu (.lst b) z)/\ ∀z,cu (.scr a) z=cu (.lst b) z:=by
 refine⟨λz=>?_,λz=>?_,λz=>?_⟩<;>cases z<;>unfold cu<;>first|exact h _|rfl
theorem BV {b:List D}: ∀z,cu (.scr b) z=cu (.lst b) z:=(Bb λ_=>rfl).2.2
mutual
theorem Rep.eqv(I:Inv X ae σ H s): ∀ {v:V} {x y:D},Rep X.K H v x->Rep X.K H v y-> ∀z,cu x z=cu y z
 |_,_,_,.non,.non=>λ_=>rfl
 |_,_,_,.bl,.bl=>λ_=>rfl
 |_,_,_,.int,.int=>λ_=>rfl
 |_,_,_,.str,.str=>λ_=>rfl
 |_,_,_,.tup h r,.tup h' r'=>by rw[I.tuple_inj h h'] at r;exact(Bb (Reps.eqv I r r')).1
 |_,_,_,.lst h r,.lst h' r'=>by rw[I.list_inj (SqL.of h) (SqL.of h')] at r;exact(Bb (Reps.eqv I r r')).2.1
 |_,_,_,.lst h r,.scr h' r'=>by rw[I.list_inj (SqL.of h) h'.seq] at r;exact λz=>((Bb (Reps.eqv I r r')).2.1 z).trans (BV z).symm
 |_,_,_,.scr h r,.lst h' r'=>by rw[I.list_inj h.seq (SqL.of h')] at r;exact(Bb (Reps.eqv I r r')).2.2
 |_,_,_,.scr h r,.scr h' r'=>by rw[I.list_inj h.seq h'.seq] at r;exact λz=>((Bb (Reps.eqv I r r')).2.2 z).trans (BV z).symm
 |_,_,_,.tup h r,.lst h' r'=>(fD I (SqL.of h') h).elim
 |_,_,_,.lst h r,.tup h' r'=>(fD I (SqL.of h) h').elim
 |_,_,_,.tup h r,.scr h' r'=>(fD I h'.seq h).elim
 |_,_,_,.scr h r,.tup h' r'=>(fD I h.seq h').elim
theorem Reps.eqv(I:Inv X ae σ H s): ∀ {v:List V} {x y:List D},Reps X.K H v x->Reps X.K H v y-> ∀z,dI x z=dI y z
 |_,_,_,.nil,.nil=>λ_=>rfl
 |_,_,_,.cons r t,.cons r' t'=>λz=>by
  cases z with
  |nil=>unfold dI;rfl
  |cons w ws=>unfold dI;rw[Rep.eqv I r r' w,Reps.eqv I t t' ws]
end
theorem aE(I:Inv X ae σ H s){a:Addr}{xs:List V}{ds:List D}(h:SqL X.K H a xs)(r:Reps X.K H xs ds): ∃its:List Value,s.heap.IsList a its.toArray/\its.length=ds.length/\ ∀(j:Nat) (hj:j<its.length),∃(v:V) (d:D),ds[j]? =some d/\RelV v its[j]/\Rep X.K H v d:=by
 obtain⟨its,rv,pl,_⟩:=I.list h
 have h1:=rv.length
 have h2:=r.length
 refine⟨its,pl.isList,by omega,λj hj=>?_⟩
 have e:xs[j]? =some xs[j]:=List.getElem?_eq_getElem (by omega)
 obtain⟨u,e1,r1⟩:=rv.get e
 obtain⟨d,e2,r2⟩:=r.get' e
 have:its[j]=u:=by rw[List.getElem?_eq_getElem hj] at e1;exact Option.some.inj e1
 rw[this];exact⟨xs[j],d,e2,r1,r2⟩
theorem bM(I:Inv X ae σ H s){a:Addr}{xs:List V}{ds:List D}(h:SqT X.K H a xs)(r:Reps X.K H xs ds): ∃its:List Value,s.heap.IsTuple a its.toArray/\its.length=ds.length/\ ∀(j:Nat) (hj:j<its.length),∃(v:V) (d:D),ds[j]? =some d/\RelV v its[j]/\Rep X.K H v d:=by
 obtain⟨its,rv,pl,_⟩:=I.tuple h
 have h1:=rv.length
 have h2:=r.length
 refine⟨its,pl,by omega,λj hj=>?_⟩
 have e:xs[j]? =some xs[j]:=List.getElem?_eq_getElem (by omega)
 obtain⟨u,e1,r1⟩:=rv.get e
 obtain⟨d,e2,r2⟩:=r.get' e
 have:its[j]=u:=by rw[List.getElem?_eq_getElem hj] at e1;exact Option.some.inj e1
 rw[this];exact⟨xs[j],d,e2,r1,r2⟩
end
section
variable {X:Cx}{ae:List (Addr×Obj)}{σ:St}{H:Hp}{s:Shared}
theorem cT(A:Around):A.in1.units=A.units+1:=rfl
theorem yX {A:Around}{n:Nat}(IH: ∀ {x y:D} {v u:V} {a b:Value} {A:Around},dY x<n->A.units+dY x<cLine->RelV v a->RelV u b->Rep X.K H v x->Rep X.K H u y->SeqAt.EqAt A s a b (cu x y)){xs ys:List D}{its its2:List Value}(hd:ck xs<n)(hu:A.units+ck xs<cLine)
 (g1: ∀(j:Nat) (hj:j<its.length),∃(v:V) (d:D),xs[j]? =some d/\RelV v its[j]/\Rep X.K H v d) (g2: ∀(j:Nat) (hj:j<its2.length),∃(v:V) (d:D),ys[j]? =some d/\RelV v its2[j]/\Rep X.K H v d):
 ∀j (h1:j<its.toArray.size) (h2:j<its2.toArray.size),SeqAt.EqAt A s its.toArray[j] its2.toArray[j] (jt xs ys j):=λj h1 h2=>by
 obtain⟨v,d,e1,r1,p1⟩:=g1 j (by simpa using h1)
 obtain⟨u,d',e2,r2,p2⟩:=g2 j (by simpa using h2)
 have ez:jt xs ys j=cu d d':=by unfold jt;rw[e1,e2]
 rw[ez];have hdd:=j9 e1
 exact IH (by omega) (by omega) (by simpa using r1) (by simpa using r2) p1 p2
theorem i7(I:Inv X ae σ H s){A:Around}{n:Nat}(IH: ∀ {x y:D} {v u:V} {a b:Value} {A:Around},dY x<n->A.units+dY x<cLine->RelV v a->RelV u b->Rep X.K H v x->Rep X.K H u y->SeqAt.EqAt A s a b (cu x y)){xs ys:List D}{zs ws:List V}{a b:Addr}(hd:ck xs<n)(hu:A.units+(ck xs+1)<cLine)
 (h1:SqL X.K H a zs) (r1:Reps X.K H zs xs) (h2:SqL X.K H b ws) (r2:Reps X.K H ws ys):SeqAt.RcAt A s (.ref a) (.ref b) (dI xs ys)/\SeqAt.RcNeAt A s (.ref a) (.ref b) (!dI xs ys):=by
 obtain⟨its,l1,n1,g1⟩:=aE I h1 r1
 obtain⟨its2,l2,n2,g2⟩:=aE I h2 r2
 by_cases e:xs.length=ys.length
 ·have hsz:its.toArray.size=its2.toArray.size:=by simp;omega
  have he:=yX (A:=A.in1) IH hd (by rw[cT];omega) g1 g2
  have ea:(List.range its.toArray.size).all (jt xs ys)=dI xs ys:=by rw[List.size_toArray,n1];exact nN e
  rw[<-ea];exact⟨SeqAt.RcAt.lists l1 l2 hsz (by omega) he,SeqAt.RcNeAt.lists l1 l2 hsz (by omega) he⟩
 ·rw[lF e]
  have hsz:(its.toArray.size !=its2.toArray.size)=true:=by simp;omega
  exact⟨SeqAt.RcAt.lists_lengths l1 l2 hsz (by omega),SeqAt.RcNeAt.lists_lengths l1 l2 hsz (by omega)⟩
theorem su(I:Inv X ae σ H s){A:Around}{n:Nat}(IH: ∀ {x y:D} {v u:V} {a b:Value} {A:Around},dY x<n->A.units+dY x<cLine->RelV v a->RelV u b->Rep X.K H v x->Rep X.K H u y->SeqAt.EqAt A s a b (cu x y)){xs ys:List D}{zs ws:List V}{a b:Addr}(hd:ck xs<n)(hu:A.units+(ck xs+1)<cLine)
 (h1:SqT X.K H a zs) (r1:Reps X.K H zs xs) (h2:SqT X.K H b ws) (r2:Reps X.K H ws ys):SeqAt.RcAt A s (.ref a) (.ref b) (dI xs ys)/\SeqAt.RcNeAt A s (.ref a) (.ref b) (!dI xs ys):=by
 obtain⟨its,l1,n1,g1⟩:=bM I h1 r1
 obtain⟨its2,l2,n2,g2⟩:=bM I h2 r2
 have he:=yX (A:=A.in1) IH hd (by rw[cT];omega) g1 g2
 have ea:((List.range (min its.toArray.size its2.toArray.size)).all (jt xs ys)&&its.toArray.size==its2.toArray.size)=dI xs ys:=by
  rw[List.size_toArray,List.size_toArray,n1,n2]
  by_cases e:xs.length=ys.length
  ·rw[<-e,Nat.min_self,nN e];simp
  ·rw[lF e];simp[e]
 rw[<-ea];exact⟨SeqAt.RcAt.tuples l1 l2 (by omega) he,SeqAt.RcNeAt.tuples l1 l2 (by omega) he⟩
theorem kI(I:Inv X ae σ H s){A:Around}{a b:Addr}{x y:D}(r1:Rep X.K H (.ref a) x)(r2:Rep X.K H (.ref b) y)(e:a=b):SeqAt.EqAt A s (.ref a) (.ref b) (cu x y):=by
 subst e;rw[Rep.eqv I r1 r2,lS];exact SeqAt.EqAt.same _
theorem A6(I:Inv X ae σ H s){n:Nat}(IH: ∀ {x y:D} {v u:V} {a b:Value} {A:Around},dY x<n->A.units+dY x<cLine->RelV v a->RelV u b->Rep X.K H v x->Rep X.K H u y->SeqAt.EqAt A s a b (cu x y)){x y:D}{v u:V}{a b:Value}{A:Around}(hd:dY x<n+1)(hu:A.units+dY x<cLine)(hc:A.units<cLine)
 (ra:RelV v a) (rb:RelV u b) (px:Rep X.K H v x) (py:Rep X.K H u y):SeqAt.EqAt A s a b (cu x y):=by
 unfold cu;cases px with
 |non=>
  cases ra
  cases py with
  |non=>
   cases rb
   exact SeqAt.EqAt.same _
  |bl=>
   cases rb
   exact SeqAt.EqAt.none_bool _
  |int=>
   obtain⟨t2,rfl⟩:=rb
   exact SeqAt.EqAt.none_int _ _
  |str=>
   obtain⟨t2,rfl⟩:=rb
   exact SeqAt.EqAt.none_str _ _
  | @tup a2 _ _ h2 r2=>
    cases rb
    obtain⟨its2,l2,_⟩:=bM I h2 r2
    exact SeqAt.EqAt.none_tuple l2 (by omega)
  | @lst a2 _ _ h2 r2=>
    cases rb
    obtain⟨its2,l2,_⟩:=aE I (SqL.of h2) r2
    exact SeqAt.EqAt.none_list l2 (by omega)
  | @scr a2 _ _ h2 r2=>
    cases rb
    obtain⟨its2,l2,_⟩:=aE I h2.seq r2
    exact SeqAt.EqAt.none_list l2 (by omega)
 |bl=>
  cases ra
  cases py with
  |non=>
   cases rb
   exact SeqAt.EqAt.bool_none _
  |bl=>
   cases rb
   exact SeqAt.EqAt.bool_bool _ _
  |int=>
   obtain⟨t2,rfl⟩:=rb
   exact SeqAt.EqAt.bool_int _ _ _
  |str=>
   obtain⟨t2,rfl⟩:=rb
   exact SeqAt.EqAt.bool_str _ _ _
  | @tup a2 _ _ h2 r2=>
    cases rb
    obtain⟨its2,l2,_⟩:=bM I h2 r2
    exact SeqAt.EqAt.bool_tuple _ l2 (by omega)
  | @lst a2 _ _ h2 r2=>
    cases rb
    obtain⟨its2,l2,_⟩:=aE I (SqL.of h2) r2
    exact SeqAt.EqAt.bool_list _ l2 (by omega)
  | @scr a2 _ _ h2 r2=>
    cases rb
    obtain⟨its2,l2,_⟩:=aE I h2.seq r2
    exact SeqAt.EqAt.bool_list _ l2 (by omega)
 |int=>
  obtain⟨t1,rfl⟩:=ra
  cases py with
  |non=>
   cases rb
   exact SeqAt.EqAt.int_none _ _
  |bl=>
   cases rb
   exact SeqAt.EqAt.int_bool _ _ _
  |int=>
   obtain⟨t2,rfl⟩:=rb
   exact SeqAt.EqAt.int_int _ _ _ _
  |str=>
   obtain⟨t2,rfl⟩:=rb
   exact SeqAt.EqAt.int_str _ _ _ _
  | @tup a2 _ _ h2 r2=>
    cases rb
    obtain⟨its2,l2,_⟩:=bM I h2 r2
    exact SeqAt.EqAt.int_tuple _ _ l2 (by omega)
  | @lst a2 _ _ h2 r2=>
    cases rb
    obtain⟨its2,l2,_⟩:=aE I (SqL.of h2) r2
    exact SeqAt.EqAt.int_list _ _ l2 (by omega)
  | @scr a2 _ _ h2 r2=>
    cases rb
    obtain⟨its2,l2,_⟩:=aE I h2.seq r2
    exact SeqAt.EqAt.int_list _ _ l2 (by omega)
 |str=>
  obtain⟨t1,rfl⟩:=ra
  cases py with
  |non=>
   cases rb
   exact SeqAt.EqAt.str_none _ _
  |bl=>
   cases rb
   exact SeqAt.EqAt.str_bool _ _ _
  |int=>
   obtain⟨t2,rfl⟩:=rb
   exact SeqAt.EqAt.str_int _ _ _ _
  |str=>
   obtain⟨t2,rfl⟩:=rb
   exact SeqAt.EqAt.str_str _ _ _ _
  | @tup a2 _ _ h2 r2=>
    cases rb
    obtain⟨its2,l2,_⟩:=bM I h2 r2
    exact SeqAt.EqAt.str_tuple _ _ l2 (by omega)
  | @lst a2 _ _ h2 r2=>
    cases rb
    obtain⟨its2,l2,_⟩:=aE I (SqL.of h2) r2
    exact SeqAt.EqAt.str_list _ _ l2 (by omega)
  | @scr a2 _ _ h2 r2=>
    cases rb
    obtain⟨its2,l2,_⟩:=aE I h2.seq r2
    exact SeqAt.EqAt.str_list _ _ l2 (by omega)
 | @tup a1 _ _ h1 r1=>
   cases ra
   obtain⟨its,l1,_⟩:=bM I h1 r1
   cases py with
   |non=>
    cases rb
    exact SeqAt.EqAt.tuple_none l1 (by omega)
   |bl=>
    cases rb
    exact SeqAt.EqAt.tuple_bool _ l1 (by omega)
   |int=>
    obtain⟨t2,rfl⟩:=rb
    exact SeqAt.EqAt.tuple_int _ _ l1 (by omega)
   |str=>
    obtain⟨t2,rfl⟩:=rb
    exact SeqAt.EqAt.tuple_str _ _ l1 (by omega)
   | @tup a2 _ _ h2 r2=>
     cases rb
     obtain⟨its2,l2,_⟩:=bM I h2 r2
     by_cases e:a1=a2
     ·exact(kI I (.tup h1 r1) (.tup h2 r2) e)
     ·exact SeqAt.EqAt.of_refs e (su I IH (by unfold dY at hd;omega) (by unfold dY at hu;omega) h1 r1 h2 r2).1
   | @lst a2 _ _ h2 r2=>
     cases rb
     obtain⟨its2,l2,_⟩:=aE I (SqL.of h2) r2
     exact SeqAt.EqAt.tuple_list l1 l2 (by omega)
   | @scr a2 _ _ h2 r2=>
     cases rb
     obtain⟨its2,l2,_⟩:=aE I h2.seq r2
     exact SeqAt.EqAt.tuple_list l1 l2 (by omega)
 | @scr a1 _ _ h1 r1=>exact absurd hu (by unfold dY;omega)
 | @lst a1 _ _ h1 r1=>
   cases ra
   obtain⟨its,l1,_⟩:=aE I (SqL.of h1) r1
   cases py with
   |non=>
    cases rb
    exact SeqAt.EqAt.list_none l1 (by omega)
   |bl=>
    cases rb
    exact SeqAt.EqAt.list_bool _ l1 (by omega)
   |int=>
    obtain⟨t2,rfl⟩:=rb
    exact SeqAt.EqAt.list_int _ _ l1 (by omega)
   |str=>
    obtain⟨t2,rfl⟩:=rb
    exact SeqAt.EqAt.list_str _ _ l1 (by omega)
   | @tup a2 _ _ h2 r2=>
     cases rb
     obtain⟨its2,l2,_⟩:=bM I h2 r2
     exact SeqAt.EqAt.list_tuple l1 l2 (by omega)
   | @lst a2 _ _ h2 r2=>
     cases rb
     obtain⟨its2,l2,_⟩:=aE I (SqL.of h2) r2
     by_cases e:a1=a2
     ·exact(kI I (.lst h1 r1) (.lst h2 r2) e)
     ·exact SeqAt.EqAt.of_refs e (i7 I IH (by unfold dY at hd;omega) (by unfold dY at hu;omega) (SqL.of h1) r1 (SqL.of h2) r2).1
   | @scr a2 _ _ h2 r2=>
     cases rb
     obtain⟨its2,l2,_⟩:=aE I h2.seq r2
     by_cases e:a1=a2
     ·exact(kI I (.lst h1 r1) (.scr h2 r2) e)
     ·exact SeqAt.EqAt.of_refs e (i7 I IH (by unfold dY at hd;omega) (by unfold dY at hu;omega) (SqL.of h1) r1 h2.seq r2).1
theorem kH(I:Inv X ae σ H s): ∀(n:Nat) {x y:D} {v u:V} {a b:Value} {A:Around},dY x<n->A.units+dY x<cLine->RelV v a->RelV u b->Rep X.K H v x->Rep X.K H u y->SeqAt.EqAt A s a b (cu x y)
 |0,x,y,v,u,a,b,A,hd,hu,ra,rb,px,py=>absurd hd (Nat.not_lt_zero _)
 |n+1,x,y,v,u,a,b,A,hd,hu,ra,rb,px,py=>A6 I (λh1 h2 h3 h4 h5 h6=>kH I n h1 h2 h3 h4 h5 h6) hd hu (by omega) ra rb px py
theorem Ay(I:Inv X ae σ H s){x y:D}{v u:V}{a b:Value}{A:Around}(hu:A.units+dY x<cLine)(hc:A.units<cLine)(ra:RelV v a)(rb:RelV u b)(px:Rep X.K H v x)(py:Rep X.K H u y):SeqAt.RcAt A s a b (cu x y):=by
 have IH:=λ{x y:D} {v u:V} {a b:Value} {A:Around} (n:Nat)=> @kH X ae σ H s I n x y v u a b A
 have IH: ∀ {n:Nat} {x y:D} {v u:V} {a b:Value} {A:Around},dY x<n->A.units+dY x<cLine->RelV v a->RelV u b->Rep X.K H v x->Rep X.K H u y->SeqAt.EqAt A s a b (cu x y):=λ{n x y v u a b A}=>kH I n
 unfold cu;cases px with
 |non=>
  cases ra
  cases py with
  |non=>
   cases rb
   exact SeqAt.RcAt.none_none
  |bl=>
   cases rb
   exact SeqAt.RcAt.none_bool _
  |int=>
   obtain⟨t2,rfl⟩:=rb
   exact SeqAt.RcAt.none_int _ _
  |str=>
   obtain⟨t2,rfl⟩:=rb
   exact SeqAt.RcAt.none_str _ _
  | @tup a2 _ _ h2 r2=>
    cases rb
    obtain⟨its2,l2,_⟩:=bM I h2 r2
    exact SeqAt.RcAt.none_tuple l2 (by omega)
  | @lst a2 _ _ h2 r2=>
    cases rb
    obtain⟨its2,l2,_⟩:=aE I (SqL.of h2) r2
    exact SeqAt.RcAt.none_list l2 (by omega)
  | @scr a2 _ _ h2 r2=>
    cases rb
    obtain⟨its2,l2,_⟩:=aE I h2.seq r2
    exact SeqAt.RcAt.none_list l2 (by omega)
 |bl=>
  cases ra
  cases py with
  |non=>
   cases rb
   exact SeqAt.RcAt.bool_none _
  |bl=>
   cases rb
   exact SeqAt.RcAt.bool_bool _ _
  |int=>
   obtain⟨t2,rfl⟩:=rb
   exact SeqAt.RcAt.bool_int _ _ _
  |str=>
   obtain⟨t2,rfl⟩:=rb
   exact SeqAt.RcAt.bool_str _ _ _
  | @tup a2 _ _ h2 r2=>
    cases rb
    obtain⟨its2,l2,_⟩:=bM I h2 r2
    exact SeqAt.RcAt.bool_tuple _ l2 (by omega)
  | @lst a2 _ _ h2 r2=>
    cases rb
    obtain⟨its2,l2,_⟩:=aE I (SqL.of h2) r2
    exact SeqAt.RcAt.bool_list _ l2 (by omega)
  | @scr a2 _ _ h2 r2=>
    cases rb
    obtain⟨its2,l2,_⟩:=aE I h2.seq r2
    exact SeqAt.RcAt.bool_list _ l2 (by omega)
 |int=>
  obtain⟨t1,rfl⟩:=ra
  cases py with
  |non=>
   cases rb
   exact SeqAt.RcAt.int_none _ _
  |bl=>
   cases rb
   exact SeqAt.RcAt.int_bool _ _ _
  |int=>
   obtain⟨t2,rfl⟩:=rb
   exact SeqAt.RcAt.int_int _ _ _ _
  |str=>
   obtain⟨t2,rfl⟩:=rb
   exact SeqAt.RcAt.int_str _ _ _ _
  | @tup a2 _ _ h2 r2=>
    cases rb
    obtain⟨its2,l2,_⟩:=bM I h2 r2
    exact SeqAt.RcAt.int_tuple _ _ l2 (by omega)
  | @lst a2 _ _ h2 r2=>
    cases rb
    obtain⟨its2,l2,_⟩:=aE I (SqL.of h2) r2
    exact SeqAt.RcAt.int_list _ _ l2 (by omega)
  | @scr a2 _ _ h2 r2=>
    cases rb
    obtain⟨its2,l2,_⟩:=aE I h2.seq r2
    exact SeqAt.RcAt.int_list _ _ l2 (by omega)
 |str=>
  obtain⟨t1,rfl⟩:=ra
  cases py with
  |non=>
   cases rb
   exact SeqAt.RcAt.str_none _ _
  |bl=>
   cases rb
   exact SeqAt.RcAt.str_bool _ _ _
  |int=>
   obtain⟨t2,rfl⟩:=rb
   exact SeqAt.RcAt.str_int _ _ _ _
  |str=>
   obtain⟨t2,rfl⟩:=rb
   exact SeqAt.RcAt.str_str _ _ _ _
  | @tup a2 _ _ h2 r2=>
    cases rb
    obtain⟨its2,l2,_⟩:=bM I h2 r2
    exact SeqAt.RcAt.str_tuple _ _ l2 (by omega)
  | @lst a2 _ _ h2 r2=>
    cases rb
    obtain⟨its2,l2,_⟩:=aE I (SqL.of h2) r2
    exact SeqAt.RcAt.str_list _ _ l2 (by omega)
  | @scr a2 _ _ h2 r2=>
    cases rb
    obtain⟨its2,l2,_⟩:=aE I h2.seq r2
    exact SeqAt.RcAt.str_list _ _ l2 (by omega)
 | @tup a1 _ _ h1 r1=>
   cases ra
   obtain⟨its,l1,_⟩:=bM I h1 r1
   cases py with
   |non=>
    cases rb
    exact SeqAt.RcAt.tuple_none l1 (by omega)
   |bl=>
    cases rb
    exact SeqAt.RcAt.tuple_bool _ l1 (by omega)
   |int=>
    obtain⟨t2,rfl⟩:=rb
    exact SeqAt.RcAt.tuple_int _ _ l1 (by omega)
   |str=>
    obtain⟨t2,rfl⟩:=rb
    exact SeqAt.RcAt.tuple_str _ _ l1 (by omega)
   | @tup a2 _ _ h2 r2=>
     cases rb
     obtain⟨its2,l2,_⟩:=bM I h2 r2
     exact(su I IH (Nat.lt_succ_self _) (by unfold dY at hu;omega) h1 r1 h2 r2).1
   | @lst a2 _ _ h2 r2=>
     cases rb
     obtain⟨its2,l2,_⟩:=aE I (SqL.of h2) r2
     exact SeqAt.RcAt.tuple_list l1 l2 (by omega)
   | @scr a2 _ _ h2 r2=>
     cases rb
     obtain⟨its2,l2,_⟩:=aE I h2.seq r2
     exact SeqAt.RcAt.tuple_list l1 l2 (by omega)
 | @scr a1 _ _ h1 r1=>exact absurd hu (by unfold dY;omega)
 | @lst a1 _ _ h1 r1=>
   cases ra
   obtain⟨its,l1,_⟩:=aE I (SqL.of h1) r1
   cases py with
   |non=>
    cases rb
    exact SeqAt.RcAt.list_none l1 (by omega)
   |bl=>
    cases rb
    exact SeqAt.RcAt.list_bool _ l1 (by omega)
   |int=>
    obtain⟨t2,rfl⟩:=rb
    exact SeqAt.RcAt.list_int _ _ l1 (by omega)
   |str=>
    obtain⟨t2,rfl⟩:=rb
    exact SeqAt.RcAt.list_str _ _ l1 (by omega)
   | @tup a2 _ _ h2 r2=>
     cases rb
     obtain⟨its2,l2,_⟩:=bM I h2 r2
     exact SeqAt.RcAt.list_tuple l1 l2 (by omega)
   | @lst a2 _ _ h2 r2=>
     cases rb
     obtain⟨its2,l2,_⟩:=aE I (SqL.of h2) r2
     exact(i7 I IH (Nat.lt_succ_self _) (by unfold dY at hu;omega) (SqL.of h1) r1 (SqL.of h2) r2).1
   | @scr a2 _ _ h2 r2=>
     cases rb
     obtain⟨its2,l2,_⟩:=aE I h2.seq r2
     exact(i7 I IH (Nat.lt_succ_self _) (by unfold dY at hu;omega) (SqL.of h1) r1 h2.seq r2).1
theorem vc(I:Inv X ae σ H s){x y:D}{v u:V}{a b:Value}{A:Around}(hu:A.units+dY x<cLine)(hc:A.units<cLine)(ra:RelV v a)(rb:RelV u b)(px:Rep X.K H v x)(py:Rep X.K H u y):SeqAt.RcNeAt A s a b (!cu x y):=by
 have IH: ∀ {n:Nat} {x y:D} {v u:V} {a b:Value} {A:Around},dY x<n->A.units+dY x<cLine->RelV v a->RelV u b->Rep X.K H v x->Rep X.K H u y->SeqAt.EqAt A s a b (cu x y):=λ{n x y v u a b A}=>kH I n
 unfold cu;cases px with
 |non=>
  cases ra
  cases py with
  |non=>
   cases rb
   exact SeqAt.RcNeAt.none_none
  |bl=>
   cases rb
   exact SeqAt.RcNeAt.none_bool _
  |int=>
   obtain⟨t2,rfl⟩:=rb
   exact SeqAt.RcNeAt.none_int _ _
  |str=>
   obtain⟨t2,rfl⟩:=rb
   exact SeqAt.RcNeAt.none_str _ _
  | @tup a2 _ _ h2 r2=>
    cases rb
    obtain⟨its2,l2,_⟩:=bM I h2 r2
    exact SeqAt.RcNeAt.none_tuple l2 (by omega)
  | @lst a2 _ _ h2 r2=>
    cases rb
    obtain⟨its2,l2,_⟩:=aE I (SqL.of h2) r2
    exact SeqAt.RcNeAt.none_list l2 (by omega)
  | @scr a2 _ _ h2 r2=>
    cases rb
    obtain⟨its2,l2,_⟩:=aE I h2.seq r2
    exact SeqAt.RcNeAt.none_list l2 (by omega)
 |bl=>
  cases ra
  cases py with
  |non=>
   cases rb
   exact SeqAt.RcNeAt.bool_none _
  |bl=>
   cases rb
   exact SeqAt.RcNeAt.bool_bool _ _
  |int=>
   obtain⟨t2,rfl⟩:=rb
   exact SeqAt.RcNeAt.bool_int _ _ _
  |str=>
   obtain⟨t2,rfl⟩:=rb
   exact SeqAt.RcNeAt.bool_str _ _ _
  | @tup a2 _ _ h2 r2=>
    cases rb
    obtain⟨its2,l2,_⟩:=bM I h2 r2
    exact SeqAt.RcNeAt.bool_tuple _ l2 (by omega)
  | @lst a2 _ _ h2 r2=>
    cases rb
    obtain⟨its2,l2,_⟩:=aE I (SqL.of h2) r2
    exact SeqAt.RcNeAt.bool_list _ l2 (by omega)
  | @scr a2 _ _ h2 r2=>
    cases rb
    obtain⟨its2,l2,_⟩:=aE I h2.seq r2
    exact SeqAt.RcNeAt.bool_list _ l2 (by omega)
 |int=>
  obtain⟨t1,rfl⟩:=ra
  cases py with
  |non=>
   cases rb
   exact SeqAt.RcNeAt.int_none _ _
  |bl=>
   cases rb
   exact SeqAt.RcNeAt.int_bool _ _ _
  |int=>
   obtain⟨t2,rfl⟩:=rb
   exact SeqAt.RcNeAt.int_int _ _ _ _
  |str=>
   obtain⟨t2,rfl⟩:=rb
   exact SeqAt.RcNeAt.int_str _ _ _ _
  | @tup a2 _ _ h2 r2=>
    cases rb
    obtain⟨its2,l2,_⟩:=bM I h2 r2
    exact SeqAt.RcNeAt.int_tuple _ _ l2 (by omega)
  | @lst a2 _ _ h2 r2=>
    cases rb
    obtain⟨its2,l2,_⟩:=aE I (SqL.of h2) r2
    exact SeqAt.RcNeAt.int_list _ _ l2 (by omega)
  | @scr a2 _ _ h2 r2=>
    cases rb
    obtain⟨its2,l2,_⟩:=aE I h2.seq r2
    exact SeqAt.RcNeAt.int_list _ _ l2 (by omega)
 |str=>
  obtain⟨t1,rfl⟩:=ra
  cases py with
  |non=>
   cases rb
   exact SeqAt.RcNeAt.str_none _ _
  |bl=>
   cases rb
   exact SeqAt.RcNeAt.str_bool _ _ _
  |int=>
   obtain⟨t2,rfl⟩:=rb
   exact SeqAt.RcNeAt.str_int _ _ _ _
  |str=>
   obtain⟨t2,rfl⟩:=rb
   exact SeqAt.RcNeAt.str_str _ _ _ _
  | @tup a2 _ _ h2 r2=>
    cases rb
    obtain⟨its2,l2,_⟩:=bM I h2 r2
    exact SeqAt.RcNeAt.str_tuple _ _ l2 (by omega)
  | @lst a2 _ _ h2 r2=>
    cases rb
    obtain⟨its2,l2,_⟩:=aE I (SqL.of h2) r2
    exact SeqAt.RcNeAt.str_list _ _ l2 (by omega)
  | @scr a2 _ _ h2 r2=>
    cases rb
    obtain⟨its2,l2,_⟩:=aE I h2.seq r2
    exact SeqAt.RcNeAt.str_list _ _ l2 (by omega)
 | @tup a1 _ _ h1 r1=>
   cases ra
   obtain⟨its,l1,_⟩:=bM I h1 r1
   cases py with
   |non=>
    cases rb
    exact SeqAt.RcNeAt.tuple_none l1 (by omega)
   |bl=>
    cases rb
    exact SeqAt.RcNeAt.tuple_bool _ l1 (by omega)
   |int=>
    obtain⟨t2,rfl⟩:=rb
    exact SeqAt.RcNeAt.tuple_int _ _ l1 (by omega)
   |str=>
    obtain⟨t2,rfl⟩:=rb
    exact SeqAt.RcNeAt.tuple_str _ _ l1 (by omega)
   | @tup a2 _ _ h2 r2=>
     cases rb
     obtain⟨its2,l2,_⟩:=bM I h2 r2
     exact(su I IH (Nat.lt_succ_self _) (by unfold dY at hu;omega) h1 r1 h2 r2).2
   | @lst a2 _ _ h2 r2=>
     cases rb
     obtain⟨its2,l2,_⟩:=aE I (SqL.of h2) r2
     exact SeqAt.RcNeAt.tuple_list l1 l2 (by omega)
   | @scr a2 _ _ h2 r2=>
     cases rb
     obtain⟨its2,l2,_⟩:=aE I h2.seq r2
     exact SeqAt.RcNeAt.tuple_list l1 l2 (by omega)
 | @scr a1 _ _ h1 r1=>exact absurd hu (by unfold dY;omega)
 | @lst a1 _ _ h1 r1=>
   cases ra
   obtain⟨its,l1,_⟩:=aE I (SqL.of h1) r1
   cases py with
   |non=>
    cases rb
    exact SeqAt.RcNeAt.list_none l1 (by omega)
   |bl=>
    cases rb
    exact SeqAt.RcNeAt.list_bool _ l1 (by omega)
   |int=>
    obtain⟨t2,rfl⟩:=rb
    exact SeqAt.RcNeAt.list_int _ _ l1 (by omega)
   |str=>
    obtain⟨t2,rfl⟩:=rb
    exact SeqAt.RcNeAt.list_str _ _ l1 (by omega)
   | @tup a2 _ _ h2 r2=>
     cases rb
     obtain⟨its2,l2,_⟩:=bM I h2 r2
     exact SeqAt.RcNeAt.list_tuple l1 l2 (by omega)
   | @lst a2 _ _ h2 r2=>
     cases rb
     obtain⟨its2,l2,_⟩:=aE I (SqL.of h2) r2
     exact(i7 I IH (Nat.lt_succ_self _) (by unfold dY at hu;omega) (SqL.of h1) r1 (SqL.of h2) r2).2
   | @scr a2 _ _ h2 r2=>
     cases rb
     obtain⟨its2,l2,_⟩:=aE I h2.seq r2
     exact(i7 I IH (Nat.lt_succ_self _) (by unfold dY at hu;omega) (SqL.of h1) r1 h2.seq r2).2
end
theorem Rep1.full {K:W.Frag}{H:Hp}{hid:bF}{v:V}{d:D}(h:Rep1 K H (vw H hid) v d):Rep K H v d:=by
 rcases h with h|⟨a,xs,ds,rfl,rfl,h1,h2⟩
 ·exact h.mono (eT _ _)
 ·exact .lst h1 (h2.mono (eT _ _))
def Bs(K:W.Frag):R2:=λv u H Q=> ∃x y,Rep K H v x/\Rep K H u y/\dY x<=32/\Q (.bl (cu x y)) H
def Cj(K:W.Frag):R2:=λv u H Q=> ∃x y,Rep K H v x/\Rep K H u y/\dY x<=32/\Q (.bl (!cu x y)) H
theorem fJ {X:Cx}(hu:X.A.units+64<cLine):jV X (compareOp .Eq) (Bs X.K):=by
 intro ae s σ H x y v u Q I rx ry h;obtain⟨dx,dy,p1,p2,hd,q⟩:=h
 exact Ay I (by omega) (by omega) rx ry p1 p2 X.prog X.w _ _ ⟨.bl _,H,I,rfl,q⟩
theorem gv {X:Cx}(hu:X.A.units+64<cLine):jV X (compareOp .NotEq) (Cj X.K):=by
 intro ae s σ H x y v u Q I rx ry h;obtain⟨dx,dy,p1,p2,hd,q⟩:=h
 exact vc I (by omega) (by omega) rx ry p1 p2 X.prog X.w _ _ ⟨.bl _,H,I,rfl,q⟩
def iE:D->D->Option D:=λx y=>if dY x<=32 then some (.bl (cu x y)) else none
def iD:D->D->Option D:=λx y=>if dY x<=32 then some (.bl (!cu x y)) else none
theorem iw {K:W.Frag}:kL K .s (Bs K) iE:=by
 intro H hid v u x y d Q hf h r1 r2 q;unfold iE at h;split at h
 ·cases h;exact⟨x,y,r1.full,r2.full, ‹_›,q _ H (Same.refl _) .bl⟩
 ·cases h
theorem iT {K:W.Frag}:kL K .s (Cj K) iD:=by
 intro H hid v u x y d Q hf h r1 r2 q;unfold iD at h;split at h
 ·cases h;exact⟨x,y,r1.full,r2.full, ‹_›,q _ H (Same.refl _) .bl⟩
 ·cases h
theorem sK {X:Cx}{ae:List (Addr×Obj)}{σ:St}{H:Hp}{s:Shared}(I:Inv X ae σ H s){x:D}{v:V}{a:Value}{A:Around}(hx:Rep X.K H v x)(ra:RelV v a): ∀ {ds:List D} {xs:List V} {its:List Value},Reps X.K H xs ds->Vals xs its->A.units+ck ds<cLine->
 ∃e:Value->Bool,(∀y,y∈its->SeqAt.EqAt A s y a (e y))/\its.any e=ds.any (λd=>cu d x):=by
 intro ds xs its r rv hu
 classical
 let e:Value->Bool:=λy=>if h: ∃(d:D) (u:V),RelV u y/\Rep X.K H u d then cu h.choose x else false
 have key: ∀y u d,RelV u y->Rep X.K H u d->e y=cu d x:=λy u d h1 h2=>by
  have hex: ∃(d:D) (u:V),RelV u y/\Rep X.K H u d:=⟨d,u,h1,h2⟩
  show(if h: ∃(d:D) (u:V),RelV u y/\Rep X.K H u d then cu h.choose x else false)=cu d x
  rw[dif_pos hex];obtain⟨u',s1,s2⟩:=hex.choose_spec
  have eu:u'=u:=s1.inj h1
  rw[eu] at s2;exact Rep.eqv I s2 h2 x
 refine⟨e,?_,?_⟩
 ·induction rv generalizing ds with
  |nil=>intro y hy;cases hy
  |cons r1 t ih=>
   cases r with
   |cons p1 pt=>
    rename_i d ds;intro y hy;have hm:dY d<=ck (d::ds):=j9 (i:=0) rfl
    have hm2:ck ds<=ck (d::ds):=by conv=>rhs;unfold ck
                                   exact Nat.le_max_right _ _
    rcases List.mem_cons.mp hy with rfl|hy
    ·rw[key _ _ _ r1 p1]
     exact kH I (dY d+1) (Nat.lt_succ_self _) (by omega) r1 ra p1 hx
    ·exact ih pt (by omega) y hy
 ·induction rv generalizing ds with
  |nil=>cases r;rfl
  |cons r1 t ih=>
   cases r with
   |cons p1 pt=>
    rename_i d ds;have hm2:ck ds<=ck (d::ds):=by conv=>rhs;unfold ck
                                                 exact Nat.le_max_right _ _
    rw[List.any_cons,List.any_cons,key _ _ _ r1 p1,ih pt (by omega)]
def BT(K:W.Frag)(neg:Bool):R2:=λv u H Q=> ∃x ds a xs,Rep K H v x/\u=.ref a/\(SqL K H a xs\/SqT K H a xs)/\Reps K H xs ds/\ck ds<=32/\Q (.bl (if neg then !ds.any (λd=>cu d x) else ds.any λd=>cu d x)) H
theorem AX {X:Cx}(hu:X.A.units+64<cLine):jV X (compareOp .In) (BT X.K false):=by
 intro ae s σ H v w a b Q I rx ry h;obtain⟨x,ds,p,xs,hx,rfl,hq,r,hd,q⟩:=h
 cases ry
 rcases hq with hq|hq
 ·obtain⟨its,rv,pl,hz⟩:=I.list hq
  obtain⟨e,h1,h2⟩:=sK (A:=X.A.in1) I hx rx r rv (by rw[cT];omega)
  refine SeqAt.in_listAt e pl.isList (λy hy=>h1 y (by simpa using hy)) ⟨.bl _,H,I,rfl,?_⟩
  rw[show its.toArray.any e=its.any e by simp,h2]
  exact q
 ·obtain⟨its,rv,pl,hz⟩:=I.tuple hq
  obtain⟨e,h1,h2⟩:=sK (A:=X.A.in1) I hx rx r rv (by rw[cT];omega)
  refine SeqAt.in_tupleAt e pl (λy hy=>h1 y (by simpa using hy)) ⟨.bl _,H,I,rfl,?_⟩
  rw[show its.toArray.any e=its.any e by simp,h2]
  exact q
def vi:D->Option (List D)
 | .lst ds=>some ds
 | .tup ds=>some ds
 |_=>none
def yO(neg:Bool):D->D->Option D:=λx y=>match vi y with
 |some ds=>if ck ds<=32 then some (.bl (if neg then !ds.any (λd=>cu d x) else ds.any λd=>cu d x)) else none
 |none=>none
theorem Cp {K:W.Frag}(neg:Bool):kL K .s (BT K neg) (yO neg):=by
 intro H hid v u x y d Q hf h r1 r2 q;unfold yO at h;split at h
 ·split at h
  ·rename_i ds e _
   cases h
   cases y with
   |lst zs=>
    cases e
    obtain⟨a,xs,rfl,h1,h2⟩:=r2.lst
    exact⟨x,_,a,xs,r1.full,rfl,.inl h1,h2.mono (eT _ _), ‹_›,q _ H (Same.refl _) .bl⟩
   |tup zs=>
    cases e
    obtain⟨a,xs,rfl,_,h1,h2⟩:=r2.tup
    exact⟨x,_,a,xs,r1.full,rfl,.inr h1,h2.mono (eT _ _), ‹_›,q _ H (Same.refl _) .bl⟩
   |_=>cases e
  ·cases h
 ·cases h
def DV(T:String):D->Bool
 | .non=>T=="NoneType"
 | .bl _=>T=="bool"||T=="int"
 | .int _=>T=="int"
 | .str _=>T=="str"
 | .tup _=>T=="tuple"
 | .lst _=>T=="list"
 | .scr _=>T=="list"
structure KT(T:String):Prop where
 n: ∀K,W.kitOne K (.type "NoneType") (.type T)=some (T=="NoneType")
 b: ∀K,W.kitOne K (.type "bool") (.type T)=some (T=="bool"||T=="int")
 i: ∀K,W.kitOne K (.type "int") (.type T)=some (T=="int")
 s: ∀K,W.kitOne K (.type "str") (.type T)=some (T=="str")
 t: ∀K,W.kitOne K (.type "tuple") (.type T)=some (T=="tuple")
 l: ∀K,W.kitOne K (.type "list") (.type T)=some (T=="list")
theorem zy:KT "int":=⟨λ_=>by kernel_rfl,λ_=>by kernel_rfl,λ_=>by kernel_rfl,λ_=>by kernel_rfl,λ_=>by kernel_rfl,λ_=>by kernel_rfl⟩
theorem ya:KT "bool":=⟨λ_=>by kernel_rfl,λ_=>by kernel_rfl,λ_=>by kernel_rfl,λ_=>by kernel_rfl,λ_=>by kernel_rfl,λ_=>by kernel_rfl⟩
section
variable {X:Cx}{c:Ct}{e o:Expr}{k:Kd}{f g:FE}{pos p p2:Pos}
theorem vD {T:String}(kt:KT T):dH X (.builtin "isinstance") (λxs H Q=> ∃v d,xs=[v,.ty T]/\Rep X.K H v d/\Q (.bl (DV T d)) H):=by
 intro ae s σ H xs us Q I r h;obtain⟨v,d,rfl,rp,q⟩:=h
 obtain⟨u,w',rfl,rx,ry⟩:=tv r
 cases ry
 have fin: ∀tk,EP X ae σ Q (.bool (DV T d)) {s with toks:=tk}:=λtk=>⟨.bl _,H,I.tok _,rfl,q⟩
 cases rp with
 |non=>cases rx;exact W.kia_one W.kitx_none I.kIn True.intro (kt.n _) (λz=>nomatch z) fin
 |bl=>cases rx;exact W.kia_one W.kitx_bool I.kIn True.intro (kt.b _) (λz=>nomatch z) fin
 |int=>obtain⟨t,rfl⟩:=rx;exact W.kia_one W.kitx_int I.kIn True.intro (kt.i _) (λz=>nomatch z) fin
 |str=>obtain⟨t,rfl⟩:=rx;exact W.kia_one W.kitx_str I.kIn True.intro (kt.s _) (λz=>nomatch z) fin
 |tup h1 h2=>
  cases rx
  obtain⟨⟨ob,ho,hc⟩,_⟩:=I.tupleN h1
  exact W.kia_one W.kitx_tuple I.kIn ⟨ob,ho,hc⟩ (kt.t _) (λz=>nomatch z) fin
 |lst h1 h2=>
  cases rx
  obtain⟨its,_,⟨ob,n,ho,hc,_⟩,_⟩:=I.list (SqL.of h1)
  exact W.kia_one W.kitx_list I.kIn ⟨ob,ho,hc⟩ (kt.l _) (λz=>nomatch z) fin
 |scr h1 h2=>
  cases rx
  obtain⟨its,_,⟨ob,n,ho,hc,_⟩,_⟩:=I.list h1.seq
  exact W.kia_one W.kitx_list I.kIn ⟨ob,ho,hc⟩ (kt.l _) (λz=>nomatch z) fin
def xJ(T:String)(f:FE):FE:=λρ=>(f ρ).map λd=>.bl (DV T d)
theorem wX(T:String){y:Str}(kt:KT T)(he:DP X c k e f)(hm:X.mg "isinstance"=none)(hmT:X.mg y=none)(hg:Gl X "isinstance":=by rfl)(hgT:Gl X y:=by rfl)(hv:bootBuiltins "isinstance"=some (.builtin "isinstance"):=by kernel_rfl)(hvT:bootBuiltins y=some (.type T):=by kernel_rfl)(hn:y≠"__name__":=by decide)(hd:(y==("__debug__":Str))=false:=by decide)
 (hs1:starEach [e,.Name y p2] X.env=(false,eval e X.env)::starEach [.Name y p2] X.env:=by rfl) (hs2:starEach [.Name y p2] X.env=(false,eval (.Name y p2) X.env)::starEach [] X.env:=by rfl) (hpl:(backTo pos (starEach [.Name y p2] X.env)).any (·.1)=false:=by rfl):
 DP X c .s (.Call (.Name "isinstance" p) [e,.Name y p2] [] pos) (xJ T f):=λhid ρ=>
 PE.imp (gW (vD kt) hg hm hv (aV (he hid ρ) (aV (tX (v:=.ty T) hgT hmT hvT rfl hn hd) cv hs2) hs1) (by decide) (by decide) hs1 hpl) λσ H Q hq_=>by
  obtain⟨sr,d,hd,q⟩:=hq_
  unfold xJ at hd;cases e1:f ρ with
  |none=>rw[e1] at hd;cases hd
  |some z=>
   rw[e1] at hd;cases hd;exact⟨sr,z,e1,λv H' s' r=>⟨v,z,rfl,(RK.b k r λa n=>sr.fresh n).full,q _ H' s' .bl⟩⟩
def gl:List D->Option (List Int)
 | []=>some []
 | .int b::r=>(gl r).map (b:: ·)
 |_=>none
theorem j7: ∀ {ds:List D} {ns:List Int},gl ds=some ns->ds=ns.map D.int
 | [],_,h=>by cases h;rfl
 |x::r,bs,h=>by
  cases x with
  |int b=>
   unfold gl at h;cases e1:gl r with
   |none=>rw[e1] at h;cases h
   |some rs=>rw[e1] at h;cases h;simp[j7 e1]
  |_=>cases h
theorem fz {K:W.Frag}{F:Hp}: ∀ {ns:List Int} {xs:List V},Reps K F xs (ns.map D.int)->xs=ns.map V.int
 | [],_,.nil=>rfl
 |n::ns,_,.cons r t=>by cases r;rw[fz t];rfl
def ky:List Int->Int
 | []=>0
 |a::r=>r.foldl (λm b=>if b<m then b else m) a
theorem p8(r:List Int): ∀a:Int,r.foldl (λm b=>if b<m then b else m) a∈a::r/\ ∀x∈a::r,r.foldl (λm b=>if b<m then b else m) a<=x:=by
 induction r with
 |nil=>intro a;simp
 |cons b r ih=>
  intro a;rw[List.foldl_cons];obtain⟨h1,h2⟩:=ih (if b<a then b else a)
  have h3:=h2 (if b<a then b else a) List.mem_cons_self
  refine⟨?_,λx hx=>?_⟩
  ·rcases List.mem_cons.mp h1 with e|e
   ·rw[e];split<;>simp
   ·exact List.mem_cons_of_mem _ (List.mem_cons_of_mem _ e)
  ·rcases List.mem_cons.mp hx with rfl|hx
   ·split at h3<;>split<;>omega
   ·rcases List.mem_cons.mp hx with rfl|hx
    ·split at h3<;>split<;>omega
    ·exact h2 x (List.mem_cons_of_mem _ hx)
theorem w6: ∀(ns:List Int),ns≠[]->ky ns∈ns/\ ∀a∈ns,ky ns<=a
 | [],h=>absurd rfl h
 |a::r,_=>p8 r a
theorem uW {ns:List Int}{m:Int}(h1:m∈ns)(h2: ∀a∈ns,m<=a):m=ky ns:=by
 obtain⟨g1,g2⟩:=w6 ns (by intro e;subst e;simp at h1)
 have:=h2 _ g1
 have:=g2 _ h1
 omega
theorem ut(hc:X.calm=true):dH X (.builtin "min") (λxs H Q=> ∃a ns,xs=[.ref a]/\SqL X.K H a (ns.map V.int)/\ns≠[]/\Q (.int (ky ns)) H):=by
 intro ae s σ H xs us Q I r h;obtain⟨a,ns,rfl,h1,h2,q⟩:=h
 obtain⟨u,rfl,rx⟩:=gH r
 cases rx
 obtain⟨its,rv,pl,hz⟩:=I.list h1
 have hi:IntsAre its ns:=mz rv
 obtain⟨xs,e⟩:=hi.allInts.items
 have hns:ns=xs.toList.map (·.1):=by rw[<-hi.numsOf,<-nums_intItems,<-e]
 have hsz:0<xs.size:=by
  have:0<ns.length:=by cases ns with|nil=>exact absurd rfl h2|cons=>simp
  rw[hns,List.length_map,Array.length_toList] at this;exact this
 have hl:=pl.isList
 rw[e] at hl;refine min_intList (I.ok.hd hc) hl hsz λv h' tk hv hk=>?_
 obtain⟨t,rfl⟩:=intItems_at hv
 obtain⟨g1,g2⟩:=argBest_lt (numAt xs) (xs.size-1)
 have em:numAt xs (argBest (λi j=>decide (numAt xs i<numAt xs j)) (xs.size-1))=ky ns:=by
  refine uW ?_ λa ha=>?_
  ·rw[hns,numAt_eq];exact getD_mem (by rw[List.length_map,Array.length_toList];omega)
  ·rw[hns] at ha
   obtain⟨j,hj,rfl⟩:=mem_getD ha
   rw[List.length_map,Array.length_toList] at hj;rw[<-numAt_eq];exact g2 j (by omega)
 exact⟨.int (ky ns),H,I.kept hk,⟨t,by rw[<-em]⟩,q⟩
def nA:List D->Option D
 | [.lst ds]=>(gl ds).bind λns=>if ns.isEmpty then none else some (.int (ky ns))
 |_=>none
theorem yo:iS X.K .s (λxs H Q=> ∃a ns,xs=[.ref a]/\SqL X.K H a (ns.map V.int)/\ns≠[]/\Q (.int (ky ns)) H) nA:=by
 intro H hid vs ds d Q hf h r q;unfold nA at h;split at h
 ·rename_i zs
  cases e1:gl zs with
  |none=>rw[e1] at h;cases h
  |some ns=>
   rw[e1] at h;have h:(if ns.isEmpty then none else some (D.int (ky ns)))=some d:=h
   split at h
   ·cases h
   ·cases h
    obtain⟨x,rfl,r1⟩:=Reps1.one r
    obtain⟨a,xs,rfl,h1,h2⟩:=r1.lst
    rw[j7 e1] at h2;rw[fz h2] at h1;exact⟨a,ns,rfl,h1,(by intro e;subst e;simp at*),q _ H (Same.refl _) .int⟩
 ·cases h
end
end L2
namespace PySem.SeqAt
open AutoSeq1 (wpAny_loadPart')
open MeetsSeq MeetsSeq2 MeetsSeq3 SeqRoads2
theorem kX {M:Model}{A:Around}{E:Value->Shared->Prop}{s:Shared}{β:Type}(f:Nat->β->Sem (ForInStep β))(I:List Nat->β->Shared->Prop)(Q:β->Shared->Prop)
 (turn: ∀x rest b s,I (x::rest) b s->wpAny M A (f x b) (λr s'=>match r with| .yield b'=>I rest b' s'| .done b'=>Q b' s') E s)
 (fin: ∀b s,I [] b s->Q b s) (a b:Nat) (c:β) (h:I (List.range' a (b-a)) c s):wpAny M A (forIn [a:b] c f) Q E s:=by
 rw[Std.Legacy.Range.forIn_eq_forIn_range'];have hsz:([a:b]:Std.Legacy.Range).size=b-a:=by simp[Std.Legacy.Range.size]
 show wpAny M A (forIn (List.range' a ([a:b]:Std.Legacy.Range).size 1) c f) Q E s;rw[hsz];exact wpAny_forIn_list f I Q turn fin _ c h
theorem tuple_indexAt(l:Addr)(items:Array Value)(n:Nat)(dd:Option Addr)(sl:Array (Option Value))(x:Value)(e:Value->Bool)(j:Nat)(hj:j<items.size)(hit:e items[j]=true)(hno: ∀m (hm:m<items.size),m<j->e items[m]=false):
 Meets (Builtin.«tuple.index» ⟨[.ref l,x],[]⟩)
  (λA R s=>s.heap.get? l=some {cls:=.type "tuple",dict:=dd,data:=.seq items n,slots:=sl}/\(∀y,y∈items->EqAt A.in1 s y x (e y))/\R (.ok (.ret (.int j s.toks))) {s with toks:=s.toks+1}):=
 .of_wp λprog w A R s h=>by
  obtain⟨hp,g,d,tk,os⟩:=s;obtain⟨hl,he,h⟩:=h
  wp_walk using wpAny_loadPart' hl,kX _ (λrest b s'=>b.1=none/\s'=⟨hp,g,d,tk,os⟩/\ ∃i,i<=j/\rest=List.range' i (items.size-i)) _
  case turn=>
   rintro y rest b s' ⟨hb,rfl,i,hij,hz⟩
   have lt:i<items.size:=by omega
   have er:List.range' i (items.size-i)=i::List.range' (i+1) (items.size- (i+1)):=by
    rw[show items.size-i=(items.size- (i+1))+1 by omega];rfl
   rw[er] at hz;injection hz with e1 e2
   subst e1 e2;rw[show items[y]? =some items[y] by simp[lt]]
   refine wpAny_bind (he _ (Array.getElem_mem lt) prog w _ _ ?_)
   by_cases ej:y=j
   ·subst ej
    rw[hit]
    wp_walk
    exact⟨_,rfl,h⟩
   ·rw[hno y lt (by omega)]
    wp_walk
    exact⟨rfl,rfl,y+1,by omega,rfl⟩
  case fin=>
   rintro⟨b1,b2⟩ s' ⟨hb,rfl,i,hij,hz⟩
   have:=congrArg List.length hz
   simp at this;omega
  case h=>
   exact⟨rfl,rfl,0,Nat.zero_le _,by simp⟩
end PySem.SeqAt
namespace L2
open PySem PySem.Spec PyProof.Rows
def jp(ds:List D)(x:D):Option Nat:=ds.findIdx? λd=>cu d x
theorem ou {X:Cx}{ae:List (Addr×Obj)}{σ:St}{H:Hp}{s:Shared}(I:Inv X ae σ H s){x:D}{v:V}{a:Value}{A:Around}(hx:Rep X.K H v x)(ra:RelV v a): ∀ {ds:List D} {xs:List V} {its:List Value},Reps X.K H xs ds->Vals xs its->A.units+ck ds<cLine->
 ∃e:Value->Bool,(∀y,y∈its->SeqAt.EqAt A s y a (e y))/\ ∀(j:Nat) (hj:j<its.length) (d:D),ds[j]? =some d->e its[j]=cu d x:=by
 intro ds xs its r rv hu
 classical
 let e:Value->Bool:=λy=>if h: ∃(d:D) (u:V),RelV u y/\Rep X.K H u d then cu h.choose x else false
 have key: ∀y u d,RelV u y->Rep X.K H u d->e y=cu d x:=λy u d h1 h2=>by
  have hex: ∃(d:D) (u:V),RelV u y/\Rep X.K H u d:=⟨d,u,h1,h2⟩
  show(if h: ∃(d:D) (u:V),RelV u y/\Rep X.K H u d then cu h.choose x else false)=cu d x
  rw[dif_pos hex];obtain⟨u',s1,s2⟩:=hex.choose_spec
  have eu:u'=u:=s1.inj h1
  rw[eu] at s2;exact Rep.eqv I s2 h2 x
 have l1:=rv.length
 have l2:=r.length
 have at': ∀(j:Nat) (hj:j<its.length),∃u d,ds[j]? =some d/\RelV u its[j]/\Rep X.K H u d:=λj hj=>by
  have ex:xs[j]? =some xs[j]:=List.getElem?_eq_getElem (by omega)
  obtain⟨w,e1,r1⟩:=rv.get ex
  obtain⟨d,e2,r2⟩:=r.get' ex
  have:its[j]=w:=by rw[List.getElem?_eq_getElem hj] at e1;exact Option.some.inj e1
  rw[this];exact⟨_,d,e2,r1,r2⟩
 refine⟨e,λy hy=>?_,λj hj d hd=>?_⟩
 ·obtain⟨j,hj,rfl⟩:=List.mem_iff_getElem.mp hy
  obtain⟨u,d,e1,r1,r2⟩:=at' j hj
  rw[key _ _ _ r1 r2];have:=j9 e1
  exact kH I (dY d+1) (Nat.lt_succ_self _) (by omega) r1 ra r2 hx
 ·obtain⟨u,d',e1,r1,r2⟩:=at' j hj
  rw[hd] at e1;cases e1;exact key _ _ _ r1 r2
section
variable {X:Cx}{c:Ct}{e o:Expr}{k k2:Kd}{f g:FE}{pos p p2 apos:Pos}
theorem p4(hu:X.A.units+64<cLine):Cw X "tuple.index" (λv vs H Q=> ∃a xs ds x y j,v=.ref a/\vs=[x]/\SqT X.K H a xs/\Reps X.K H xs ds/\Rep X.K H x y/\ck ds<=32/\jp ds y=some j/\Q (.int j) H):=by
 intro ae s σ H v vs u us Q I rv rs h;obtain⟨a,xs,ds,x,y,j,rfl,rfl,h1,h2,h3,h4,h5,q⟩:=h
 cases rv
 obtain⟨w,rfl,rw'⟩:=gH rs
 obtain⟨its,r,pl,hz⟩:=I.tuple h1
 have l1:=r.length
 have l2:=h2.length
 obtain⟨e,g1,g2⟩:=ou (A:=X.A.in1.in1) I h3 rw' h2 r (by rw[cT,cT];omega)
 unfold jp at h5;rw[List.findIdx?_eq_some_iff_getElem] at h5;obtain⟨hj,hp,hno⟩:=h5
 obtain⟨⟨cls,dd,data,sl⟩,ho,hc,n,hd⟩:=id pl
 simp only at hc hd;subst hc hd;have hj':j<its.length:=by omega
 have gt: ∀m (hm:m<its.length) (hm2:m<ds.length),e its[m]=cu ds[m] y:=λm hm hm2=>g2 m hm _ (List.getElem?_eq_getElem hm2)
 refine call_meets PySem.F.slot_tuple_index ⟨_,ho,rfl⟩ PySem.F.entry_tuple_index (PySem.F.args_tuple_index_2 _ _) (SeqAt.tuple_indexAt a its.toArray n dd sl w e j (by simpa using hj') ?_ ?_) ⟨ho,?_,?_⟩
 ·simp only[List.getElem_toArray];rw[gt j hj' hj];exact hp
 ·intro m hm hmj
  simp only[List.getElem_toArray];rw[gt m (by simpa using hm) (by omega)]
  have:=hno m hmj
  simpa using this
 ·intro z hz'
  exact SeqAt.EqAt.of_in1 (g1 z (by simpa using hz'))
 ·exact⟨.int j,H,I.tok _,⟨_,rfl⟩,q⟩
end
section
variable {X:Cx}{c:Ct}{e o:Expr}{k k2:Kd}{f g:FE}{pos p p2 apos:Pos}
def eE:D->D->Option D:=λt x=>match t with
 | .tup ds=>if ck ds<=32 then(jp ds x).map λj=>.int j else none
 |_=>none
theorem bY(hu:X.A.units+64<cLine)(ho:DP X c k o f)(he:DP X c k2 e g)
 (hbase:attributeBase o "index" X.env (eval o X.env)=eval o X.env:=by rfl)
 (hfew:((backTo pos (starEach [e] X.env)).all (λx=> !x.1)&&(backToKw pos (keywordEach [] X.env)).all (λx=>x.1.isSome)
   &&decide (([e]:List Expr).length+([]:List Keyword).length+(if([]:List Keyword).isEmpty then 0 else 1)<30))=true:=by rfl)
 (hline:(apos.endLine==pos.line)=true:=by rfl) (hs:starEach [e] X.env=(false,eval e X.env)::starEach [] X.env:=by rfl) (hplain:(backTo pos (starEach [] X.env)).any (·.1)=false:=by rfl):
 DP X c .s (.Call (.Attribute o "index" apos) [e] [] pos) (aq eE f g):=λhid ρ=>
 PE.imp (qb PySem.F.plainAttrs_tuple PySem.F.slot_tuple_index PySem.F.type_tuple_index (p4 hu) (ho hid ρ) (aV (he hid ρ) cv hs) hbase hfew hline hs hplain) λσ H Q hq_=>by
  obtain⟨sr,d,hd,q⟩:=hq_
  obtain⟨x,y,e1,e2,e3⟩:=iN hd
  unfold eE at e3;split at e3
  ·split at e3
   ·rename_i ds _
    cases e4:jp ds y with
    |none=>rw[e4] at e3;cases e3
    |some j=>
     rw[e4] at e3;cases e3;refine⟨sr,_,e1,λv H1 s1 r1=>?_⟩
     have b1:=RK.b k r1 λa n=>sr.fresh n
     obtain⟨a,xs,rfl,t1,t2,t3⟩:=b1.tup
     refine⟨.inr (.inl ⟨rfl,xs,t2⟩),sr.ext s1,y,e2,λu H2 s2 r2=>?_⟩
     have b2:=RK.b k2 r2 λa n=>(sr.ext s1).fresh n
     exact⟨a,xs,ds,u,y,j,rfl,rfl,Same.seqT s2 t2,(t3.mono (aN s2)).mono (eT _ _),b2.full, ‹_›,e4,q _ H2 (s1.trans s2) .int⟩
   ·cases e3
  ·cases e3
theorem uv:dH X (.type "range") (λxs H Q=> ∃j:Int,xs=[.int j]/\ ∀p,H p=none->Q (.ref p) (cw H p (.rng 0 j))):=by
 intro ae s σ H xs us Q I r h;obtain⟨j,rfl,q⟩:=h
 obtain⟨u,rfl,t,rfl⟩:=gH r
 refine call_range_1 ⟨.ref s.heap.objs.size,_,I.laid (λb o e=>Heap.get?_push_of_some _ e) (Nat.le_refl _) ?_,rfl,q _ (I.hok.fresh (Nat.le_refl _))⟩
 exact⟨_,_,_,Heap.get?_push_size _ rfl⟩
theorem uA:dH X (.type "range") (λxs H Q=> ∃i j:Int,xs=[.int i,.int j]/\ ∀p,H p=none->Q (.ref p) (cw H p (.rng i j))):=by
 intro ae s σ H xs us Q I r h;obtain⟨i,j,rfl,q⟩:=h
 obtain⟨u,w',rfl,⟨t,rfl⟩,⟨t',rfl⟩⟩:=tv r
 refine call_range_2 ⟨.ref s.heap.objs.size,_,I.laid (λb o e=>Heap.get?_push_of_some _ e) (Nat.le_refl _) ?_,rfl,q _ (I.hok.fresh (Nat.le_refl _))⟩
 exact⟨_,_,_,Heap.get?_push_size _ rfl⟩
theorem yV(lo:Int)(n:Nat): ∀ {K:W.Frag} {F:Hp},Reps K F ((List.range n).map λ(i:Nat)=>V.int (lo+i)) (qd lo n):=by
 intro K F;unfold qd
 generalize List.range n=l
 induction l with
 |nil=>exact .nil
 |cons a l ih=>exact .cons .int ih
theorem js(hc:X.calm=true):dH X (.type "list") (λxs H Q=> ∃p lo hi,xs=[.ref p]/\H p=some (.rng lo hi)/\ -(2^30)<=lo/\lo<=2^30/\ -(2^30)<=hi/\hi-lo<=1000000/\hi<=2^31/\ ∀l,H l=none->Q (.ref l) (cw H l (.lst ((List.range (hi-lo).toNat).map λ(i:Nat)=>V.int (lo+i))))):=by
 intro ae s σ H xs us Q I r h;obtain⟨p,lo,hi,rfl,hp,b1,b2,b3,b4,b5,q⟩:=h
 obtain⟨u,rfl,rx⟩:=gH r
 cases rx
 obtain⟨t,u,v,hr⟩:=I.hok p _ hp
 have hsz:Builtin.Range.rangeSize lo hi 1=(hi-lo).toNat:=by
  unfold Builtin.Range.rangeSize;rw[if_pos (by decide)]
  split
  ·rw[Int.ediv_one];omega
  ·omega
 refine call_list_range (a:=lo) (b:=hi) (c:=1) (n:=(hi-lo).toNat) (I.ok.hd hc) hr ?_ hsz (by omega) λh' tk acc' c' kp hS hacc=>?_
 ·exact small_one (by omega) (by omega) (by omega) (by omega)
 ·have hz:(hi-lo).toNat<=sizeLine:=by rw[sizeLine_eq];omega
  refine⟨.ref s.heap.objs.size,_,I.laid (t':=tk) kp (Nat.le_refl _) (show ObjOk X.prog X.w _ h' _ (.lst _) from⟨by simpa using hz,acc'.toList,c',?_,by simpa using hS⟩),rfl,q _ (I.hok.fresh (Nat.le_refl _))⟩
  obtain⟨ha,hb⟩:=hacc
  have key: ∀(l:List Value) (k m:Nat),l.length=m->(∀(j:Nat) v,l[j]? =some v-> ∃t,v=.int (lo+((k+j:Nat):Int)*1) t)->Vals ((List.range' k m).map λ(i:Nat)=>V.int (lo+i)) l:=by
   intro l
   induction l with
   |nil=>intro k m hm _;subst hm;exact .nil
   |cons x l ih=>
    intro k m hm hv;subst hm;rw[List.length_cons,List.range'_succ];refine .cons ?_ (ih (k+1) l.length rfl λj v e=>?_)
    ·obtain⟨t,rfl⟩:=hv 0 x rfl
     exact⟨t,by simp⟩
    ·obtain⟨t,rfl⟩:=hv (j+1) v (by simpa using e)
     exact⟨t,by congr 3;omega⟩
  have:=key acc'.toList 0 (hi-lo).toNat (by simpa using ha) λj v e=>by
   have:=hb j v (by simpa using e)
   simpa using this
  rw[List.range_eq_range'];exact this
def yt:D->Option D
 | .int j=>if j.natAbs<=1000000 then some (.lst (qd 0 j.toNat)) else none
 |_=>none
def uO(f:FE):FE:=λρ=>(f ρ).bind yt
theorem fx(hc:X.calm=true)(hml:X.mg "list"=none)(hmr:X.mg "range"=none)(he:DP X c k e f)(hgl:Gl X "list":=by rfl)(hgr:Gl X "range":=by rfl)(hvl:bootBuiltins "list"=some (.type "list"):=by kernel_rfl)(hvr:bootBuiltins "range"=some (.type "range"):=by kernel_rfl)
 (hs1:starEach [e] X.env=(false,eval e X.env)::starEach [] X.env:=by rfl) (hpl1:(backTo pos (starEach [] X.env)).any (·.1)=false:=by rfl) (hpl2:(backTo p2 (starEach [] X.env)).any (·.1)=false:=by rfl) {p3:Pos}
 (hs2:starEach [.Call (.Name "range" p3) [e] [] p2] X.env=(false,eval (.Call (.Name "range" p3) [e] [] p2) X.env)::starEach [] X.env:=by rfl):
 DP X c .n (.Call (.Name "list" p) [.Call (.Name "range" p3) [e] [] p2] [] pos) (uO f):=λhid ρ=>
 PE.imp (eB (js hc) hgl hml hvl (aV (eB uv hgr hmr hvr (aV (he hid ρ) cv hs1) (by decide) (by decide) hs1 hpl2) cv hs2) (by decide) (by decide) hs2 hpl1) λσ H Q hq_=>by
  obtain⟨sr,d,hd,q⟩:=hq_
  unfold uO at hd;cases e1:f ρ with
  |none=>rw[e1] at hd;cases hd
  |some z=>
   rw[e1] at hd;have hd:yt z=some d:=hd
   unfold yt at hd;split at hd
   ·split at hd
    ·rename_i _ j _ _
     cases hd
     refine⟨sr,_,e1,λv H1 s1 r1=>?_⟩
     have b1:=(RK.b k r1 λa n=>sr.fresh n).int
     cases b1
     refine⟨j,rfl,λr hr=>?_⟩
     refine⟨r,0,j,rfl,aY,by omega,by omega,by omega,by omega,by omega,λl hl=>?_⟩
     have s2:Same H (cw H1 r (.rng 0 j)):=s1.trans (bd hr _)
     refine q _ _ (s2.trans (bd hl _)) ?_
     have:=lR (hid:=hid) (K:=X.K) hl s2 (yV 0 (j-0).toNat)
     rw[show(j-0).toNat=j.toNat by omega] at this⊢
     exact this
    ·cases hd
   ·cases hd
def bx:=i2 (λ_ _=>true) λi j=>.int (i+j)
def iF:=i2 (λ_ _=>true) λi j=>.int (i-j)
def ee:=i2 (λi j=>decide (i.natAbs<2^1000)&&decide (j.natAbs<2^1000)) λi j=>.int (i*j)
def bz:=i2 (λ_ j=>decide (0<j)) λi j=>.int (i % j)
def gC:=i2 (λ_ j=>decide (0<j)&&decide (j.natAbs<2^1000)) λi j=>.int (i / j)
def eQ:=i2 (λi j=>decide (0<=j)&&decide (j<=1000000)&&decide (i.natAbs<2^64)) λi j=>.int (i^j.toNat)
def nX:=i2 (λ_ _=>true) λi j=>.bl (decide (i<j))
def Ee:=i2 (λ_ _=>true) λi j=>.bl (decide (j<i))
def CJ:=i2 (λ_ _=>true) λi j=>.bl (decide (j<=i))
theorem tP {i:Int}(h:i.natAbs<2^1000):Builtin.Int.intBits i<=2^20:=by
 unfold Builtin.Int.intBits;split
 ·exact Nat.zero_le _
 ·rename_i hz
  have h0:i.natAbs≠0:=by simp at hz;omega
  have:=(Nat.log2_lt h0).mpr h
  omega
theorem x5:jV X (binaryOp .Mult) (rI IntMulOk λi j=>.int (i*j)):=CC λ_ _ _ _ _ _ _ hc q=>mul_int q hc
variable {a b:Expr}
theorem dX {k1 k2:Kd}(ha:DP X c k1 a f)(hb:DP X c k2 b g):DP X c .s (.BinOp a .Add b pos) (aq bx f g):=me qL qr ha hb
theorem oS {k1 k2:Kd}(ha:DP X c k1 a f)(hb:DP X c k2 b g):DP X c .s (.BinOp a .Sub b pos) (aq iF f g):=me vk qr ha hb
theorem AB {K:W.Frag}:kL K .s (rI IntMulOk λi j=>.int (i*j)) ee:=xW λi j h=>by
 simp only[Bool.and_eq_true,decide_eq_true_eq] at h;exact IntMulOk.of_bits (tP h.1) (tP h.2)
theorem jF {k1 k2:Kd}(ha:DP X c k1 a f)(hb:DP X c k2 b g):DP X c .s (.BinOp a .Mult b pos) (aq ee f g):=me x5 AB ha hb
theorem zT {K:W.Frag}:kL K .s (rI (λ_ j=>0<j) λi j=>.int (i % j)) bz:=xW λi j h=>by simpa using h
theorem dZ {k1 k2:Kd}(ha:DP X c k1 a f)(hb:DP X c k2 b g):DP X c .s (.BinOp a .Mod b pos) (aq bz f g):=me zJ zT ha hb
theorem pY:jV X (binaryOp .FloorDiv) (rI (λ_ j=>0<j/\j.natAbs<2^1000) λi j=>.int (i / j)):=CC λi j _ _ _ _ _ hc q=>by
 obtain⟨h1,h2⟩:=hc
 refine floordiv_int (by omega) (by rw[Int.fdiv_eq_ediv_of_nonneg i (by omega)];exact q) (.inl (PyProof.noPylong_of_log2 ?_))
 have:=(Nat.log2_lt (n:=j.natAbs) (by omega)).mpr h2
 omega
theorem sG {K:W.Frag}:kL K .s (rI (λ_ j=>0<j/\j.natAbs<2^1000) λi j=>.int (i / j)) gC:=xW λi j h=>by
 simp only[Bool.and_eq_true,decide_eq_true_eq] at h;exact⟨h.1,h.2⟩
theorem nY {k1 k2:Kd}(ha:DP X c k1 a f)(hb:DP X c k2 b g):DP X c .s (.BinOp a .FloorDiv b pos) (aq gC f g):=me pY sG ha hb
theorem zu {K:W.Frag}:kL K .s (rI Ch λi j=>.int (i^j.toNat)) eQ:=xW λi j h=>by
 simp only[Bool.and_eq_true,decide_eq_true_eq] at h;exact⟨h.1.1,h.1.2,h.2⟩
theorem kl {k1 k2:Kd}(ha:DP X c k1 a f)(hb:DP X c k2 b g):DP X c .s (.BinOp a .Pow b pos) (aq eQ f g):=me Af zu ha hb
theorem vH {f g:GE}(ha:DE X c .s a f)(hb:DE X c .s b g):DE X c .s (.BinOp a .Add b pos) (lB bx f g):=Bk qL qr ha hb
def zl:D->Option D
 | .int i=>some (.int (-i))
 |_=>none
def iQ(f:FE):FE:=λρ=>(f ρ).bind zl
theorem ib(ha:DP X c k a f):DP X c .s (.UnaryOp .USub a pos) (iQ f):=λhid ρ=>PE.imp (B5 AE (ha hid ρ)) λσ H Q hq_=>by
 obtain⟨sr,d,hd,q⟩:=hq_
 unfold iQ at hd;cases e1:f ρ with
 |none=>rw[e1] at hd;cases hd
 |some z=>
  rw[e1] at hd;have hd:zl z=some d:=hd
  unfold zl at hd;split at hd
  ·cases hd
   refine⟨sr,_,e1,λv H1 s1 r1=>?_⟩
   cases (RK.b k r1 λa n=>sr.fresh n).int
   exact⟨_,rfl,q _ H1 s1 .int⟩
  ·cases hd
def oj:List D->Option D
 | [.int i]=>some (.int i)
 | [.bl b]=>some (.int (if b then 1 else 0))
 |_=>none
theorem qO:iS X.K .s (λxs H Q=>(∃i,xs=[.int i]/\Q (.int i) H)\/ ∃k,xs=[.bl k]/\Q (.int (if k then 1 else 0)) H) oj:=by
 intro H hid vs ds d Q hf h r q;unfold oj at h;split at h
 ·cases h
  obtain⟨x,rfl,r1⟩:=Reps1.one r
  cases r1.int
  exact .inl ⟨_,rfl,q _ H (Same.refl _) .int⟩
 ·cases h
  obtain⟨x,rfl,r1⟩:=Reps1.one r
  cases r1.bl
  exact .inr ⟨_,rfl,q _ H (Same.refl _) .int⟩
 ·cases h
end
structure Cl(P:Program)(w:World)(K:W.Frag)(mg:Str->Option Value)(base:Heap)(k:Nat)(x:Str)(ps:List Str)(sp:Sp):Prop where
 ex: ∃f fd,FnOk P w K mg base nM k f fd ps sp/\mg x=some (.ref f)/\W.keepIn K (.ref f)=true/\Binds K fd ps []
structure Df(K:W.Frag)(mg:Str->Option Value)(x:Str)(st:Stmt)(ps:List Str):Prop where
 ex: ∃f fd,Fun K x x st f fd/\mg x=some (.ref f)/\Binds K fd ps []
section
variable {P:Program}{w:World}{K:W.Frag}{mg:Str->Option Value}{base:Heap}{x:Str}{st:Stmt}{N ps:List Str}{k n:Nat}{t:FS}{kd:Kd}
theorem bo(F:Df K mg x st ps)(S:FnScope N ps (aj st))(hkd:kd≠ .b)(hn:ps.length=n)
 (body: ∀(f:Addr) (cdv:Value) (A:Around) (outer:List Env) (s:Shared) (H:Hp) (hid:bF) (E:XK),Room k (A.deeper (envOfC x (aj st) s.heap.objs.size f cdv))->
   qR (kJ nM P w K mg base N x (aj st) f cdv A outer s H E).nox ⟨H,hid,λ_=>false⟩ kd (aD st) t):
 Cl P w K mg base (k+1) x ps (eW K kd n (iJ kd N.length t)):=by
 obtain⟨f,fd,F,hm,hb⟩:=F.ex
 subst hn;exact⟨f,fd,t4 F S hkd (body f),hm,F.kp,hb⟩
theorem oV(F:Df K mg x st ps)(S:FnScope N ps (aj st))(hkd:kd≠ .b)(hn:ps.length=n+1)
 (body: ∀(f:Addr) (cdv:Value) (A:Around) (outer:List Env) (s:Shared) (H:Hp) (hid:bF) (a:Addr) (E:XK),Room k (A.deeper (envOfC x (aj st) s.heap.objs.size f cdv))->
   qR (kJ nM P w K mg base N x (aj st) f cdv A outer s H E).nox ⟨H,hid,λb=>decide (b=a)⟩ kd (aD st) t):
 Cl P w K mg base (k+1) x ps (qJ K kd n (qK kd N.length t)):=by
 obtain⟨f,fd,F,hm,hb⟩:=F.ex
 exact⟨f,fd,AY F S hkd hn (body f),hm,F.kp,hb⟩
end
section
variable {X:Cx}{c:Ct}{e a b:Expr}{es rest:List Expr}{k:Kd}{pos p:Pos}{x:Str}{ps:List Str}{j n:Nat}
def nF(n:Nat)(P:List D->Option D):List D->Option D:=λds=>if ds.length=n then P ds else none
theorem bX {P:List D->Option D}{fs:FA}(C:Cl X.prog X.w X.K X.mg X.base j x ps (eW X.K k n P))(hr:Room j X.A)
 (ha:DA X c (e::es) fs) (hg:Gl X x:=by rfl) (hdb:(x==("__debug__":Str))=false:=by decide) (he:starEach (e::es) X.env=(false,eval e X.env)::starEach es X.env:=by rfl) (hpl:(backTo pos (starEach es X.env)).any (·.1)=false:=by rfl):
 DP X c k (.Call (.Name x p) (e::es) [] pos) (ak (nF n P) fs):=by
 obtain⟨f,fd,F,hm,hk,hb⟩:=C.ex
 exact x8 F hr hm hk hb ha hg hdb he hpl
theorem iu(i:Nat){y:Str}{py:Pos}{M:List D->List D->Option (D×List D)}{fs:GA}(C:Cl X.prog X.w X.K X.mg X.base j x ps (qJ X.K k n M))(hr:Room j X.A)
 (ha:DG X c es fs) (hkb:k≠ .b:=by decide) (hN:X.N[i]? =some y:=by rfl) (hv:rf X.env.scope y:=by first|exact Or.inl rfl|exact Or.inr (Or.inl rfl)|exact Or.inr (Or.inr rfl)) (hd:(y==("__debug__":Str))=false:=by decide)
 (hcd:(y==("__classdict__":Str))=false:=by decide) (hs:starEach (.Name y py::es) X.env=(false,eval (.Name y py) X.env)::starEach es X.env:=by rfl) (hg:Gl X x:=by rfl) (hdb:(x==("__debug__":Str))=false:=by decide) (hpl:(backTo pos (starEach es X.env)).any (·.1)=false:=by rfl):
 DE X c k (.Call (.Name x p) (.Name y py::es) [] pos) (aF i n M fs):=by
 obtain⟨f,fd,F,hm,hk,hb⟩:=C.ex
 exact vO i F hr hm hk hb ha hkb hN hv hd hcd hs hg hdb hpl
end
open PySem PySem.W PyProof.Rows
open PySem PySem.W PySem.Calls PyProof.Rows
open PySem PySem.W PySem.Spec PyProof.Rows
section
variable {α:Type}{lt:α->α->Bool}
theorem rM(ts:List α)(d:α):(List.range ts.length).map (λi=>ts.getD i d)=ts:=List.ext_getElem? λi=>by
 by_cases hi:i<ts.length
 ·simp[hi]
 ·simp[hi]
end
def B0(k:List Int):D:=.tup (k.map D.int)
section
variable {X:Cx}{c:Ct}{e a b:Expr}{es rest:List Expr}{f g:GE}{fs:GA}{k:Kd}{pos p:Pos}{x:Str}{id T:String}{r:List V->Hp->VK->Prop}{F:List D->Option D}{ps:List Str}{j n:Nat}
def ur(fs:GA):GE:=λρ=>(fs ρ).bind λq=>if q.1.length<=sizeLine then some (.tup q.1,q.2) else none
theorem uT {ρ ρ':aC}{d:D}(h:ur fs ρ=some (d,ρ')): ∃ds,fs ρ=some (ds,ρ')/\ds.length<=sizeLine/\d=.tup ds:=by
 unfold ur at h;cases e:fs ρ with
 |none=>rw[e] at h;cases h
 |some q=>
  rw[e] at h;dsimp only[Option.bind] at h;split at h
  ·cases h;exact⟨q.1,rfl, ‹_›,rfl⟩
  ·cases h
theorem Aa {x1}(h:DG X c es fs):DE X c .s (.Tuple es x1 pos) (ur fs):=λhid ρ=>PE.imp (vY (h hid ρ)) λσ H Q hq_=>by
 obtain⟨sr,d,ρ',hd,q⟩:=hq_
 obtain⟨ds,e1,hz,rfl⟩:=uT hd
 exact⟨sr,ds,ρ',e1,λvs H1 k1 s1 r1=>⟨by rw[r1.length];exact hz,λp hp=>q _ _ (PostE.left k1 (s1.post (k:=.s) (bd hp _) (iU hp (s1.fresh hp) r1) (by decide)))⟩⟩
end
section
variable {prog:Program}{w:World}{A:Around}{R:Result->Shared->Prop}{s:Shared}{elt t1 t2 i1 i2:Expr}{ifs1 ifs2:List Expr}{scope:Scope}{pos:Pos}{it acc:Value}{env:Env}
theorem yL:compTurn (.ListComp elt [⟨t1,i1,ifs1,0⟩,⟨t2,i2,ifs2,0⟩] scope pos) 1 it acc env=(do
 standAt i2.pos
 match <-pyNext it with
 |none=>pure (.done .next)
 |some v=>
  letOwnedTupleGo t2 it v
  assign t2 env v
  let ok <-jY ifs2 env
  if ok=true then do(do let _ <-call (.builtin "list.append") [acc,<-eval elt env]);again (.compLoop (.ListComp elt [⟨t1,i1,ifs1,0⟩,⟨t2,i2,ifs2,0⟩] scope pos) 1 it acc env)
  else again (.compLoop (.ListComp elt [⟨t1,i1,ifs1,0⟩,⟨t2,i2,ifs2,0⟩] scope pos) 1 it acc env)):=by rfl
theorem vV:compTurn (.ListComp elt [⟨t1,i1,ifs1,0⟩,⟨t2,i2,ifs2,0⟩] scope pos) 0 it acc env=(do
 standAt i1.pos
 match <-pyNext it with
 |none=>pure (.done .next)
 |some v=>
  letOwnedTupleGo t1 it v
  assign t1 env v
  let ok <-jY ifs1 env
  if ok=true then do
   let x <-eval i2 env
   standAt i2.pos
   let x <-foldedSetIterable i2 env x
   let _ <-runOwn (.compStart (.ListComp elt [⟨t1,i1,ifs1,0⟩,⟨t2,i2,ifs2,0⟩] scope pos) 1 (<-holding [x] (pyIter x)) acc env) env
   again (.compLoop (.ListComp elt [⟨t1,i1,ifs1,0⟩,⟨t2,i2,ifs2,0⟩] scope pos) 0 it acc env)
  else again (.compLoop (.ListComp elt [⟨t1,i1,ifs1,0⟩,⟨t2,i2,ifs2,0⟩] scope pos) 0 it acc env)):=by rfl
abbrev wl:=(Shared->Prop)->Shared->Prop
def sU(prog:Program)(w:World)(A:Around)(elt:Expr)(acc:Value)(env:Env):wl:=λQ s=>
 wpAny (model prog w) A (eval elt env) (λx s₄=>wpAny (model prog w) A (call (.builtin "list.append") [acc,x]) (λ_ s₅=>Q s₅) (λ_ _=>False) s₄) (λ_ _=>False) s
def oP(prog:Program)(w:World)(A:Around)(e iter:Expr)(acc:Value)(env:Env):wl:=λQ s=>
 wpAny (model prog w) A (eval iter env) (λx s₄=>wpAny (model prog w) A (pyIter x) (λit s₅=>codeAny (model prog w) A (.compStart e 1 it acc env) (λr s'=>match r with
  | .ok _=>Q s'
  | .error _=>False) s₅) (λ_ _=>False) s₄) (λ_ _=>False) s
def vF(prog:Program)(w:World)(A:Around)(code:Code)(tg:Expr)(ifs:List Expr)(it:Value)(env:Env)(TA:wl)(R:Result->Shared->Prop):Prop:= ∀(I:Nat->Shared->Prop),
 (∀n s,I n s->wpAny (model prog w) A (pyNext it) (λr s₁=>match r with
   |none=>R (.ok .next) s₁
   |some v=>wpAny (model prog w) A (letOwnedTupleGo tg it v) (λ_ s₁=>wpAny (model prog w) A (assign tg env v) (λ_ s₂=>
     wpAny (model prog w) A (jY ifs env) (λok s₃=>
      if ok=true then TA (λs₅=> ∃m,m<n/\I m s₅) s₃
      else∃m,m<n/\I m s₃) (λ_ _=>False) s₂) (λ_ _=>False) s₁) (λ_ _=>False) s₁) (λ_ _=>False) s)->
 ∀(n:Nat) (s:Shared),I n s->codeAny (model prog w) A code R s
theorem wS:vF prog w A (.compLoop (.ListComp elt [⟨t1,i1,ifs1,0⟩,⟨t2,i2,ifs2,0⟩] scope pos) 1 it acc env) t2 ifs2 it env (sU prog w A elt acc env) R:=by
 intro I turn n s h;have no: ∀ {E':Value->Shared->Prop} (x:Value) (s:Shared),False->E' x s:=λ_ _ z=>z.elim
 refine codeAny_loop rfl I (λn s hI=>?_) n h
 show wpAny _ A ((compTurn (.ListComp elt [⟨t1,i1,ifs1,0⟩,⟨t2,i2,ifs2,0⟩] scope pos) 1 it acc env).onRaise (λx=>do noteFrame x env;theTreesLotGoes x)) _ _ s
 refine wpAny_noted ?_
 rw[yL];refine wpAny_bind (wpAny_standAt (wpAny_bind (wpAny_mono (turn n s hI) (λr s₁ h₁=>?_) no)))
 cases r with
 |none=>exact wpAny_pure h₁
 |some v=>
  refine wpAny_bind (wpAny_mono h₁ (λ_ s₁ h₁=>wpAny_bind (wpAny_mono h₁ (λ_ s₂ h₂=>wpAny_bind (wpAny_mono h₂ (λok s₃ h₃=>?_) no)) no)) no)
  cases ok with
  |false=>exact wpAny_pure ⟨rfl,h₃⟩
  |true=>exact wpAny_bind (wpAny_bind (wpAny_mono h₃ (λx s₄ h₄=>wpAny_bind (wpAny_mono h₄ (λ_ s₅ h₅=>wpAny_pure (wpAny_pure ⟨rfl,h₅⟩)) no)) no))
theorem ui(hset: ∀x,foldedSetIterable i2 env x=pure x):vF prog w A (.compLoop (.ListComp elt [⟨t1,i1,ifs1,0⟩,⟨t2,i2,ifs2,0⟩] scope pos) 0 it acc env) t1 ifs1 it env (oP prog w A (.ListComp elt [⟨t1,i1,ifs1,0⟩,⟨t2,i2,ifs2,0⟩] scope pos) i2 acc env) R:=by
 intro I turn n s h;have no: ∀ {E':Value->Shared->Prop} (x:Value) (s:Shared),False->E' x s:=λ_ _ z=>z.elim
 refine codeAny_loop rfl I (λn s hI=>?_) n h
 show wpAny _ A ((compTurn (.ListComp elt [⟨t1,i1,ifs1,0⟩,⟨t2,i2,ifs2,0⟩] scope pos) 0 it acc env).onRaise (λx=>do noteFrame x env;theTreesLotGoes x)) _ _ s
 refine wpAny_noted ?_
 rw[vV];refine wpAny_bind (wpAny_standAt (wpAny_bind (wpAny_mono (turn n s hI) (λr s₁ h₁=>?_) no)))
 cases r with
 |none=>exact wpAny_pure h₁
 |some v=>
  refine wpAny_bind (wpAny_mono h₁ (λ_ s₁ h₁=>wpAny_bind (wpAny_mono h₁ (λ_ s₂ h₂=>wpAny_bind (wpAny_mono h₂ (λok s₃ h₃=>?_) no)) no)) no)
  cases ok with
  |false=>exact wpAny_pure ⟨rfl,h₃⟩
  |true=>
   refine wpAny_bind (wpAny_mono h₃ (λx s₄ h₄=>wpAny_bind (wpAny_standAt (wpAny_bind (wpAny_of_eq (hset x) (wpAny_bind (wpAny_holding (wpAny_mono h₄ (λit2 s₅ h₅=>?_) no))))))) no)
   refine wpAny_bind (wpAny_runOwn (codeAny_mono h₅ λr s' hr=>?_))
   cases r with
   |ok f=>exact wpAny_pure ⟨rfl,hr⟩
   |error e=>exact hr.elim
end
def mI(g:FG)(p:FT)(A:FA)(ρ0:aC):List D->Option (List D)
 | []=>some []
 |d::r=>(g d ρ0).bind λρ1=>(p ρ1).bind λb=>if b=true then(A ρ1).bind λys=>(mI g p A ρ0 r).map (ys++ ·) else mI g p A ρ0 r
def De(n:Nat)(ρ:aC):Prop:= ∀(i:Nat) (s:Sl),n<=i->ρ[i]? =some s->s=.no
def vN(Y:Cx)(c:Ct)(hid:bF)(D0:Addr)(L W:Hp)(A:FA)(TA:wl)(ρ1:aC):Prop:= ∀(ae:List (Addr×Obj)) (s:Shared) (σ:St) (H:Hp) (xs:List V) (ad zs:List D) (Q:Shared->Prop),Inv Y ae σ H s->SR Y.K c hid ρ1 σ H->
 H D0=some (.lst xs)->Reps Y.K (vw H hid) xs ad->xs.length+zs.length<=sizeLine->Same L H->Same W (vw H hid)->(∀i:Nat,Ow ρ1[i]? ->σ[i]? ≠some (some (.ref D0)))->A ρ1=some zs->
 (∀(s':Shared) (σ':St) (H':Hp) (xs':List V),Inv Y ae σ' H' s'->SR Y.K c hid ρ1 σ' H'->H' D0=some (.lst xs')->Reps Y.K (vw H' hid) xs' (ad++zs)->Same L H'->Same (vw H hid) (vw H' hid)->(∀i:Nat,Ow ρ1[i]? ->σ'[i]? ≠some (some (.ref D0)))->Q s')->TA Q s
section
variable {Y:Cx}{c:Ct}{tg:Expr}{ifs:List Expr}{g:FG}{p:FT}{A:FA}{TA:wl}{code:Code}
structure CLG(Y:Cx)(ae:List (Addr×Obj))(c:Ct)(hid:bF)(ρ0:aC)(L W H3:Hp)(D0:Addr)(fp:List Addr)(tn:Nat->Heap->Prop)(g:FG)(p:FT)(A:FA)(ds ys ad0:List D)(n i:Nat)(xs:List V)(ad:List D)(σ':St)(H':Hp)(s':Shared):Prop where
 e:n=ds.length-i
 hi:i<=ds.length
 I:Inv Y ae σ' H' s'
 st:tn i s'.heap
 fr: ∀b∈fp,H' b=none
 sr:SR Y.K c hid ρ0 σ' H'
 sm:Same L H'
 ac:H' D0=some (.lst xs)
 rp:Reps Y.K (vw H' hid) xs ad
 w:Same W (vw H' hid)
 v:Same (vw H3 hid) (vw H' hid)
 na: ∀i:Nat,Ow ρ0[i]? ->σ'[i]? ≠some (some (.ref D0))
 go: ∃rest,mI g p A ρ0 (ds.drop i)=some rest/\ad++rest=ad0++ys
theorem pA(hcalm:Y.calm=true)(hxe:Y.xe=λ_ _=>False){n0:Nat}(hT:jP n0 g)(hg:sH Y c tg g)(hp:tL Y c ifs p)
 {ae:List (Addr×Obj)} {σ3:St} {H3 L W:Hp} {s4:Shared} {hid:bF} {ρ0:aC} {J:It} {it D0:Addr} {fp:List Addr} {tn:Nat->Heap->Prop} {ds ys ad0:List D} {xs0:List V} {R:Result->Shared->Prop}
 (hA: ∀d ρ1,g d ρ0=some ρ1->vN Y c hid D0 L W A TA ρ1)
 (hN:De n0 ρ0) (I:Inv Y ae σ3 H3 s4) (sr:SR Y.K c hid ρ0 σ3 H3) (hh:hid D0=true) (na: ∀i:Nat,Ow ρ0[i]? ->σ3[i]? ≠some (some (.ref D0))) (hacc:H3 D0=some (.lst xs0)) (rp0:Reps Y.K (vw H3 hid) xs0 ad0) (sm:Same L H3) (wv:Same W (vw H3 hid)) (T:Turn Y.prog Y.w Y.K tg J fp it tn) (st:tn 0 s4.heap) (hF: ∀b∈fp,jq Y ae H3 b)
 (io:B9 Y.K L W J ds) (hz:ad0.length+ys.length<=sizeLine) (hc:mI g p A ρ0 ds=some ys)
 (hTP:vF Y.prog Y.w Y.A code tg ifs (.ref it) Y.env TA R)
 (hR: ∀(s':Shared) (σ':St) (H':Hp) (xs:List V),Inv Y ae σ' H' s'->SR Y.K c hid ρ0 σ' H'->Same L H'->H' D0=some (.lst xs)->Reps Y.K (vw H' hid) xs (ad0++ys)->Same (vw H3 hid) (vw H' hid)->(∀i:Nat,Ow ρ0[i]? ->σ'[i]? ≠some (some (.ref D0)))->R (.ok .next) s'):
 codeAny (model Y.prog Y.w) Y.A code R s4:=by
 have stat: ∀ {H':Hp},(∀b∈fp,H' b=none)-> ∀b∈fp,jq Y ae H' b:=λ{H'} hn b hb=>⟨hn b hb,(hF b hb).2⟩
 refine hTP (λn s'=> ∃(i:Nat) (xs:List V) (ad:List D) (σ':St) (H':Hp),CLG Y ae c hid ρ0 L W H3 D0 fp tn g p A ds ys ad0 n i xs ad σ' H' s') ?_ ds.length s4
  ⟨0,xs0,ad0,σ3,H3,by simp,Nat.zero_le _,I,st,λb hb=>(hF b hb).1,sr,sm,hacc,rp0,wv,Same.refl _,na,ys,by simpa using hc,rfl⟩
 rintro n s5 ⟨i,xs,ad,σ5,H5,rfl,hi,I5,st5,f5,sr5,sm5,ac5,rp5,w5,v5,na5,rest,hc5,hy5⟩
 have wH:Same W H5:=w5.trans (eT _ _)
 by_cases hlt:i<ds.length
 ·have hd:ds[i]? =some ds[i]:=List.getElem?_eq_getElem hlt
  have e2:ds.drop i=ds[i]::ds.drop (i+1):=List.drop_eq_getElem_cons hlt
  rw[e2] at hc5;unfold mI at hc5;obtain⟨go,yl⟩:=io.1 i ds[i] H5 hd sm5 wH
  refine cI (T.item Y rfl rfl rfl hcalm i ae s5 σ5 H5 (λ_ _=>False) I5 (stat f5) st5 go) λr s6 hq_=>?_
  obtain⟨u,hr,h6⟩:=hq_
  subst hr;refine cI h6 λ_ s7 hq_=>?_
  obtain⟨x,H7,I7,r7,y7,st7,f7⟩:=hq_
  obtain⟨s7',rp⟩:=yl x H7 y7
  have rx:=rp hid sr5.tr w5
  have I7':=I7.pinned (stat f7) (T.obj _ _ st7)
  cases e3:g ds[i] ρ0 with
  |none=>rw[e3] at hc5;cases hc5
  |some ρ1=>
   rw[e3] at hc5;have hc5:(p ρ1).bind (λb=>if b=true then(A ρ1).bind λys=>(mI g p A ρ0 (ds.drop (i+1))).map (ys++ ·) else mI g p A ρ0 (ds.drop (i+1)))=some rest:=hc5
   obtain⟨tl1,tl2⟩:=hT _ _ _ e3
   have fg: ∀ {σ':St} {H':Hp},SR Y.K c hid ρ1 σ' H'->SR Y.K c hid ρ0 σ' H':=λ{σ' H'} z=>z.forget tl1 λj s e=>by
    by_cases hj:j<n0
    ·exact .inr ((tl2 j hj).trans e)
    ·exact .inl (hN j s (by omega) e)
   have ow01: ∀j:Nat,Ow ρ0[j]? ->Ow ρ1[j]? :=λj o=>by
    by_cases hj:j<n0
    ·rw[tl2 j hj];exact o
    ·exfalso
     cases e:ρ0[j]? with
     |none=>rw[e] at o;exact o
     |some s=>have:=hN j s (by omega) e;subst this;rw[e] at o;exact o
   have keepT: ∀ {σ':St} {H':Hp} {s':Shared},Inv Y (ae++kx fp s7.heap) σ' H' s'->tn (i+1) s'.heap/\ ∀b∈fp,H' b=none:=λ{σ' H' s'} J'=>by
    refine⟨T.keep _ _ _ st7 λb hb o e=>(J'.pin (b,o) (List.mem_append_right _ (List.mem_append_right _ (fe hb e)))).1,λb hb=>?_⟩
    obtain⟨o,e,_⟩:=T.obj _ _ st7 b hb
    exact(J'.pin (b,o) (List.mem_append_right _ (List.mem_append_right _ (fe hb e)))).2.1
   refine cI (hxe▸hg hid ρ0 ds[i] _ s7 σ5 H7 x u (λσ' H'=>H'=H7/\SR Y.K c hid ρ1 σ' H7/\OwK ρ0 ρ1 σ5 σ') I7' r7 ⟨sr5.ext s7',rx,ρ1,e3,λσ' z o=>⟨rfl,z,o⟩⟩) λ_ s8 hq_=>?_
   obtain⟨σ8,H8,I8,e8,q8,o8⟩:=hq_
   subst e8;have na1: ∀j:Nat,Ow ρ1[j]? ->σ8[j]? ≠some (some (.ref D0)):=λj o=>by
    rw[(o8 j o).2];exact na5 j (o8 j o).1
   cases e4:p ρ1 with
   |none=>rw[e4] at hc5;cases hc5
   |some b=>
    rw[e4] at hc5;have hc5:(if b=true then(A ρ1).bind λys=>(mI g p A ρ0 (ds.drop (i+1))).map (ys++ ·) else mI g p A ρ0 (ds.drop (i+1)))=some rest:=hc5
    refine cI (hxe▸hp hid ρ1 _ s8 σ8 H8 (λb' H'=>b'=b/\Same H8 H') I8 ⟨q8,b,e4,λH' s'=>⟨rfl,s'⟩⟩) λok s9 hq_=>?_
    obtain⟨H9,I9,e9,sm9⟩:=hq_
    subst e9;have w9:Same (vw H5 hid) (vw H9 hid):=aN (s7'.trans sm9)
    cases ok with
    |false=>
     have hc5:mI g p A ρ0 (ds.drop (i+1))=some rest:=hc5
     obtain⟨k1,k2⟩:=keepT I9
     exact⟨ds.length- (i+1),by omega,i+1,xs,ad,σ8,H9,rfl,hlt,I9.unpinned,k1,k2,fg (q8.ext sm9),sm5.trans (s7'.trans sm9),sm9 _ _ (s7' _ _ ac5),rp5.mono w9,w5.trans w9,v5.trans w9,λj o=>na1 j (ow01 j o),rest,hc5,hy5⟩
    |true=>
     have hc5:((A ρ1).bind λys=>(mI g p A ρ0 (ds.drop (i+1))).map (ys++ ·))=some rest:=hc5
     cases e5:A ρ1 with
     |none=>rw[e5] at hc5;cases hc5
     |some zs=>
      rw[e5] at hc5;have hc5:(mI g p A ρ0 (ds.drop (i+1))).map (zs++ ·)=some rest:=hc5
      cases e6:mI g p A ρ0 (ds.drop (i+1)) with
      |none=>rw[e6] at hc5;cases hc5
      |some rest'=>
       rw[e6] at hc5;cases hc5
       have l1:=rp5.length
       have l2:=congrArg List.length hy5
       simp only[List.length_append] at l2;refine hA ds[i] ρ1 e3 _ s9 σ8 H9 xs ad zs _ I9 (q8.ext sm9) (sm9 _ _ (s7' _ _ ac5)) (rp5.mono w9) (by omega) (sm5.trans (s7'.trans sm9)) (w5.trans w9) na1 e5 λs10 σ10 H10 xs' I10 q10 a10 rp10 smL v10 na10=>?_
       obtain⟨k1,k2⟩:=keepT I10
       exact⟨ds.length- (i+1),by omega,i+1,xs',ad++zs,σ10,H10,rfl,hlt,I10.unpinned,k1,k2,fg q10,smL,a10,rp10,(w5.trans w9).trans v10,(v5.trans w9).trans v10,λj o=>na10 j (ow01 j o),rest',e6,by rw[<-hy5];simp⟩
 ·have e:i=ds.length:=by omega
  subst e;rw[List.drop_eq_nil_of_le (Nat.le_refl _)] at hc5;cases hc5
  rw[List.append_nil] at hy5;subst hy5;refine cI (T.done Y rfl rfl rfl hcalm ds.length ae s5 σ5 H5 (λ_ _=>False) I5 (stat f5) st5 (io.2 H5 sm5 wH)) λr s6 hq_=>?_
  obtain⟨hr,I6⟩:=hq_
  subst hr;exact hR s6 σ5 H5 xs I6 sr5 sm5 ac5 rp5 v5 na5
end
def pU(f:FE):FA:=λρ=>(f ρ).map λd=>[d]
def xb(gi:FA)(g:FG)(p:FT)(f:FE):FA:=λρ1=>(gi ρ1).bind λds=>mI g p (pU f) ρ1 ds
def uR(m:Nat)(gi1:FA)(g1:FG)(p1:FT)(gi2:FA)(g2:FG)(p2:FT)(f:FE):FE:=λρ=>(gi1 ρ).bind λds=>(mI g1 p1 (xb gi2 g2 p2 f) (ρ++List.replicate m .no) ds).bind λys=>if ys.length<=sizeLine then some (.lst ys) else none
theorem uL {m:Nat}{gi1 gi2:FA}{g1 g2:FG}{p1 p2:FT}{f:FE}{ρ:aC}{d:D}(h:uR m gi1 g1 p1 gi2 g2 p2 f ρ=some d): ∃ds ys,gi1 ρ=some ds/\mI g1 p1 (xb gi2 g2 p2 f) (ρ++List.replicate m .no) ds=some ys/\ys.length<=sizeLine/\d=.lst ys:=by
 unfold uR at h;cases e1:gi1 ρ with
 |none=>rw[e1] at h;cases h
 |some ds=>
  rw[e1] at h;dsimp only[Option.bind] at h;cases e2:mI g1 p1 (xb gi2 g2 p2 f) (ρ++List.replicate m .no) ds with
  |none=>rw[e2] at h;cases h
  |some ys=>
   rw[e2] at h;dsimp only at h;split at h
   ·cases h;exact⟨ds,ys,rfl,e2, ‹_›,rfl⟩
   ·cases h
def zC(n:Nat)(g:FG):Prop:= ∀d (ρ0 ρ1:aC),g d ρ0=some ρ1-> ∀i:Nat,n<=i->ρ1[i]? =ρ0[i]?
theorem Dh {n i:Nat}(h:i<n):zC n (gN i):=λd ρ0 ρ1 e=>by
 cases e
 exact λj hj=>List.getElem?_set_ne (by omega)
section
variable {prog:Program}{w:World}{A:Around}{R:Result->Shared->Prop}{s:Shared}{elt t1 t2 i1 i2:Expr}{ifs1 ifs2:List Expr}{scope:Scope}{pos:Pos}{it acc:Value}{env:Env}
theorem vd
 (h0:codeAny (model prog w) A (.compLoop (.ListComp elt [⟨t1,i1,ifs1,0⟩,⟨t2,i2,ifs2,0⟩] scope pos) 1 it acc env) R s)
 (h:wpAny (model prog w) A (pyIter it) (λit' s'=>codeAny (model prog w) A (.compLoop (.ListComp elt [⟨t1,i1,ifs1,0⟩,⟨t2,i2,ifs2,0⟩] scope pos) 1 it' acc env) R s')
   (notedBy (model prog w) A env λx s'=>R (.error x) s') s):
 codeAny (model prog w) A (.compStart (.ListComp elt [⟨t1,i1,ifs1,0⟩,⟨t2,i2,ifs2,0⟩] scope pos) 1 it acc env) R s:=by
 refine codeAny_of_tree (show wpAny _ _ ((compStart (.ListComp elt [⟨t1,i1,ifs1,0⟩,⟨t2,i2,ifs2,0⟩] scope pos) 1 it acc env).onRaise (λx=>do noteFrame x env;standAt theWindowsPlace)) _ _ s from wpAny_notedAt ?_)
 unfold compStart;show wpAny _ _ (ask>>=_) _ _ s;refine wpAny_bind (wpAny_askSetting (wpAny_ite ?_))
 split
 ·first
   |exact wpAny_bind (wpAny_pure (wpAny_pure (And.intro rfl h0)))
   |exact wpAny_pure (And.intro rfl h0)
 ·first
   |exact wpAny_bind (wpAny_rule (wpAny_bind (wpAny_standAt (wpAny_bind (wpAny_mono h (λit' s' h'=>wpAny_pure (And.intro rfl h')) λ_ _ x=>x)))))
   |(refine wpAny_bind (wpAny_rule ?_);show wpAny _ _ (standAt i2.pos>>=_) _ _ s;exact wpAny_bind (wpAny_standAt (wpAny_bind (wpAny_mono h (λit' s' h'=>wpAny_pure (And.intro rfl h')) λ_ _ x=>x))))
end
section
variable {Y:Cx}{c:Ct}{elt t1 t2 i1 i2:Expr}{ifs1 ifs2:List Expr}{scope:Scope}{pos:Pos}{f:FE}{g2:FG}{p2:FT}{gi2:FA}{hid:bF}{D0:Addr}{L W:Hp}{ρ1:aC}
theorem w8(hxe:Y.xe=λ_ _=>False)(he:DP Y c .s elt f)(hh:hid D0=true)(h00:c.H₀ D0=none)(nD:L D0=none):vN Y c hid D0 L W (pU f) (sU Y.prog Y.w Y.A elt (.ref D0) Y.env) ρ1:=by
 intro ae s σ H xs ad zs Q I sr ac rp hz smL wv na hA hQ;unfold pU at hA;cases e5:f ρ1 with
 |none=>rw[e5] at hA;cases hA
 |some y=>
  rw[e5] at hA;cases hA;unfold sU;refine cI (hxe▸he hid ρ1 _ s σ H (λv H'=>Same H H'/\Rep Y.K (vw H' hid) v y) I ⟨sr,y,e5,λv H' s' r=>⟨s',r⟩⟩) λv s10 hq_=>?_
  obtain⟨z,H10,I10,rz,sm10,rp10⟩:=hq_
  have a10:H10 D0=some (.lst xs):=sm10 _ _ ac
  refine cI (hxe▸eY (X:=Y) _ s10 σ H10 (.ref D0) [z] (.ref D0) [v] (λ_ H'=>H'=cw H10 D0 (.lst (xs++[z]))) I10 rfl (.cons rz .nil) ⟨D0,xs,z,rfl,rfl,a10,by simp at hz;omega,rfl⟩) λ_ s11 ⟨_,H11,I11,_,e11⟩=>?_
  subst e11;have vv:vw (cw H10 D0 (.lst (xs++[z]))) hid=vw H10 hid:=gK hh
  have w10:Same (vw H hid) (vw H10 hid):=aN sm10
  refine hQ s11 σ _ (xs++[z]) I11 ((sr.ext sm10).write hh h00 na a10) aY ?_ (λb o e=>?_) ?_ na
  ·rw[vv];exact(rp.mono w10).append (.cons rp10 .nil)
  ·rw[aI (bR e nD)];exact sm10 _ _ (smL _ _ e)
  ·rw[vv];exact w10
theorem uq(hcalm:Y.calm=true)(hxe:Y.xe=λ_ _=>False){n1:Nat}(hT:jP n1 g2)(hN:De n1 ρ1)(hi:DIp Y c t2 i2 gi2)(hg:sH Y c t2 g2)(hp:tL Y c ifs2 p2)(he:DP Y c .s elt f)(hh:hid D0=true)(h00:c.H₀ D0=none)(nD:L D0=none):
 vN Y c hid D0 L W (xb gi2 g2 p2 f) (oP Y.prog Y.w Y.A (.ListComp elt [⟨t1,i1,ifs1,0⟩,⟨t2,i2,ifs2,0⟩] scope pos) i2 (.ref D0) Y.env) ρ1:=by
 intro ae s σ H xs ad zs Q I sr ac rp hz smL wv na hA hQ;unfold xb at hA;cases e5:gi2 ρ1 with
 |none=>rw[e5] at hA;cases hA
 |some ds=>
  rw[e5] at hA;have hA:mI g2 p2 (pU f) ρ1 ds=some zs:=hA
  unfold oP;refine cI (hxe▸hi hid ρ1 ae s σ H (λJ H'=>Same H H'/\ItOk Y.K (vw H' hid) J ds) I ⟨sr,ds,e5,λJ H' s1 io=>⟨s1,io⟩⟩) λv s1 h1=>cI h1 λitv s2 h2=>?_
  obtain⟨it,fp,tn,J,H2,rfl,I2,T,st2,f2,sm,io⟩:=h2
  have l1:=rp.length
  have loop:codeAny (model Y.prog Y.w) Y.A (.compLoop (.ListComp elt [⟨t1,i1,ifs1,0⟩,⟨t2,i2,ifs2,0⟩] scope pos) 1 (.ref it) (.ref D0) Y.env) (λr s'=>match r with
   | .ok _=>Q s'
   | .error _=>False) s2:=by
   refine pA (L:=L) (W:=vw H2 hid) (ad0:=ad) (xs0:=xs) (A:=pU f) (TA:=sU Y.prog Y.w Y.A elt (.ref D0) Y.env) hcalm hxe hT hg hp (λd ρ2 _=>w8 hxe he hh h00 nD) hN I2 (sr.ext sm) hh na (sm _ _ ac) (rp.mono (aN sm)) (smL.trans sm) (Same.refl _) T st2 f2 io.b (by omega) hA wS ?_
   intro s' σ' H' xs' I' sr' smL' ac' rp' v' na';exact hQ s' σ' H' xs' I' sr' ac' rp' smL' ((aN sm).trans v') na'
  exact vd loop (T.self Y.A 0 _ _ _ st2 loop)
end
section
variable {X:Cx}{c:Ct}{elt t1 t2 i1 i2:Expr}{ifs1 ifs2:List Expr}{scope:Scope}{pos:Pos}{N':List Str}{m n1:Nat}{gi1 gi2:FA}{g1 g2:FG}{p1 p2:FT}{f:FE}
theorem pW(hcalm:X.calm=true)(hk:scope.kind=.function)(hs:u0 scope X.env.scope=true)(hn:u3 X.N N' scope=true)(hm:N'.length-X.N.length=m)(hT1:jP X.N.length g1)(hU1:zC n1 g1)(hn1:X.N.length<=n1)(hT2:jP n1 g2)
 (hset: ∀C s₀ H₀ ex,∀x,foldedSetIterable i2 (aL X N' scope C s₀ H₀ ex).env x=pure x)
 (hg1: ∀C s₀ H₀ ex,sH (aL X N' scope C s₀ H₀ ex) c t1 g1) (hp1: ∀C s₀ H₀ ex,tL (aL X N' scope C s₀ H₀ ex) c ifs1 p1) (hi2: ∀C s₀ H₀ ex,DIp (aL X N' scope C s₀ H₀ ex) c t2 i2 gi2)
 (hg2: ∀C s₀ H₀ ex,sH (aL X N' scope C s₀ H₀ ex) c t2 g2) (hp2: ∀C s₀ H₀ ex,tL (aL X N' scope C s₀ H₀ ex) c ifs2 p2) (he: ∀C s₀ H₀ ex,DP (aL X N' scope C s₀ H₀ ex) c .s elt f)
 {E:Value->Shared->Prop} {ae:List (Addr×Obj)} {σ:St} {H:Hp} {s:Shared} {hid:bF} {ρ:aC} {J:It} {it:Addr} {fp:List Addr} {tn:Nat->Heap->Prop} {ds ys:List D} {RR:Value->Addr->Result->Shared->Prop}
 (I:Inv X ae σ H s) (sr:SR X.K c hid ρ σ H) (T:Turn X.prog X.w X.K t1 J fp it tn) (st:tn 0 s.heap) (hF: ∀b∈fp,jq X ae H b) (io:B9 X.K H (vw H hid) J ds) (hz:ys.length<=sizeLine) (hc:mI g1 p1 (xb gi2 g2 p2 f) (ρ++List.replicate m .no) ds=some ys)
 (hR: ∀(D C:Addr) (s':Shared) (H':Hp) (xs:List V),s.heap.objs.size<=D->s.heap.objs.size<=C->D≠C->H D=none->Same H H'->H' D=some (.lst xs)->Reps X.K (vw H' (cH hid D)) xs ys->(∃m,s'.heap.Ns C m)->H' C=none->s'.os=s.os->AllBare s'.gens->HOk X.prog X.w H' s'.heap->Un (frs X.stack) fp H H' s.heap s'.heap->RR (.ref D) C (.ok .next) s'):
 wpAny (model X.prog X.w) X.A (newList []) (λacc s₃=>wpAny (model X.prog X.w) X.A (newFunctionEnv scope X.env.globals (pi X.env.cells scope.names []) [] X.env.qual none .none (some X.env)) (λcenv s₄=>
  codeAny (model X.prog X.w) X.A (.compStart (.ListComp elt [⟨t1,i1,ifs1,0⟩,⟨t2,i2,ifs2,0⟩] scope pos) 0 (.ref it) acc {cenv with scope:=relabel scope X.env}) (RR acc cenv.locals) s₄) E s₃) E s:=by
 refine wpAny_newObj_type (tf λh₁ hns₁ kp1 oc₁=>?_)
 dsimp only at hns₁ kp1 oc₁⊢
 generalize hH2:s.heap.push {cls:=.type "list",dict:=none,data:=.seq ([]:List Value).toArray}=H2 at hns₁ kp1 oc₁⊢
 have hC:H2.objs.size=s.heap.objs.size+1:=by rw[<-hH2,Heap.size_push]
 have hD:H s.heap.objs.size=none:=I.hok.fresh (Nat.le_refl _)
 have I2:Inv X ae σ (cw H s.heap.objs.size (.lst [])) {s with heap:=H2}:=by
  rw[<-hH2];exact I.laid (t':=s.toks) (λb o e=>Heap.get?_push_of_some _ e) (Nat.le_refl _) ⟨Nat.zero_le _,[],0,.nil,Heap.get?_push_size _ rfl⟩
 have fpLt: ∀b∈fp,b<s.heap.objs.size:=λb hb=>let⟨o,e,_⟩:=T.obj 0 s.heap st b hb;Heap.lt_size e
 have hF2: ∀b∈fp,jq X ae (cw H s.heap.objs.size (.lst [])) b:=λb hb=>⟨by rw[aI (Nat.ne_of_lt (fpLt b hb))];exact(hF b hb).1,(hF b hb).2⟩
 have kp0: ∀b o,s.heap.get? b=some o->H2.get? b=some o:=λb o e=>by rw[<-hH2];exact Heap.get?_push_of_some _ e
 have IY:=pG (tk:=s.toks) (N':=N') (fp:=fp) I2 hF2 (λb hb=>let⟨o,e,_⟩:=T.obj 0 s.heap st b hb;⟨o,kp0 b o e⟩) hk hs hn hns₁ kp1 oc₁
 rw[hm] at IY;dsimp only at IY;have sr0:SR X.K c (cH hid s.heap.objs.size) (ρ++List.replicate m .no) (σ++List.replicate m none) (cw H s.heap.objs.size (.lst [])):=(sr.hide (bd hD _) hD aY).more m
 have hρ:ρ.length=X.N.length:=by rw[<-sr.len];exact I.len
 have nf:hid s.heap.objs.size=false:=sr.fresh hD
 have st1:tn 0 h₁:=T.keep _ _ _ st λb hb o e=>kp1 b o (kp0 b o e)
 have na0: ∀i:Nat,Ow (ρ++List.replicate m Sl.no)[i]? ->(σ++List.replicate m none)[i]? ≠some (some (V.ref s.heap.objs.size)):=(sr.more m).notOw nf
 have wv:Same (vw H hid) (vw (cw H s.heap.objs.size (.lst [])) (cH hid s.heap.objs.size)):=by rw[rS hD];exact Same.refl _
 have nos:De X.N.length (ρ++List.replicate m Sl.no):=λi s hi e=>by
  rw[List.getElem?_append_right (by omega),List.getElem?_replicate] at e
  split at e
  ·cases e;rfl
  ·cases e
 have loop: ∀s4:Shared,s4={s with heap:=h₁,toks:=s.toks}->
  codeAny (model X.prog X.w) X.A (.compLoop (.ListComp elt [⟨t1,i1,ifs1,0⟩,⟨t2,i2,ifs2,0⟩] scope pos) 0 (.ref it) (.ref s.heap.objs.size) (compEnvC scope (mk X.env.cells scope H2.objs.size) H2.objs.size X.env)) (RR (.ref s.heap.objs.size) H2.objs.size) s4:=by
  rintro s4 rfl
  have fpY: ∀b∈fp,jq (aL X N' scope H2.objs.size {s with heap:=H2} (cw H s.heap.objs.size (.lst [])) fp) [] (cw H s.heap.objs.size (.lst [])) b:=λb hb=>
   ⟨(hF2 b hb).1,(IY.ok.exf b hb).1,IY.ok.exfs b hb,.inl hb,(IY.ok.exf b hb).2,λq hq=>by have hq':q∈([]:List (Addr×Obj))++[]:=hq;simp at hq'⟩
  refine pA (Y:=aL X N' scope H2.objs.size {s with heap:=H2} (cw H s.heap.objs.size (.lst [])) fp) (L:=H) (hid:=cH hid s.heap.objs.size) (W:=vw H hid) (ad0:=[]) (xs0:=[]) (A:=xb gi2 g2 p2 f) (TA:=oP X.prog X.w X.A (.ListComp elt [⟨t1,i1,ifs1,0⟩,⟨t2,i2,ifs2,0⟩] scope pos) i2 (.ref s.heap.objs.size) (compEnvC scope (mk X.env.cells scope H2.objs.size) H2.objs.size X.env))
   hcalm rfl hT1 (hg1 _ _ _ _) (hp1 _ _ _ _) (λd ρ1 e=>uq (Y:=aL X N' scope H2.objs.size {s with heap:=H2} (cw H s.heap.objs.size (.lst [])) fp) hcalm rfl hT2 (λi s hi e'=>?_) (hi2 _ _ _ _) (hg2 _ _ _ _) (hp2 _ _ _ _) (he _ _ _ _) jk (sr.fresh0 hD) hD) nos IY sr0 jk na0 aY .nil (bd hD _) wv T st1 fpY io (by simpa using hz) hc (ui (hset H2.objs.size {s with heap:=H2} (cw H s.heap.objs.size (.lst [])) fp)) ?_
  ·rw[hU1 _ _ _ e i hi] at e'
   exact nos i s (by omega) e'
  ·intro s' σ' H' xs I' _ sm' hx' rp' _ _
   have un1:Un (frs X.stack) fp H (cw H s.heap.objs.size (.lst [])) s.heap H2:=Un.laid (λb o e=>kp0 b o e) (Nat.le_refl _) hD
   exact hR s.heap.objs.size H2.objs.size s' H' xs (Nat.le_refl _) (by rw[hC];exact Nat.le_succ _) (by rw[hC];exact Nat.ne_of_lt (Nat.lt_succ_self _)) hD sm' hx' rp' (let⟨m,hm,_⟩:=I'.loc;⟨m,hm⟩) I'.free I'.os I'.bare I'.hok (un1.trans I'.base)
 exact codeAny_compStart_list (loop _ rfl) (T.self X.A 0 _ _ _ st1 (loop _ rfl))
theorem wN(hcalm:X.calm=true)(n1:Nat)(hT1:jP X.N.length g1)(hU1:zC n1 g1)(hT2:jP n1 g2)(hi:Bf X c t1 i1 gi1)
 (hg1: ∀C s₀ H₀ ex,sH (aL X N' scope C s₀ H₀ ex) c t1 g1) (hp1: ∀C s₀ H₀ ex,tL (aL X N' scope C s₀ H₀ ex) c ifs1 p1) (hi2: ∀C s₀ H₀ ex,DIp (aL X N' scope C s₀ H₀ ex) c t2 i2 gi2)
 (hg2: ∀C s₀ H₀ ex,sH (aL X N' scope C s₀ H₀ ex) c t2 g2) (hp2: ∀C s₀ H₀ ex,tL (aL X N' scope C s₀ H₀ ex) c ifs2 p2) (he: ∀C s₀ H₀ ex,DP (aL X N' scope C s₀ H₀ ex) c .s elt f)
 (hk:scope.kind=.function:=by rfl) (hs:u0 scope X.env.scope=true:=by kernel_rfl) (hn:u3 X.N N' scope=true:=by kernel_rfl) (hm:N'.length-X.N.length=m:=by rfl) (hn1:X.N.length<=n1:=by exact Nat.le_of_ble_eq_true rfl) (hset: ∀x,foldedSetIterable i1 X.env x=pure x:=by intro _;rfl)
 (hset2: ∀C s₀ H₀ ex,∀x,foldedSetIterable i2 (aL X N' scope C s₀ H₀ ex).env x=pure x:=by intros;rfl):
 DP X c .n (.ListComp elt [⟨t1,i1,ifs1,0⟩,⟨t2,i2,ifs2,0⟩] scope pos) (uR m gi1 g1 p1 gi2 g2 p2 f):=by
 intro hid ρ ae s σ H Q I hq;obtain⟨sr,d,hd,q⟩:=hq
 obtain⟨ds,ys,e1,hc,hz,rfl⟩:=uL hd
 rw[eval_ListComp];refine wpAny_comprehension_free (use:=none) rfl hset (gg λx hx=>I.ok.has x (iL hs x hx)) hk (kK hs) ?_
 refine cI (hi hid ρ ae s σ H (λJ H'=>Same H H'/\B9 X.K H' (vw H' hid) J ds) I ⟨sr,ds,e1,λJ H' s1 io=>⟨s1,io⟩⟩) λv s1 h1=>cI h1 λitv s2 h2=>?_
 obtain⟨it,fp,tn,J,H2,rfl,I2,T,st2,f2,sm,io⟩:=h2
 refine pW (RR:=λacc C=>compPost (model X.prog X.w) X.A X.xe none (EP X ae σ Q) acc C) hcalm hk hs hn hm hT1 hU1 hn1 hT2 hset2 hg1 hp1 hi2 hg2 hp2 he I2 (sr.ext sm) T st2 f2 io hz hc ?_
 intro D C s' H' xs hDge hCge hDC hD sm' hx rp ⟨mm,hns⟩ hC' hos hbare hok hun;refine⟨mm,hns,λh' hsb=>⟨.ref D,H',?_,rfl,q _ H' (sm.trans sm') ⟨D,xs,ys,rfl,rfl,sm.free hD,hx,rp⟩⟩⟩
 have neC: ∀b o,s2.heap.get? b=some o->b≠C:=λb o e z=>by subst z;exact absurd (Heap.lt_size e) (Nat.not_lt.mpr hCge)
 have hun':Un (frs X.stack) fp H2 H' s2.heap h':=⟨λb o e n h1 h2=>(hsb.2 b (neC b o e)).trans (hun.keep b o e n h1 h2),λb o e n h1 h2=>let⟨sl,z⟩:=hun.slot b o e n h1 h2;⟨sl,(hsb.2 b (neC b o e)).trans z⟩,hun.free,λb o e h2=>let⟨o',z⟩:=hun.there b o e h2;⟨o',(hsb.2 b (neC b o e)).trans z⟩,hun.tups,hun.frzs,hun.tbls⟩
 have hok':HOk X.prog X.w H' h':=λb o e=>by
  have nb: ∀b' o',H' b'=some o'->b'≠C:=λb' o' e' z=>by subst z;rw[hC'] at e';cases e'
  refine(hok b o e).stay (λc' u hc' z=>(hsb.2 c' ?_).trans z) (λ_ z=>z) λ_ _ z=>z
  rcases hc' with z'|z'
  ·rw[z'];exact nb b o e
  ·exact nb c' _ z'
 exact I2.call' (s':={s' with heap:=h'}) (ch:=fp) hos hun' hok' hbare λb hb=>⟨(f2 b hb).2.2.2.1,(f2 b hb).2.1,(f2 b hb).2.2.2.2.1,(f2 b hb).2.2.2.2.2⟩
end
section
variable {K:W.Frag}
def rk:List D->List D->Option (D×List D):=λbs ds=>match ds with
 | []=>some (.non,bs.reverse)
 |_=>none
theorem lV:Ar K qF 0 rk:=by
 intro H hid a xs us bs ds bs' d Q h1 h2 h3 h4 h5 h6 q;cases ds with
 |nil=>
  cases h6;cases h4
  exact⟨a,xs,rfl,rfl,h1,q _ _ h3.reverse .non⟩
 |cons _ _=>cases h5
end
abbrev FO:=aC->Option (Option Int)
def Eg(K:W.Frag)(c:Ct)(hid:bF)(f:FO)(ρ:aC):TO:=λσ H Q=>SR K c hid ρ σ H/\ ∃o,f ρ=some o/\ ∀H',Same H H'->Q o H'
def DO(X:Cx)(c:Ct)(e:Option Expr)(f:FO):Prop:= ∀hid ρ,PO X e (Eg X.K c hid f ρ)
theorem PO.imp {X:Cx}{e:Option Expr}{t t':TO}(h:PO X e t)(i: ∀σ H Q,t' σ H Q->t σ H Q):PO X e t':=λae s σ H Q I q=>h ae s σ H Q I (i σ H Q q)
section
variable {X:Cx}{c:Ct}{e a b:Expr}{f g:FE}{k:Kd}{pos p2:Pos}{lo hi:Option Expr}{l u:FO}
def Bg(f:FE):FO:=λρ=>(f ρ).bind λd=>match d with
 | .int i=>some (some i)
 |_=>none
theorem sR(h:DP X c k e f):DO X c (some e) (Bg f):=λhid ρ=>PO.imp (xA (h hid ρ)) λσ H Q hq_=>by
 obtain⟨sr,o,e,q⟩:=hq_
 unfold Bg at e;cases e1:f ρ with
 |none=>rw[e1] at e;cases e
 |some d=>
  rw[e1] at e;cases d with
  |int i=>
   cases e
   refine⟨sr,_,e1,λv H' s r=>⟨i,?_,q H' s⟩⟩
   exact(RK.b k r λa n=>sr.fresh n).int
  |_=>cases e
end
end L2
namespace PySem
open Sem (wp)
open AutoSeq1 (wpAny_loadPart')
end PySem
namespace L2
open PySem PySem.Spec PyProof.Rows
section
variable {X:Cx}{c:Ct}{k:Kd}{es:List Expr}{x1:Nat}{tp pos p:Pos}
def oQ(ds:List D):List D:=(List.range ds.length).map λ(i:Nat)=>D.tup [.int i,ds.getD i .non]
end
open PySem PySem.W PySem.Calls PyProof.Rows
def oh(i:Nat)(g:FE):GE:=λρ=>match g ρ with
 |some (.lst zs)=>(match gy i ρ with
  |some bs=>if bs.length+zs.length<=sizeLine then some (.non,fP i (bs++zs) ρ) else none
  |none=>none)
 |_=>none
theorem uE {i:Nat}{g:FE}{ρ ρ':aC}{d:D}(h:oh i g ρ=some (d,ρ')): ∃zs bs,g ρ=some (.lst zs)/\gy i ρ=some bs/\bs.length+zs.length<=sizeLine/\d=.non/\ρ'=fP i (bs++zs) ρ:=by
 unfold oh at h;split at h
 ·split at h
  ·split at h
   ·cases h;exact⟨_,_, ‹_›, ‹_›, ‹_›,rfl,rfl⟩
   ·cases h
  ·cases h
 ·cases h
section
variable {X:Cx}{c:Ct}{e:Expr}{y:Str}{py apos pos:Pos}{g:FE}
theorem t5(i:Nat)(he:DP X c .n e g)
 (hN:X.N[i]? =some y:=by rfl) (hv:rf X.env.scope y:=by first|exact Or.inl rfl|exact Or.inr (Or.inl rfl)|exact Or.inr (Or.inr rfl)) (hd:(y==("__debug__":Str))=false:=by decide) (hcd:(y==("__classdict__":Str))=false:=by decide)
 (hbase:attributeBase (.Name y py) "extend" X.env (eval (.Name y py) X.env)=eval (.Name y py) X.env:=by rfl)
 (hfew:((backTo pos (starEach [e] X.env)).all (λx=> !x.1)&&(backToKw pos (keywordEach [] X.env)).all (λx=>x.1.isSome)
   &&decide ([e].length+([]:List Keyword).length+(if([]:List Keyword).isEmpty then 0 else 1)<30))=true:=by rfl)
 (hline:(apos.endLine==pos.line)=true:=by rfl) (hs:starEach [e] X.env=(false,eval e X.env)::starEach [] X.env:=by rfl) (hplain:(backTo pos (starEach [] X.env)).any (·.1)=false:=by rfl):
 DE X c .s (.Call (.Attribute (.Name y py) "extend" apos) [e] [] pos) (oh i g):=λhid ρ=>
 PE.imp (qb PySem.F.plainAttrs_list PySem.F.slot_list_extend PySem.F.type_list_extend uF (pv i hN hv hd hcd) (aV (he hid ρ) cv hs) hbase hfew hline hs hplain) λσ H Q hq_=>by
  obtain⟨sr,d,ρ',hd',q⟩:=hq_
  obtain⟨zs,bs,e1,e2,e3,rfl,rfl⟩:=uE hd'
  obtain⟨a,xs0,a1,a2,a3,a4,a5⟩:=sr.held e2
  refine⟨.ref a,a1,.inl ⟨rfl,_,SqL.of a2⟩,sr,_,e1,λv H1 s1 r1=>?_⟩
  obtain⟨l,ws,ds',z,rfl,n1,n2,n3⟩:=r1
  cases z
  have rw1:Reps X.K (vw H1 hid) ws zs:=n3.mono (fU λb w=>dz w)
  have rx1:Reps X.K (vw H1 hid) xs0 bs:=a4.mono (aN s1)
  refine⟨a,l,xs0,ws,rfl,rfl,s1 _ _ a2,n2,by rw[rx1.length,rw1.length];exact e3,?_⟩
  have vv:vw (cw H1 a (.lst (xs0++ws))) hid=vw H1 hid:=gK a3
  refine q .non _ ⟨λb o z hb=>?_,(sr.ext s1).put e2 a1 (λb o z hb=>by rw[aI hb];exact z) aY (by rw[vv];exact rx1.append rw1),.non⟩
  rw[aI (λe=>by subst e;rw[a3] at hb;cases hb)]
  exact s1 _ _ z
end
def zd {α:Type}(d:α)(n:Nat):Option α:=if n<=sizeLine then some d else none
def D6 {α:Type}(d:α)(n:Nat):Option α:=if n<sizeLine then some d else none
theorem eC {α:Type}{d:α}{n:Nat}(h:n<=1000):zd d n=some d:=if_pos (Nat.le_of_lt (ja h))
theorem nv {α:Type}{d:α}{n:Nat}(h:n<=1000):D6 d n=some d:=if_pos (ja h)
theorem yv(fs:FA)(ρ:aC):cC fs ρ=(fs ρ).bind λds=>zd (.tup ds) ds.length:=rfl
theorem kb(fs:FA)(ρ:aC):bS fs ρ=(fs ρ).bind λds=>zd (.lst ds) ds.length:=rfl
theorem xK(fs:GA)(ρ:aC):ur fs ρ=(fs ρ).bind λq=>zd (.tup q.1,q.2) q.1.length:=rfl
theorem vq(m:Nat)(gi:FA)(g:FG)(p:FT)(f:FE)(ρ:aC):bu m gi g p f ρ=(gi ρ).bind λds=>(zd () ds.length).bind λ_=>(dm g p f (ρ++List.replicate m .no) ds).map D.lst:=by
 unfold bu zd;congr 1;funext ds
 split<;>rfl
theorem tU(bs:List D)(d:D):iP bs [d]=D6 (.non,bs++[d]) bs.length:=rfl
theorem xT(bs:List D)(i:Int):m8 bs [.int i]=(zd () bs.length).bind λ_=>(qy bs.length i).bind λj=>(bs[j]?).map λd=>(d,bs.eraseIdx j):=by
 unfold m8 zd;dsimp only;split
 ·rename_i j e
  split at e
  ·rw[if_pos ‹_›,e];rfl
  ·cases e
 ·rename_i e
  split at e
  ·rw[if_pos ‹_›,e];rfl
  ·rw[if_neg ‹_›];rfl
def Cb(ds:List D):Option (List D):=match ds with
 | [.int j]=>if j.natAbs<4000000000 then some (qd 0 j.toNat) else none
 |_=>none
theorem pF(f:FA)(ρ:aC):dc f ρ=(f ρ).bind Cb:=rfl
theorem pJ {j:Int}(h:j.natAbs<=1000):Cb [.int j]=some (qd 0 j.toNat):=by
 show(if j.natAbs<4000000000 then some (qd 0 j.toNat) else none)=_
 rw[if_pos (by omega)]
theorem cB(i j:Int):bx (.int i) (.int j)=some (.int (i+j)):=rfl
theorem mw(i j:Int):iF (.int i) (.int j)=some (.int (i-j)):=rfl
theorem kZ(i j:Int):nX (.int i) (.int j)=some (.bl (decide (i<j))):=rfl
theorem tu(i j:Int):CJ (.int i) (.int j)=some (.bl (decide (j<=i))):=rfl
theorem dJ {i j:Int}(h:0<j):bz (.int i) (.int j)=some (.int (i % j)):=by
 unfold bz i2;dsimp only;rw[if_pos (by simpa using h)]
theorem rD {n:Nat}(h:n<10^200):n<2^1000:=Nat.lt_of_lt_of_le h (by decide)
theorem gh {i j:Int}(h1:i.natAbs<10^200)(h2:j.natAbs<10^200):ee (.int i) (.int j)=some (.int (i*j)):=by
 unfold ee i2;dsimp only;rw[if_pos (by rw[decide_eq_true (rD h1),decide_eq_true (rD h2)];rfl)]
theorem jh {i j:Int}(h1:0<j)(h2:j.natAbs<10^200):gC (.int i) (.int j)=some (.int (i / j)):=by
 unfold gC i2;dsimp only;rw[if_pos (by rw[decide_eq_true h1,decide_eq_true (rD h2)];rfl)]
theorem jR {i j:Int}(h0:0<=j)(h1:j<=1000000)(h2:i.natAbs<2^64):eQ (.int i) (.int j)=some (.int (i^j.toNat)):=by
 unfold eQ i2;dsimp only;rw[if_pos (by rw[decide_eq_true h0,decide_eq_true h1,decide_eq_true h2];rfl)]
theorem ii {x y:D}(h:dY x<=32):iE x y=some (.bl (cu x y)):=if_pos h
theorem jA {x y:D}(h:dY x<=32):iD x y=some (.bl (!cu x y)):=if_pos h
theorem g6(i j:Int):cu (.int i) (.int j)=decide (i=j):=by
 unfold cu;rw[Bool.eq_iff_iff];simp
theorem eS(i:Int):dY (.int i)=0:=by unfold dY;rfl
structure Bag(N:Nat)(a b:Int):Prop where
 a0:0<=a
 a1:a.natAbs<10^180
 b0:0<=b
 b1:b<=N
 lo:b≠0->a.natAbs<2147483647
abbrev aP(a b:Int):List D:=[.int a,.int b]
def oW:FS:=
 aB (fH (bC (aq nX (ai 1) (ak bD (aa (ai 0) (ah))))) (bp (aq bn (ai 0) (ai 1))) (skip))
 (bp (az (.int 0)))
def gG:List D->Option D:=iJ .s 2 oW
def vZ:FS:=
 aB (aS 2 (aq bz (ak p5 (aa (ak (nF 2 gG) (aa (ai 0) (aa (ai 1) (ah)))) (ah))) (aq ee (aq ee (aq eQ (az (.int 10)) (az (.int 60))) (aq eQ (az (.int 10)) (az (.int 60)))) (aq eQ (az (.int 10)) (az (.int 60))))))
 (aB (fH (bC (aq CJ (ai 2) (aq eQ (az (.int 10)) (az (.int 18))))) (bp (bS (aa (ai 2) (aa (az (.int 0)) (ah))))) (skip))
 (aB (aS 3 (aq bz (aq bx (aq bx (ai 2) (aq ee (az (.int 7919)) (ai 1))) (az (.int 17))) (az (.int 2147483647))))
 (aB (fQ (cm (dc (aa (ak jw (aa (ak bD (aa (ai 0) (ah))) (aa (az (.int 9)) (ah)))) (ah)))) (gN 4) (aS 3 (aq bz (aq bx (aq bx (aq eQ (ai 3) (az (.int 5))) (aq bz (aq bn (ai 0) (ai 4)) (az (.int 2147483629)))) (aq ee (az (.int 31)) (ai 4))) (az (.int 2147483647)))))
 (bp (bS (aa (ai 3) (aa (az (.int 1)) (ah))))))))
def vX:List D->Option D:=iJ .n 5 vZ
def nZ:FS:=
 aB (fH (bC (aq iE (aq bn (dr 0) (az (.int 1))) (az (.int 0)))) (aB (aS 2 (aq bz (aq bn (dr 0) (az (.int 0))) (ai 1)))
 (aB (eV (eR 0 (az (.int 0))) (pu (aq gC (aq bn (dr 0) (az (.int 0))) (ai 1))))
 (bp (ai 2)))) (skip))
 (aB (eV (eR 0 (az (.int 0))) (pu (aq bz (aq bx (aq bx (aq eQ (aq bn (dr 0) (az (.int 0))) (az (.int 5))) (aq ee (az (.int 48271)) (aq bn (dr 0) (az (.int 1))))) (az (.int 11))) (az (.int 2147483647)))))
 (aB (eV (eR 0 (az (.int 1))) (pu (aq bx (aq bn (dr 0) (az (.int 1))) (az (.int 1)))))
 (bp (aq bz (aq gC (aq bz (aq ee (aq bn (dr 0) (az (.int 0))) (az (.int 69621))) (az (.int 2147483629))) (az (.int 8))) (ai 1)))))
def dM:List D->List D->Option (D×List D):=qK .s 3 nZ
def pV:FS:=
 aB (eI 2 (uO (ai 1)))
 (aB (eI 3 (bS (ah)))
 (aB (jv (bC (aq iD (dr 2) (bS (ah)))) (cr (aF 3 1 iP (cZ (aF 2 1 m8 (cZ (aF 0 1 dM (cm (aa (ak bD (aa (dr 2) (ah))) (ah)))) (cm (ah)))) (cm (ah))))) 16)
 (qG 3)))
def gV:List D->List D->Option (D×List D):=qK .n 4 pV
theorem fq {i m:Int}(h:0<m):0<=i % m/\i % m<m:=⟨Int.emod_nonneg _ (by omega),Int.emod_lt_of_pos _ h⟩
theorem gF {N:Nat}{a b m:Int}(B:Bag N a b)(hN:N<=1000000000)(hm:0<m)(hm2:m.natAbs<10^20): ∃d a' b',dM (aP a b) [.int m]=some (.int d,aP a' b')/\Bag (N+1) a' b'/\0<=d/\d<m:=by
 have hm3:m.natAbs<10^200:=Nat.lt_of_lt_of_le hm2 (by decide)
 by_cases hb:b=0
 ·subst hb
  refine⟨a % m,a / m,0,?_,⟨Int.ediv_nonneg B.a0 (by omega),?_,by omega,by omega,λz=>absurd rfl z⟩,fq hm⟩
  ·simp[dM,qK,nZ,kS,aP,aB,fH,bC,aq,bn,dr,ai,az,ii,g6,eS,qc,nJ,qy,aS,dJ hm,eV,pu,jh hm hm3,eR,gy,fP,AW,bp,lZ]
  ·have h1:=B.a1
   have:a / m<=a:=Int.ediv_le_self _ B.a0
   have:0<=a / m:=Int.ediv_nonneg B.a0 (by omega)
   omega
 ·have lo:=B.lo hb
  have p1:a.natAbs<2^64:=Nat.lt_trans lo (by decide)
  have p2:b.natAbs<10^200:=Nat.lt_of_lt_of_le (show b.natAbs<10^10 by have:=B.b1;have:=B.b0;omega) (by decide)
  generalize hA:(a^5+48271*b+11) % 2147483647=A
  have hA':0<=A/\A<2147483647:=by rw[<-hA];exact fq (by decide)
  have p3:A.natAbs<10^200:=Nat.lt_of_lt_of_le (show A.natAbs<10^10 by omega) (by decide)
  refine⟨A*69621 % 2147483629 / 8 % m,A,b+1,?_,⟨hA'.1,?_,by have:=B.b0;omega,by have:=B.b1;omega,λ_=>by omega⟩,fq hm⟩
  ·have c1:(48271:Int).natAbs<10^200:=Nat.lt_of_lt_of_le (show(48271:Int).natAbs<10^10 by decide) (by decide)
   have c2:(69621:Int).natAbs<10^200:=Nat.lt_of_lt_of_le (show(69621:Int).natAbs<10^10 by decide) (by decide)
   have c3:(8:Int).natAbs<10^200:=Nat.lt_of_lt_of_le (show(8:Int).natAbs<10^10 by decide) (by decide)
   have e1:eQ (.int a) (.int 5)=some (.int (a^5)):=jR (by decide) (by decide) p1
   have e2:ee (.int 48271) (.int b)=some (.int (48271*b)):=gh c1 p2
   have e3: ∀i:Int,bz (.int i) (.int 2147483647)=some (.int (i % 2147483647)):=λi=>dJ (by decide)
   have e4: ∀i:Int,bz (.int i) (.int 2147483629)=some (.int (i % 2147483629)):=λi=>dJ (by decide)
   have e5:ee (.int A) (.int 69621)=some (.int (A*69621)):=gh p3 c2
   have e6: ∀i:Int,gC (.int i) (.int 8)=some (.int (i / 8)):=λi=>jh (by decide) c3
   simp[dM,qK,nZ,kS,aP,aB,fH,bC,aq,bn,dr,ai,az,ii,g6,eS,qc,nJ,qy,hb,skip,e1,e2,e3,e4,cB,eV,pu,eR,gy,fP,AW,bp,lZ,hA,e5,e6,dJ hm]
  ·exact Nat.lt_of_lt_of_le (show A.natAbs<10^10 by omega) (by decide)
theorem aA {t u:FS}{ρ ρ':aC}(h:t ρ=.nx ρ'):aB t u ρ=u ρ':=by unfold aB;rw[h]
abbrev nI(i:Nat):D:=.int (i:Int)
abbrev fT(ns:List Int):D:=.scr (ns.map D.int)
theorem wY(n:Nat):qd 0 n=(List.range n).map nI:=by
 unfold qd;simp
theorem i5 {n j:Nat}(h:j<n):qy n (j:Int)=some j:=by
 unfold qy;rw[if_pos (by omega),if_pos (by omega)];simp
theorem xv(ns:List Int)(k:Nat): ∃c,gG [fT ns,nI k]=some (.int c):=by
 by_cases h:k<ns.length
 ·refine⟨ns[k],?_⟩
  simp[gG,iJ,oW,cY,aB,fH,bC,aq,ai,ak,aa,ah,bD,kZ,qc,h,bp,bn,nJ,i5 (show k<(ns.map D.int).length by simpa using h)]
  simp[i5 h,h]
 ·refine⟨0,?_⟩
  simp[gG,iJ,oW,cY,aB,fH,bC,aq,ai,ak,aa,ah,bD,kZ,qc,h,bp,skip,az]
theorem pC(ns:List Int)(k:D)(c:D): ∀(l:List Nat),(∀i∈l,i<ns.length/\i<1000)-> ∀(x:Int) (s4:Sl),0<=x->x<2147483647-> ∃(x':Int) (s4':Sl),0<=x'/\x'<2147483647/\
 fM (gN 4) (aS 3 (aq bz (aq bx (aq bx (aq eQ (ai 3) (az (.int 5))) (aq bz (aq bn (ai 0) (ai 4)) (az (.int 2147483629)))) (aq ee (az (.int 31)) (ai 4))) (az (.int 2147483647)))) (l.map nI) [.v (fT ns),.v k,.v c,.v (.int x),s4]=.nx [.v (fT ns),.v k,.v c,.v (.int x'),s4']
 | [],_,x,s4,h1,h2=>⟨x,s4,h1,h2,rfl⟩
 |i::l,hl,x,s4,h1,h2=>by
  obtain⟨hi,hi2⟩:=hl i (by simp)
  have e1:eQ (.int x) (.int 5)=some (.int (x^5)):=jR (by decide) (by decide) (Nat.lt_of_lt_of_le (show x.natAbs<10^10 by omega) (by decide))
  have e2:ee (.int 31) (nI i)=some (.int (31*i)):=gh (Nat.lt_of_lt_of_le (show(31:Int).natAbs<10^10 by decide) (by decide)) (Nat.lt_of_lt_of_le (show(i:Int).natAbs<10^10 by omega) (by decide))
  have e3: ∀i:Int,bz (.int i) (.int 2147483647)=some (.int (i % 2147483647)):=λi=>dJ (by decide)
  have e4: ∀i:Int,bz (.int i) (.int 2147483629)=some (.int (i % 2147483629)):=λi=>dJ (by decide)
  obtain⟨y1,y2⟩:=fq (i:=x^5+ns[i] % 2147483629+31*i) (m:=2147483647) (by decide)
  obtain⟨x',s4',g1,g2,g3⟩:=pC ns k c l (λj hj=>hl j (by simp[hj])) _ (.v (nI i)) y1 y2
  refine⟨x',s4',g1,g2,?_⟩
  rw[<-g3];simp[fM,gN,aS,aq,ai,az,e1,e2,e3,e4,bn,nJ,i5 (show i<(ns.map D.int).length by simpa using hi),i5 hi,hi,cB]
theorem AO(ns:List Int)(k:Nat)(hk:k<=1000)(hn:ns.length<=63): ∃a b,vX [fT ns,nI k]=some (.lst (aP a b))/\Bag 1 a b:=by
 obtain⟨c,hc⟩:=xv ns k
 have p1:eQ (.int 10) (.int 60)=some (.int (10^60)):=jR (by decide) (by decide) (by decide)
 have p2:eQ (.int 10) (.int 18)=some (.int (10^18)):=jR (by decide) (by decide) (by decide)
 have q60:((10:Int)^60).natAbs<10^200:=by decide
 have q120:((10:Int)^60*10^60).natAbs<10^200:=by decide
 have m1:ee (.int (10^60)) (.int (10^60))=some (.int (10^60*10^60)):=gh q60 q60
 have m2:ee (.int (10^60*10^60)) (.int (10^60))=some (.int (10^60*10^60*10^60)):=gh q120 q60
 have m3:ee (.int 7919) (nI k)=some (.int (7919*k)):=gh (Nat.lt_of_lt_of_le (show(7919:Int).natAbs<10^10 by decide) (by decide)) (Nat.lt_of_lt_of_le (show(k:Int).natAbs<10^10 by omega) (by decide))
 generalize hA:(if c<0 then -c else c) % (10^60*10^60*10^60)=A
 have hA':0<=A/\A<10^60*10^60*10^60:=by rw[<-hA];exact fq (by decide)
 have s1:aS 2 (aq bz (ak p5 (aa (ak (nF 2 gG) (aa (ai 0) (aa (ai 1) (ah)))) (ah))) (aq ee (aq ee (aq eQ (az (.int 10)) (az (.int 60))) (aq eQ (az (.int 10)) (az (.int 60)))) (aq eQ (az (.int 10)) (az (.int 60))))) [.v (fT ns),.v (nI k),.no,.no,.no]=.nx [.v (fT ns),.v (nI k),.v (.int A),.no,.no]:=by
  have m4: ∀i:Int,bz (.int i) (.int (10^60*10^60*10^60))=some (.int (i % (10^60*10^60*10^60))):=λi=>dJ (by decide)
  unfold aS;have:aq bz (ak p5 (aa (ak (nF 2 gG) (aa (ai 0) (aa (ai 1) (ah)))) (ah))) (aq ee (aq ee (aq eQ (az (.int 10)) (az (.int 60))) (aq eQ (az (.int 10)) (az (.int 60)))) (aq eQ (az (.int 10)) (az (.int 60)))) [.v (fT ns),.v (nI k),.no,.no,.no]=some (.int A):=by
   have ec:ak (nF 2 gG) (aa (ai 0) (aa (ai 1) ah)) [.v (fT ns),.v (nI k),.no,.no,.no]=some (.int c):=hc
   simp only[aq,ak,aa,ah,az,Option.bind_some,p1,m1,m2,p5];have ec':((ai 0 [.v (fT ns),.v (nI k),.no,.no,.no]).bind λd=>((ai 1 [.v (fT ns),.v (nI k),.no,.no,.no]).bind λd=>(some []).map λr=>d::r).map λr=>d::r).bind (nF 2 gG)=some (.int c):=hc
   rw[ec'];simp only[Option.bind_some,Option.map_some,m4,p5,hA]
  rw[this];rfl
 have r0:cY 5 [fT ns,nI k]=[.v (fT ns),.v (nI k),.no,.no,.no]:=rfl
 unfold vX iJ vZ;rw[r0,aA s1];have hA180:A.natAbs<10^180:=by
  have:(10:Int)^60*10^60*10^60=((10^180:Nat):Int):=by decide
  rw[this] at hA';omega
 by_cases hb:(10:Int)^18<=A
 ·refine⟨A,0,?_,⟨hA'.1,hA180,by decide,by decide,λz=>absurd rfl z⟩⟩
  simp only[aB,fH,bC,aq,ai,List.getElem?_cons_succ,List.getElem?_cons_zero,Option.bind_some,az,p2,tu,qc,decide_eq_true hb,bp,kb,aa,ah,Option.map_some];rw[eC (by simp)]
 ·generalize hx:(A+7919*(k:Int)+17) % 2147483647=x
  have hx':0<=x/\x<2147483647:=by rw[<-hx];exact fq (by decide)
  have m4:bz (.int (A+7919*(k:Int)+17)) (.int 2147483647)=some (.int x):=by rw[dJ (by decide),hx]
  have hr:dc (aa (ak jw (aa (ak bD (aa (ai 0) (ah))) (aa (az (.int 9)) (ah)))) (ah)) [.v (fT ns),.v (nI k),.v (.int A),.v (.int x),.no]=some ((List.range (min ns.length 9)).map nI):=by
   rw[pF];simp only[ak,aa,ah,ai,az,List.getElem?_cons_zero,Option.bind_some,Option.map_some,bD,jw,List.length_map];have:(if(9:Int)<(ns.length:Int) then(9:Int) else(ns.length:Int))=((min ns.length 9:Nat):Int):=by split<;>omega
   rw[this,pJ (by omega),wY,Int.toNat_natCast]
  obtain⟨x',s4',g1,g2,g3⟩:=pC ns (nI k) (.int A) (List.range (min ns.length 9)) (λi hi=>by have:=List.mem_range.mp hi;omega) x .no hx'.1 hx'.2
  refine⟨x',1,?_,⟨g1,Nat.lt_of_lt_of_le (show x'.natAbs<10^10 by omega) (by decide),by decide,by decide,λ_=>by omega⟩⟩
  have f1:fQ (cm (dc (aa (ak jw (aa (ak bD (aa (ai 0) (ah))) (aa (az (.int 9)) (ah)))) (ah)))) (gN 4) (aS 3 (aq bz (aq bx (aq bx (aq eQ (ai 3) (az (.int 5))) (aq bz (aq bn (ai 0) (ai 4)) (az (.int 2147483629)))) (aq ee (az (.int 31)) (ai 4))) (az (.int 2147483647)))) [.v (fT ns),.v (nI k),.v (.int A),.v (.int x),.no]=.nx [.v (fT ns),.v (nI k),.v (.int A),.v (.int x'),s4']:=by
   unfold fQ cm;rw[hr];exact g3
  have i1:fH (bC (aq CJ (ai 2) (aq eQ (az (.int 10)) (az (.int 18))))) (bp (bS (aa (ai 2) (aa (az (.int 0)) (ah))))) (skip) [.v (fT ns),.v (nI k),.v (.int A),.no,.no]=.nx [.v (fT ns),.v (nI k),.v (.int A),.no,.no]:=by
   simp only[fH,bC,aq,ai,List.getElem?_cons_succ,List.getElem?_cons_zero,Option.bind_some,az,p2,tu,qc,decide_eq_false hb,skip]
  have i2:aS 3 (aq bz (aq bx (aq bx (ai 2) (aq ee (az (.int 7919)) (ai 1))) (az (.int 17))) (az (.int 2147483647))) [.v (fT ns),.v (nI k),.v (.int A),.no,.no]=.nx [.v (fT ns),.v (nI k),.v (.int A),.v (.int x),.no]:=by
   simp only[aS,aq,ai,List.getElem?_cons_succ,List.getElem?_cons_zero,Option.bind_some,az,m3,cB,m4,List.set_cons_succ,List.set_cons_zero]
  rw[aA i1,aA i2,aA f1];simp only[bp,kb,aa,ah,ai,az,List.getElem?_cons_succ,List.getElem?_cons_zero,Option.bind_some,Option.map_some];rw[eC (by simp)]
theorem bB {i n:Nat}{M:List D->List D->Option (D×List D)}{fs:GA}{ρ ρ1:aC}{b0 bs ds bs':List D}{d:D}(h0:gy i ρ=some b0)(h1:fs ρ=some (ds,ρ1))(h2:gy i ρ1=some bs)(h3:ds.length=n)(h4:M bs ds=some (d,bs')):aF i n M fs ρ=some (d,fP i bs' ρ1):=by
 unfold aF;rw[h0];dsimp only;rw[h1];dsimp only;rw[h2];dsimp only;rw[if_pos h3,h4]
theorem gR {f:GE}{fs:GA}{ρ ρ1 ρ2:aC}{d:D}{ds:List D}(h1:f ρ=some (d,ρ1))(h2:fs ρ1=some (ds,ρ2)):cZ f fs ρ=some (d::ds,ρ2):=by
 unfold cZ bE;rw[h1];dsimp only[Option.bind];rw[h2];rfl
theorem bG {f:FA}{ρ:aC}{ds:List D}(h:f ρ=some ds):cm f ρ=some (ds,ρ):=by unfold cm;rw[h];rfl
theorem jy {f:FE}{ρ:aC}{d:D}(h:f ρ=some d):pu f ρ=some (d,ρ):=by unfold pu;rw[h];rfl
theorem ny {α β:Type}(f:α->β): ∀(l:List α) (j:Nat),(l.map f).eraseIdx j=(l.eraseIdx j).map f
 | [],_=>rfl
 |_::_,0=>rfl
 |x::l,j+1=>by simp[ny f l j]
theorem mh {α:Type}: ∀(l:List α) (j:Nat) (h:j<l.length),(l[j]::l.eraseIdx j).Perm l
 |_::_,0,_=>.refl _
 |x::l,j+1,h=>by
  have ih:=mh l j (by simpa using h)
  exact(List.Perm.swap _ _ _).trans (ih.cons x)
theorem lA: ∀r:List Nat,ck (r.map nI)=0
 | []=>by simp[ck]
 |a::r=>by
  rw[List.map_cons];unfold ck;rw[lA r];simp[dY]
theorem pZ(r:List Nat):dY (.lst (r.map nI))<=32:=by unfold dY;rw[lA];omega
abbrev D2:FS->Nat->FS:=λb n=>jv (bC (aq iD (dr 2) (bS (ah)))) b n
abbrev nK:FS:=cr (aF 3 1 iP (cZ (aF 2 1 m8 (cZ (aF 0 1 dM (cm (aa (ak bD (aa (dr 2) (ah))) (ah)))) (cm (ah)))) (cm (ah))))
theorem Bw(n:D)(bg:List D)(left found:List Nat):bC (aq iD (dr 2) (bS (ah))) [.arg bg,.v n,.own (left.map nI),.own (found.map nI)]=some (!left.isEmpty):=by
 have h0:bS ah [.arg bg,.v n,.own (left.map nI),.own (found.map nI)]=some (.lst []):=by
  rw[kb];simp only[ah,Option.bind_some];exact eC (by simp)
 unfold bC aq;rw[h0];simp only[dr,List.getElem?_cons_succ,List.getElem?_cons_zero,Option.bind_some];rw[jA (pZ left)];cases left with
 |nil=>simp[qc,cu,dI]
 |cons x r=>simp[qc,cu,dI]
theorem vh(n:D){N:Nat}{a b:Int}(B:Bag N a b)(hN:N<=1000000000)(left found:List Nat)(h0:0<left.length)(h1:left.length<=100)(h2:found.length<=100):
 ∃(j:Nat) (hj:j<left.length) (a' b':Int),nK [.arg (aP a b),.v n,.own (left.map nI),.own (found.map nI)]=.nx [.arg (aP a' b'),.v n,.own ((left.eraseIdx j).map nI),.own ((found++[left[j]]).map nI)]/\Bag (N+1) a' b':=by
 obtain⟨d,a',b',e,B',d0,d1⟩:=gF (m:=left.length) B hN (by omega) (Nat.lt_of_lt_of_le (show(left.length:Int).natAbs<10^10 by omega) (by decide))
 obtain⟨j,rfl⟩: ∃j:Nat,d=(j:Int):=⟨d.toNat,by omega⟩
 have hj:j<left.length:=by omega
 refine⟨j,hj,a',b',?_,B'⟩
 have e2:m8 (left.map nI) [.int (j:Int)]=some (nI left[j],(left.eraseIdx j).map nI):=by
  rw[xT,eC (by simp;omega)]
  simp only[Option.bind_some];rw[i5 (by simpa using hj)]
  simp[hj,ny]
 have e3:iP (found.map nI) [nI left[j]]=some (.non,(found++[left[j]]).map nI):=by
  rw[tU,nv (by simp;omega)];simp
 have g:aF 0 1 dM (cm (aa (ak bD (aa (dr 2) (ah))) (ah))) [.arg (aP a b),.v n,.own (left.map nI),.own (found.map nI)]=some (nI j,[.arg (aP a' b'),.v n,.own (left.map nI),.own (found.map nI)]):=by
  simp[aF,gy,cm,aa,ak,dr,ah,bD,e,fP]
 have g2:aF 2 1 m8 (cZ (aF 0 1 dM (cm (aa (ak bD (aa (dr 2) (ah))) (ah)))) (cm (ah))) [.arg (aP a b),.v n,.own (left.map nI),.own (found.map nI)]=some (nI left[j],[.arg (aP a' b'),.v n,.own ((left.eraseIdx j).map nI),.own (found.map nI)]):=by
  refine(bB (i:=2) (n:=1) (b0:=left.map nI) (ds:=[nI j]) (ρ1:=[.arg (aP a' b'),.v n,.own (left.map nI),.own (found.map nI)]) rfl (gR g rfl) rfl rfl e2).trans rfl
 have g3:aF 3 1 iP (cZ (aF 2 1 m8 (cZ (aF 0 1 dM (cm (aa (ak bD (aa (dr 2) (ah))) (ah)))) (cm (ah)))) (cm (ah))) [.arg (aP a b),.v n,.own (left.map nI),.own (found.map nI)]=some (.non,[.arg (aP a' b'),.v n,.own ((left.eraseIdx j).map nI),.own ((found++[left[j]]).map nI)]):=by
  refine(bB (i:=3) (n:=1) (b0:=found.map nI) (ds:=[nI left[j]]) (ρ1:=[.arg (aP a' b'),.v n,.own ((left.eraseIdx j).map nI),.own (found.map nI)]) rfl (gR g2 rfl) rfl rfl e3).trans rfl
 unfold nK cr;rw[g3]
theorem y0(n:D): ∀(f:Nat) (left found:List Nat) (N:Nat) (a b:Int),left.length<f->left.length<=50->found.length+left.length<=100->Bag N a b->N+left.length<=1000000000->
 ∃(o:List Nat) (a' b':Int),D2 nK f [.arg (aP a b),.v n,.own (left.map nI),.own (found.map nI)]=.nx [.arg (aP a' b'),.v n,.own [],.own ((found++o).map nI)]/\o.Perm left/\Bag (N+left.length) a' b'
 |0,left,found,N,a,b,h,_,_,_,_=>absurd h (Nat.not_lt_zero _)
 |f+1,left,found,N,a,b,h,h1,h2,B,hN=>by
  unfold D2 jv;rw[Bw];cases e:left.isEmpty with
  |true=>
   have:left=[]:=by simpa using e
   subst this;exact⟨[],a,b,by simp,.refl _,by simpa using B⟩
  |false=>
   have h0:0<left.length:=by cases left with
    |nil=>cases e
    |cons x r=>simp
   obtain⟨j,hj,a1,b1,e1,B1⟩:=vh n B (by omega) left found h0 (by omega) (by omega)
   have hl:(left.eraseIdx j).length=left.length-1:=by rw[List.length_eraseIdx];simp[hj]
   obtain⟨o,a2,b2,e2,p,B2⟩:=y0 n f (left.eraseIdx j) (found++[left[j]]) (N+1) a1 b1 (by omega) (by omega) (by simp;omega) B1 (by omega)
   refine⟨left[j]::o,a2,b2,?_,?_,?_⟩
   ·simp only[Bool.not_false]
    rw[e1];dsimp only;have:jv (bC (aq iD (dr 2) (bS ah))) nK f=D2 nK f:=rfl
    rw[this,e2];simp
   ·exact(p.cons _).trans (mh left j hj)
   ·rw[show N+left.length=N+1+(left.eraseIdx j).length by omega];exact B2
structure Ord(n:Nat)(r:List Nat):Prop where
 perm:r.Perm (List.range n)
theorem Ord.len {n:Nat}{r:List Nat}(o:Ord n r):r.length=n:=by rw[o.perm.length_eq];simp
theorem Ord.lt {n:Nat}{r:List Nat}(o:Ord n r){v:Nat}(h:v∈r):v<n:=by simpa using o.perm.mem_iff.mp h
theorem Ord.has {n:Nat}{r:List Nat}(o:Ord n r){v:Nat}(h:v<n):v∈r:=o.perm.mem_iff.mpr (by simpa using h)
theorem Ord.nd {n:Nat}{r:List Nat}(o:Ord n r):r.Nodup:=o.perm.nodup_iff.mpr List.nodup_range
theorem sF {n:Nat}(h:n<=1000)(f:FE)(ρ:aC)(e:f ρ=some (nI n)):uO f ρ=some (.lst ((List.range n).map nI)):=by
 unfold uO yt;rw[e];simp only[Option.bind_some];rw[if_pos (by omega),wY];rfl
theorem pS {N:Nat}{a b:Int}(B:Bag N a b){n:Nat}(hn:n<=12)(hN:N<=900000000): ∃(o:List Nat) (a' b':Int),gV (aP a b) [nI n]=some (.lst (o.map nI),aP a' b')/\Ord n o/\Bag (N+n) a' b':=by
 obtain⟨o,a',b',e,p,B'⟩:=y0 (nI n) 16 (List.range n) [] N a b (by simp;omega) (by simp;omega) (by simp;omega) B (by simp;omega)
 refine⟨o,a',b',?_,⟨p⟩,by simpa using B'⟩
 have r0:kS 4 (aP a b) [nI n]=[.arg (aP a b),.v (nI n),.no,.no]:=rfl
 have s1:eI 2 (uO (ai 1)) [.arg (aP a b),.v (nI n),.no,.no]=.nx [.arg (aP a b),.v (nI n),.own ((List.range n).map nI),.no]:=by
  unfold eI;rw[sF (n:=n) (by omega) (ai 1) _ rfl]
  rfl
 have s2:eI 3 (bS (ah)) [.arg (aP a b),.v (nI n),.own ((List.range n).map nI),.no]=.nx [.arg (aP a b),.v (nI n),.own ((List.range n).map nI),.own []]:=by
  unfold eI;rw[kb];simp only[ah,Option.bind_some];rw[eC (by simp)]
  rfl
 unfold gV qK pV;rw[r0,aA s1,aA s2];have e':jv (bC (aq iD (dr 2) (bS (ah)))) nK 16 [.arg (aP a b),.v (nI n),.own ((List.range n).map nI),.own []]=.nx [.arg (aP a' b'),.v (nI n),.own [],.own (o.map nI)]:=e
 rw[aA e'];simp[qG,qQ,lZ]
theorem av {F:D->D->Option D}{f g:FE}{ρ:aC}{x y:D}(h1:f ρ=some x)(h2:g ρ=some y):aq F f g ρ=F x y:=by unfold aq;rw[h1,Option.bind_some,h2,Option.bind_some]
theorem tq {F:D->D->Option D}{f g:GE}{ρ ρ1 ρ2:aC}{x y d:D}(h1:f ρ=some (x,ρ1))(h2:g ρ1=some (y,ρ2))(h3:F x y=some d):lB F f g ρ=some (d,ρ2):=by
 unfold lB bE;rw[h1];dsimp only[Option.bind];rw[h2];dsimp only[Option.bind];rw[h3];rfl
theorem bZ {i:Nat}{f:FE}{ρ:aC}{d:D}(h:f ρ=some d):aS i f ρ=.nx (ρ.set i (.v d)):=by unfold aS;rw[h]
theorem jd {i:Nat}{f:GE}{ρ ρ1:aC}{d:D}(h:f ρ=some (d,ρ1)):h9 i f ρ=.nx (ρ1.set i (.v d)):=by unfold h9;rw[h]
theorem xq {i:Nat}{f:GE}{ρ ρ1:aC}{ds:List D}(h:f ρ=some (.lst ds,ρ1)):rE i f ρ=.nx (ρ1.set i (.own ds)):=by unfold rE;rw[h];rfl
theorem gD {i:Nat}{f:FE}{ρ:aC}{ds:List D}(h:f ρ=some (.lst ds)):eI i f ρ=.nx (ρ.set i (.own ds)):=by unfold eI;rw[h];rfl
theorem fC {f:FA}{ρ:aC}{ds:List D}(h:f ρ=some ds)(h2:ds.length<=1000):cC f ρ=some (.tup ds):=by
 rw[yv,h,Option.bind_some,eC h2]
theorem ia {f:FA}{ρ:aC}{ds:List D}(h:f ρ=some ds)(h2:ds.length<=1000):bS f ρ=some (.lst ds):=by
 rw[kb,h,Option.bind_some,eC h2]
theorem ay {f:FE}{fs:FA}{ρ:aC}{d:D}{ds:List D}(h1:f ρ=some d)(h2:fs ρ=some ds):aa f fs ρ=some (d::ds):=by unfold aa;rw[h1,h2];rfl
theorem cS {F:List D->Option D}{f:FA}{ρ:aC}{ds:List D}(h:f ρ=some ds):ak F f ρ=F ds:=by unfold ak;rw[h];rfl
theorem zf {r:List Nat}{c:Nat}(h:c<r.length):nJ (r.map nI) (c:Int)=some (nI (r.getD c 0)):=tF (by rw[List.getElem?_map,List.getElem?_eq_getElem h];simp[List.getD,h])
theorem mE {r:List Nat}{c:Nat}(h:c<r.length):bn (.lst (r.map nI)) (nI c)=some (nI (r.getD c 0)):=zf h
theorem iM {r:List Nat}{c:Nat}(h:c<r.length):bn (.tup (r.map nI)) (nI c)=some (nI (r.getD c 0)):=zf h
theorem gZ(a b:Nat):cu (nI a) (nI b)=decide (a=b):=by
 rw[g6];rw[Bool.eq_iff_iff];simp;omega
theorem Dz(a b:Nat):bx (nI a) (nI b)=some (nI (a+b)):=by rw[cB];simp
theorem CW(a:Nat):bx (nI a) (.int 1)=some (nI (a+1)):=by rw[cB];simp
theorem wU {a n:Nat}(h:0<n):bz (nI a) (nI n)=some (nI (a % n)):=by rw[dJ (by omega)];rfl
theorem qh {i:Nat}{fi:FE}{d:D}{ρ:aC}{bs:List D}{j:Nat}(h1:gy i ρ=some bs)(h2:fi ρ=some (nI j))(h3:j<bs.length):eR i fi d ρ=some (fP i (bs.set j d) ρ):=by
 unfold eR;rw[h1];dsimp only;rw[h2];dsimp only;rw[i5 h3]
theorem vy(x:List Nat)(j v:Nat):(x.map nI).set j (nI v)=(x.set j v).map nI:=by rw[List.map_set]
def qT(n:Nat)(r x:List Nat)(c:Nat):List Nat:=if x.getD c 0=r.getD c 0 then(x.set c (x.getD ((c+1) % n) 0)).set ((c+1) % n) (x.getD c 0) else x
abbrev tY:FS:=aB (aS 7 (aq bz (aq bx (ai 6) (az (.int 1))) (ai 1)))
 (fH (bC (aq iE (aq bn (dr 5) (ai 6)) (aq bn (ai 4) (ai 6)))) (eV (gT 2 (dN (eR 5 (ai 6)) (dN (eR 5 (ai 7)) (jo)))) (pu (cC (aa (aq bn (dr 5) (ai 7)) (aa (aq bn (dr 5) (ai 6)) (ah)))))) (skip))
theorem vB(bg:List D)(p q:D)(n:Nat)(r x:List Nat)(c:Nat)(s7:Sl)(hr:r.length=n)(hx:x.length=n)(hc:c<n):
 tY [.arg bg,.v (nI n),.v p,.v q,.v (.lst (r.map nI)),.own (x.map nI),.v (nI c),s7]=.nx [.arg bg,.v (nI n),.v p,.v q,.v (.lst (r.map nI)),.own ((qT n r x c).map nI),.v (nI c),.v (nI ((c+1) % n))]:=by
 have hd:(c+1) % n<n:=Nat.mod_lt _ (by omega)
 have e1:aS 7 (aq bz (aq bx (ai 6) (az (.int 1))) (ai 1)) [.arg bg,.v (nI n),.v p,.v q,.v (.lst (r.map nI)),.own (x.map nI),.v (nI c),s7]=.nx [.arg bg,.v (nI n),.v p,.v q,.v (.lst (r.map nI)),.own (x.map nI),.v (nI c),.v (nI ((c+1) % n))]:=
  (bZ ((av (av (x:=nI c) (y:=.int 1) rfl rfl |>.trans (CW c)) (y:=nI n) rfl).trans (wU (by omega)))).trans rfl
 unfold tY;rw[aA e1];have i1:aq bn (dr 5) (ai 6) [.arg bg,.v (nI n),.v p,.v q,.v (.lst (r.map nI)),.own (x.map nI),.v (nI c),.v (nI ((c+1) % n))]=some (nI (x.getD c 0)):=(av (x:=.lst (x.map nI)) (y:=nI c) rfl rfl).trans (mE (by omega))
 have i2:aq bn (ai 4) (ai 6) [.arg bg,.v (nI n),.v p,.v q,.v (.lst (r.map nI)),.own (x.map nI),.v (nI c),.v (nI ((c+1) % n))]=some (nI (r.getD c 0)):=(av (x:=.lst (r.map nI)) (y:=nI c) rfl rfl).trans (mE (by omega))
 have i3:aq bn (dr 5) (ai 7) [.arg bg,.v (nI n),.v p,.v q,.v (.lst (r.map nI)),.own (x.map nI),.v (nI c),.v (nI ((c+1) % n))]=some (nI (x.getD ((c+1) % n) 0)):=(av (x:=.lst (x.map nI)) (y:=nI ((c+1) % n)) rfl rfl).trans (mE (by omega))
 unfold fH bC;rw[av i1 i2,ii (by rw[eS];omega),gZ]
 by_cases e:x.getD c 0=r.getD c 0
 ·rw[decide_eq_true e]
  simp only[qc];unfold eV;rw[jy (fC (ay i3 (ay i1 rfl)) (by simp))]
  simp only[gT,List.length_cons,List.length_nil,dN];unfold qT;rw[if_pos e];rw[qh (bs:=x.map nI) (j:=c) rfl rfl (by simp;omega)]
  simp only[Option.bind_some];rw[qh (bs:=(x.map nI).set c (nI (x.getD ((c+1) % n) 0))) (j:=(c+1) % n) rfl rfl (by simp;omega)]
  simp only[Option.bind_some,jo,vy];rfl
 ·rw[decide_eq_false e]
  simp only[qc,skip];unfold qT;rw[if_neg e]
theorem swap_perm(x:List Nat)(c d:Nat)(hc:c<x.length)(hd:d<x.length):((x.set c (x.getD d 0)).set d (x.getD c 0)).Perm x:=by
 have e:(x.toArray.swap c d (by simpa using hc) (by simpa using hd)).toList=(x.set c (x.getD d 0)).set d (x.getD c 0):=by
  simp[Array.toList_swap,List.getD,hc,hd]
 rw[<-e];have:=Array.swap_perm (xs:=x.toArray) (i:=c) (j:=d) (by simpa using hc) (by simpa using hd)
 simpa using (Array.perm_iff_toList_perm.mp this)
theorem oC {x:List Nat}(h:x.Nodup){i j:Nat}(hi:i<x.length)(hj:j<x.length)(e:x.getD i 0=x.getD j 0):i=j:=by
 have:x[i]=x[j]:=by simpa [List.getD,hi,hj] using e
 exact(List.getElem_inj h).mp this
theorem Ord.fix {n:Nat}{r x:List Nat}(or:Ord n r)(ox:Ord n x){c:Nat}(hc:c<n)(hn:2<=n):Ord n (qT n r x c)/\((∀i,i<c->x.getD i 0≠r.getD i 0)-> ∀i,i<c+1->(qT n r x c).getD i 0≠r.getD i 0):=by
 have lx:=ox.len
 have lr:=or.len
 have hd:(c+1) % n<n:=Nat.mod_lt _ (by omega)
 have gx: ∀i,i<n->x.getD i 0=x[i]! :=λi hi=>by simp[List.getD,lx,hi]
 unfold qT
 by_cases e:x.getD c 0=r.getD c 0
 ·rw[if_pos e]
  have ne:(c+1) % n≠c:=by
   by_cases h:c+1<n
   ·rw[Nat.mod_eq_of_lt h];omega
   ·rw[show c+1=n by omega,Nat.mod_self];omega
  refine⟨⟨(swap_perm x c _ (by omega) (by omega)).trans ox.perm⟩,λh i hi=>?_⟩
  have g:((x.set c (x.getD ((c+1) % n) 0)).set ((c+1) % n) (x.getD c 0)).getD i 0=if i=(c+1) % n then x.getD c 0 else if i=c then x.getD ((c+1) % n) 0 else x.getD i 0:=by
   simp only[List.getD,List.getElem?_set,List.length_set]
   by_cases h1:(c+1) % n=i
   ·subst h1;simp[lx,hd]
   ·rw[if_neg h1,if_neg (Ne.symm h1)]
    by_cases h2:c=i
    ·subst h2;simp[lx,hc]
    ·rw[if_neg h2,if_neg (Ne.symm h2)]
  rw[g]
  by_cases h1:i=(c+1) % n
  ·rw[if_pos h1,e]
   intro z;have:=oC or.nd (by omega) (by omega) z
   omega
  ·rw[if_neg h1]
   by_cases h2:i=c
   ·rw[if_pos h2,h2,<-e]
    intro z;have:=oC ox.nd (by omega) (by omega) z
    omega
   ·rw[if_neg h2];exact h i (by omega)
 ·rw[if_neg e]
  refine⟨ox,λh i hi=>?_⟩
  by_cases hic:i=c
  ·subst hic;exact e
  ·exact h i (by omega)
theorem yY(bg:List D)(p q:D){n:Nat}{r:List Nat}(or:Ord n r)(hn:2<=n): ∀(k c:Nat) (x:List Nat) (s6 s7:Sl),c+k=n->Ord n x->(∀i,i<c->x.getD i 0≠r.getD i 0)->
 ∃(x':List Nat) (s6' s7':Sl),fM (gN 6) tY ((List.range' c k).map nI) [.arg bg,.v (nI n),.v p,.v q,.v (.lst (r.map nI)),.own (x.map nI),s6,s7]=.nx [.arg bg,.v (nI n),.v p,.v q,.v (.lst (r.map nI)),.own (x'.map nI),s6',s7']/\Ord n x'/\ ∀i,i<n->x'.getD i 0≠r.getD i 0
 |0,c,x,s6,s7,h,ox,hi=>⟨x,s6,s7,rfl,ox,λi h'=>hi i (by omega)⟩
 |k+1,c,x,s6,s7,h,ox,hi=>by
  obtain⟨o1,o2⟩:=or.fix ox (c:=c) (by omega) hn
  obtain⟨x',a,b,e,o3,o4⟩:=yY bg p q or hn k (c+1) (qT n r x c) (.v (nI c)) (.v (nI ((c+1) % n))) (by omega) o1 (o2 hi)
  refine⟨x',a,b,?_,o3,o4⟩
  rw[List.range'_succ,List.map_cons];unfold fM;have:gN 6 (nI c) [.arg bg,.v (nI n),.v p,.v q,.v (.lst (r.map nI)),.own (x.map nI),s6,s7]=some [.arg bg,.v (nI n),.v p,.v q,.v (.lst (r.map nI)),.own (x.map nI),.v (nI c),s7]:=rfl
  rw[this];dsimp only;rw[vB bg p q n r x c s7 or.len ox.len (by omega)]
  exact e
theorem cE {α:Type}{g:FG}{f:FE}{ρ0:aC}{h o:α->D}: ∀(l:List α),(∀i∈l,∃ρ1,g (h i) ρ0=some ρ1/\f ρ1=some (o i))->dm g gz f ρ0 (l.map h)=some (l.map o)
 | [],_=>rfl
 |a::l,H=>by
  obtain⟨ρ1,h1,h2⟩:=H a (by simp)
  have ih:=cE l λi hi=>H i (by simp[hi])
  rw[List.map_cons];unfold dm;rw[h1,Option.bind_some];simp only[gz,Option.bind_some,if_true,h2,ih];rfl
theorem cx {m:Nat}{gi:FA}{g:FG}{p:FT}{f:FE}{ρ:aC}{ds ys:List D}(h1:gi ρ=some ds)(h2:ds.length<=1000)(h3:dm g p f (ρ++List.replicate m .no) ds=some ys):bu m gi g p f ρ=some (.lst ys):=by
 rw[vq,h1,Option.bind_some,eC h2,Option.bind_some,h3];rfl
theorem xG: ∀n,2<=n->n<=6-> ∀b,1<=b->b<n->Ord n ((List.range n).map λi=>(i+b) % n):=by
 intro n h1 h2 b h3 h4;refine⟨?_⟩
 have: ∀n:_root_.Fin 7,∀b:_root_.Fin 7,((List.range n.val).map λi=>(i+b.val) % n.val).isPerm (List.range n.val)=true\/ ¬(b.val<n.val):=by decide
 rcases this ⟨n,by omega⟩ ⟨b,by omega⟩ with h|h
 ·exact List.isPerm_iff.mp h
 ·exact absurd h4 h
abbrev bi(r:List Nat):D:=.tup (r.map nI)
abbrev be(r x:List Nat):D:=.tup [bi r,bi x]
structure Sq(n:Nat)(r x:List Nat):Prop where
 hr:Ord n r
 hx:Ord n x
 ne: ∀i,i<n->x.getD i 0≠r.getD i 0
theorem fI {f:FA}{ρ:aC}{n:Nat}(h:f ρ=some [nI n])(hn:n<=1000):dc f ρ=some ((List.range n).map nI):=by
 rw[pF,h,Option.bind_some,pJ (by omega),wY];rfl
theorem Ev {j:Int}(h:0<=j):D.int j=nI j.toNat:=by show D.int j=D.int (j.toNat:Int);rw[Int.toNat_of_nonneg h]
theorem Cu {n:Nat}{P:List D->Option D}{ds:List D}(h:ds.length=n):nF n P ds=P ds:=if_pos h
theorem iK {g:FG}{f:GE}{ρ ρ1 ρ2:aC}{d:D}(h1:f ρ=some (d,ρ1))(h2:g d ρ1=some ρ2):eV g f ρ=.nx ρ2:=by unfold eV;rw[h1];dsimp only;rw[h2];rfl
theorem bJ {n:Nat}{P:List D->Option D}{fs:FA}{ρ:aC}{ds:List D}(h:fs ρ=some ds)(hl:ds.length=n):ak (nF n P) fs ρ=P ds:=(cS h).trans (Cu hl)
theorem cj {kd:Kd}{n:Nat}{t:FS}{ds:List D}{ρ:aC}{d:D}(h:t (cY n ds)=.rt d ρ):iJ kd n t ds=some d:=by unfold iJ;rw[h]
theorem ci {f:FE}{ρ:aC}{d:D}(h:f ρ=some d):bp f ρ=.rt d ρ:=by unfold bp;rw[h]
theorem sP {p:FT}{t u:FS}{ρ:aC}(h:p ρ=some false):fH p t u ρ=u ρ:=by unfold fH;rw[h]
theorem j6 {p:FT}{t u:FS}{ρ:aC}(h:p ρ=some true):fH p t u ρ=t ρ:=by unfold fH;rw[h]
theorem xi {p q:FT}{ρ:aC}{b:Bool}(h1:p ρ=some true)(h2:q ρ=some b):ko p q ρ=some b:=by unfold ko;rw[h1];exact h2
theorem A4 {p q:FT}{ρ:aC}(h1:p ρ=some false):ko p q ρ=some false:=by unfold ko;rw[h1];rfl
theorem xj {p q:FT}{ρ:aC}{a b:Bool}(h1:p ρ=some a)(h2:a=true->q ρ=some b)(h3:a=false->b=false):ko p q ρ=some b:=by
 cases a with
 |true=>exact xi h1 (h2 rfl)
 |false=>rw[h3 rfl];exact A4 h1
theorem zG {p:FT}{ρ:aC}{b:Bool}(h:p ρ=some b):xf p ρ=some (.bl b):=by unfold xf;rw[h];rfl
theorem iG {f:GE}{ρ ρ1:aC}{d:D}(h:f ρ=some (d,ρ1)):cr f ρ=.nx ρ1:=by unfold cr;rw[h]
theorem dE {f:FE}{ρ:aC}{b:Bool}(h:f ρ=some (.bl b)):bC f ρ=some b:=by unfold bC;rw[h];rfl
theorem jB {f:FE}{ρ:aC}{b:Bool}(h:f ρ=some (.bl b)):eU f ρ=some b:=by unfold eU;rw[h];rfl
theorem kz {p:FT}{ρ:aC}{b:Bool}(h:p ρ=some b):gU p ρ=some (!b):=by unfold gU;rw[h];rfl
theorem ym {x:D}(h:dY x<=32):iD x x=some (.bl false):=by rw[jA h,lS];rfl
theorem fX {g:FG}{b:FS}{d:D}{r:List D}{ρ ρ1 ρ2:aC}(h1:g d ρ=some ρ1)(h2:b ρ1=.nx ρ2):fM g b (d::r) ρ=fM g b r ρ2:=by
 show(match g d ρ with
  |none=>Out.no
  |some ρ1=>match b ρ1 with
   | .nx ρ2=>fM g b r ρ2
   | .ct ρ2=>fM g b r ρ2
   | .bk ρ2=>.nx ρ2
   | .rt d ρ2=>.rt d ρ2
   | .no=>.no)=_
 rw[h1];dsimp only;rw[h2]
theorem jf {f:GA}{g:FG}{b:FS}{ρ ρ1:aC}{ds:List D}(h:f ρ=some (ds,ρ1)):fQ f g b ρ=fM g b ds ρ1:=by unfold fQ;rw[h]
theorem sD {f:FE}{ρ:aC}{ds:List D}(h:f ρ=some (.lst ds)):oZ f ρ=some ds:=by unfold oZ;rw[h];rfl
theorem mx {kd:Kd}{n:Nat}{t:FS}{ds:List D}{d:D}(h: ∃ρ,t (cY n ds)=.rt d ρ):iJ kd n t ds=some d:=let⟨_,h⟩:=h;cj h
theorem zv {t u:FS}{ρ:aC}{d:D}(P:aC->Prop)(h: ∃ρ',t ρ=.nx ρ'/\P ρ')(hu: ∀ρ',P ρ'-> ∃ρ'',u ρ'=.rt d ρ''): ∃ρ'',aB t u ρ=.rt d ρ'':=by
 obtain⟨ρ',h1,h2⟩:=h
 obtain⟨ρ'',h3⟩:=hu ρ' h2
 exact⟨ρ'',(aA h1).trans h3⟩
theorem xo {f:GA}{g:FG}{b:FS}{ρ ρ1:aC}{ds:List D}{P:aC->Prop}(h:f ρ=some (ds,ρ1))(hl: ∃ρ',fM g b ds ρ1=.nx ρ'/\P ρ'): ∃ρ',fQ f g b ρ=.nx ρ'/\P ρ':=by
 obtain⟨ρ',h1,h2⟩:=hl
 exact⟨ρ',(jf h).trans h1,h2⟩
theorem tN {g:FG}{b:FS}{P:aC->Prop}: ∀(l:List D),(∀d∈l,∀ρ,P ρ-> ∃ρ1 ρ2,g d ρ=some ρ1/\b ρ1=.nx ρ2/\P ρ2)-> ∀ρ,P ρ-> ∃ρ',fM g b l ρ=.nx ρ'/\P ρ'
 | [],_,ρ,p=>⟨ρ,rfl,p⟩
 |d::l,h,ρ,p=>by
  obtain⟨ρ1,ρ2,h1,h2,p2⟩:=h d (by simp) ρ p
  obtain⟨ρ',e,p'⟩:=tN l (λd' hd=>h d' (by simp[hd])) ρ2 p2
  exact⟨ρ',(fX h1 h2).trans e,p'⟩
theorem o5 {i:Nat}{fs:GA}{ρ ρ1:aC}{b0 bs:List D}{d:D}(h0:gy i ρ=some b0)(h1:fs ρ=some ([d],ρ1))(h2:gy i ρ1=some bs)(h3:bs.length<=900):cr (aF i 1 iP fs) ρ=.nx (fP i (bs++[d]) ρ1):=
 iG (bB h0 h1 h2 rfl (by rw[tU,nv (by omega)]))
theorem jc {α:Type}{g:FG}{p:FT}{f:FE}{ρ0:aC}{h o:α->D}{q:α->Bool}: ∀(l:List α),(∀i∈l,∃ρ1,g (h i) ρ0=some ρ1/\p ρ1=some (q i)/\(q i=true->f ρ1=some (o i)))->dm g p f ρ0 (l.map h)=some ((l.filter q).map o)
 | [],_=>rfl
 |a::l,H=>by
  obtain⟨ρ1,h1,h2,h3⟩:=H a (by simp)
  have ih:=jc l λi hi=>H i (by simp[hi])
  rw[List.map_cons];unfold dm;rw[h1,Option.bind_some,h2,Option.bind_some];cases e:q a with
  |true=>rw[if_pos rfl,h3 e,Option.bind_some,ih];simp[e]
  |false=>rw[if_neg (by simp),ih];simp[e]
theorem o7 {α:Type}{g:FG}{p:FT}{A:FA}{ρ0:aC}{h:α->D}{q:α->Bool}{o:α->List D}: ∀(l:List α),(∀i∈l,∃ρ1,g (h i) ρ0=some ρ1/\p ρ1=some (q i)/\(q i=true->A ρ1=some (o i)))->mI g p A ρ0 (l.map h)=some ((l.filter q).flatMap o)
 | [],_=>rfl
 |a::l,H=>by
  obtain⟨ρ1,h1,h2,h3⟩:=H a (by simp)
  have ih:=o7 l λi hi=>H i (by simp[hi])
  rw[List.map_cons];unfold mI;rw[h1,Option.bind_some,h2,Option.bind_some];cases e:q a with
  |true=>rw[if_pos rfl,h3 e,Option.bind_some,ih];simp[e]
  |false=>rw[if_neg (by simp),ih];simp[e]
theorem x9 {f:FE}{ρ:aC}{d:D}(h:f ρ=some d):pU f ρ=some [d]:=by unfold pU;rw[h];rfl
theorem xP {m:Nat}{gi1 gi2:FA}{g1 g2:FG}{p1 p2:FT}{f:FE}{ρ:aC}{ds ys:List D}(h1:gi1 ρ=some ds)(h2:mI g1 p1 (xb gi2 g2 p2 f) (ρ++List.replicate m .no) ds=some ys)(h3:ys.length<=1000):uR m gi1 g1 p1 gi2 g2 p2 f ρ=some (.lst ys):=by
 unfold uR;rw[h1,Option.bind_some,h2,Option.bind_some,if_pos (Nat.le_of_lt (ja h3))]
theorem Ad {gi:FA}{g:FG}{p:FT}{f:FE}{ρ:aC}{ds ys:List D}(h1:gi ρ=some ds)(h2:mI g p (pU f) ρ ds=some ys):xb gi g p f ρ=some ys:=by
 unfold xb;rw[h1,Option.bind_some,h2]
theorem vl(r:List Nat)(ρ:aC)(f:FE)(h:f ρ=some (.lst (r.map nI))):ak bD (aa f ah) ρ=some (nI r.length):=by
 rw[cS (ay h rfl)];show some (D.int ((r.map nI).length:Int))=_;rw[List.length_map]
theorem pQ(r:List Nat)(ρ:aC)(f:FE)(h:f ρ=some (bi r)):ak bD (aa f ah) ρ=some (nI r.length):=by
 rw[cS (ay h rfl)];show some (D.int ((r.map nI).length:Int))=_;rw[List.length_map]
theorem BR(L:List Nat)(c:Nat):(L.map nI).any (λd=>cu d (nI c))=decide (c∈L):=by
 induction L with
 |nil=>simp
 |cons a L ih=>
  rw[List.map_cons,List.any_cons,ih,gZ,Bool.eq_iff_iff];simp only[Bool.or_eq_true,decide_eq_true_eq,List.mem_cons];exact or_congr_left eq_comm
theorem Ej(L:List Nat)(c:Nat):yO false (nI c) (.lst (L.map nI))=some (.bl (decide (c∈L))):=by
 unfold yO vi;dsimp only;rw[lA,if_pos (by omega),BR]
 rfl
theorem pz {α β:Type}(f:α->β): ∀l:List α,l.flatMap (λc=>[f c])=l.map f
 | []=>rfl
 |a::l=>by rw[List.flatMap_cons,pz f l];rfl
theorem Ord.get {n:Nat}{o:List Nat}(O:Ord n o){i:Nat}(h:i<n):o.getD i 0<n:=by
 have ho:=O.len
 have:o.getD i 0=o[i]'(by omega):=by simp[List.getD,ho,h]
 rw[this];exact O.lt (List.getElem_mem _)
theorem Ord.inj {n:Nat}{o:List Nat}(O:Ord n o){i j:Nat}(hi:i<n)(hj:j<n)(e:o.getD i 0=o.getD j 0):i=j:=oC O.nd (by rw[O.len];exact hi) (by rw[O.len];exact hj) e
theorem mL {m:Nat}: ∀ {l:List D},(∀d∈l,dY d<=m)->ck l<=m
 | [],_=>by simp[ck]
 |d::l,h=>by
  unfold ck;have h1:=h d (by simp)
  have h2:=mL (l:=l) λx hx=>h x (by simp[hx])
  omega
section
variable {X:Cx}{K:W.Frag}
def sA:V->List V->Hp->VK->Prop:=λx vs H Q=> ∃(l:Addr) (ns:List Int) (i:Int) (j:Nat),x=.ref l/\vs=[.int i]/\H l=some (.lst (ns.map V.int))/\ns.findIdx? (λm=>m==i)=some j/\Q .non (cw H l (.lst ((ns.map V.int).eraseIdx j)))
def Ds(i:Int):Value->Bool
 | .int a _=>a==i
 |_=>false
theorem uh:A3 X "list.remove" sA:=by
 intro ae s σ H x vs v us Q I rx rv h;obtain⟨l,ns,i,j,rfl,rfl,hH,hj,q⟩:=h
 cases rx
 obtain⟨u,rfl,ru⟩:=rv.one
 obtain⟨t,rfl⟩:=ru
 obtain⟨z,its,n,r,hl,e⟩:=I.lstM hH
 have hlen:its.length=ns.length:=by rw[<-hl,List.length_map]
 have at': ∀m (hm:m<its.length),∃tk,its[m]=.int (ns[m]'(by omega)) tk:=λm hm=>by
  have g:(ns.map V.int)[m]? =some (V.int (ns[m]'(by omega))):=by rw[List.getElem?_map,List.getElem?_eq_getElem (by omega)];rfl
  obtain⟨w,hw,rw'⟩:=r.get g
  obtain⟨tk,rfl⟩:=rw'
  rw[List.getElem?_eq_getElem hm] at hw;exact⟨tk,Option.some.inj hw⟩
 have he: ∀y,y∈its.toArray->MeetsSeq.EqGives y (.int i t) (Ds i y):=λy hy=>by
  obtain⟨m,hm,rfl⟩:=List.getElem_of_mem (List.mem_toArray.mp hy)
  obtain⟨tk,e1⟩:=at' m hm
  rw[e1];exact MeetsSeq.EqGives.int _ _ _ _
 obtain⟨j1,j2,j3⟩:=List.findIdx?_eq_some_iff_getElem.mp hj
 refine call_meets F.slot_list_remove ⟨_,e,rfl⟩ F.entry_list_remove (F.args_list_remove_2 _ _)
  (MeetsSeq.list_remove l its.toArray n (.int i t) (Ds i) he j (by rw[List.size_toArray];omega) ?_ ?_ (by rw[List.size_toArray];omega)) ⟨e,?_⟩
 ·obtain⟨tk,e1⟩:=at' j (by omega)
  rw[List.getElem_toArray,e1];exact j2
 ·intro m hm hmj
  rw[List.size_toArray] at hm;obtain⟨tk,e1⟩:=at' m hm
  rw[List.getElem_toArray,e1];have:=j3 m hmj
  simpa [Ds] using this
 refine⟨.non,_,I.lset (its':=its.eraseIdx j) hH e ?_ (r.eraseIdx j) ?_,rfl,q⟩
 ·show its.toArray.eraseIdxIfInBounds j=(its.eraseIdx j).toArray
  rw[List.eraseIdxIfInBounds_toArray]
 ·have:=kn (ns.map V.int) j
  omega
def uX:List D->List D->Option (D×List D):=λbs ds=>match ds with
 | [.int i]=>match gl bs with
   |some ns=>(ns.findIdx? (λm=>m==i)).map λj=>(.non,bs.eraseIdx j)
   |none=>none
 |_=>none
theorem uN:Ar K sA 1 uX:=by
 intro H hid a xs us bs ds bs' d Q h1 h2 h3 h4 h5 h6 q;unfold uX at h6;split at h6
 ·split at h6
  ·rename_i i _ ns e1
   cases e2:ns.findIdx? (λm=>m==i) with
   |none=>rw[e2] at h6;cases h6
   |some j=>
    rw[e2] at h6;cases h6;cases h4 with
    |cons r t=>
     cases t
     cases r
     have h3':=h3
     rw[j7 e1] at h3';have ex:=fz h3'
     refine⟨a,ns,i,j,rfl,rfl,by rw[<-ex];exact h1,e2,?_⟩
     rw[<-ex];exact q _ _ (h3.eraseIdx j) .non
  ·cases h6
 ·cases h6
end
open PySem PySem.W PySem.Spec PyProof.Rows
section
variable {X:Cx}{c:Ct}{a b e:Expr}{f g:FE}{pos p p2 p3:Pos}{k:Kd}
def zg(K:W.Frag):R2:=λx y H Q=> ∃l b xs zs,x=.ref l/\y=.ref b/\SqL K H l xs/\SqL K H b zs/\xs.length+zs.length<=sizeLine/\ ∀p,H p=none->Q (.ref p) (cw H p (.lst (xs++zs)))
theorem xp:jV X (binaryOp .Add) (zg X.K):=by
 intro ae s σ H x y v u Q I rx ry h;obtain⟨l,b,xs,zs,rfl,rfl,hL,hB,hz,q⟩:=h
 cases rx
 cases ry
 obtain⟨its,r,⟨o,n,e,c1,d1,t1⟩,z1⟩:=I.list hL
 obtain⟨its2,r2,⟨o2,n2,e2,c2,d2,t2⟩,z2⟩:=I.list hB
 obtain⟨oc,od,ot,sl⟩:=o
 obtain⟨oc2,od2,ot2,sl2⟩:=o2
 dsimp only at c1 d1 t1 c2 d2 t2;subst c1 d1 t1 c2 d2 t2;have hl:=r.length
 have hl2:=r2.length
 refine concat_meets ⟨_,e,rfl⟩ ⟨_,e2,rfl⟩ noFill_list_add seq_list_add PySem.F.slot_list_add PySem.F.entry_list_add (PySem.F.args_list_add_2 _ _) (list_addW l b its.toArray its2.toArray n n2 none none sl sl2 (by rw[List.size_toArray,List.size_toArray];omega)) ⟨e,e2,?_⟩
 have ea:its.toArray++its2.toArray=(its++its2).toArray:=by simp
 rw[ea];exact⟨.ref _,_,I.lnew (t':=s.toks) (r.append r2) (by rw[List.length_append];omega),rfl,q _ I.fresh⟩
def qa:D->D->Option D
 | .lst xs,.lst ys=>if xs.length+ys.length<=sizeLine then some (.lst (xs++ys)) else none
 |_,_=>none
theorem yC {K:W.Frag}:kL K .n (zg K) qa:=by
 intro H hid v u x y d Q hf h r1 r2 q;unfold qa at h;split at h
 ·split at h
  ·rename_i hz
   cases h
   obtain⟨a,xs,rfl,h1,h2⟩:=r1.lst
   obtain⟨b,ys,rfl,h3,h4⟩:=r2.lst
   exact⟨a,b,xs,ys,rfl,rfl,h1,h3,by rw[h2.length,h4.length];exact hz,λp hp=>q _ _ (bd hp _) (lR hp (Same.refl _) (h2.append h4))⟩
  ·cases h
 ·cases h
theorem sX {k1 k2:Kd}(ha:DP X c k1 a f)(hb:DP X c k2 b g):DP X c .n (.BinOp a .Add b pos) (aq qa f g):=me xp yC ha hb
def Bp:D->D->Option D
 | .int i,.int j=>if i.natAbs<=1000000/\j.natAbs<=1000000/\(j-i).natAbs<=1000000 then some (.lst (qd i (j-i).toNat)) else none
 |_,_=>none
def CH(f g:FE):FE:=aq Bp f g
theorem mY {k2:Kd}(hc:X.calm=true)(hml:X.mg "list"=none)(hmr:X.mg "range"=none)(he:DP X c k a f)(hf:DP X c k2 b g)(hgl:Gl X "list":=by rfl)(hgr:Gl X "range":=by rfl)(hvl:bootBuiltins "list"=some (.type "list"):=by kernel_rfl)(hvr:bootBuiltins "range"=some (.type "range"):=by kernel_rfl)
 (hs1:starEach [a,b] X.env=(false,eval a X.env)::starEach [b] X.env:=by rfl) (hs3:starEach [b] X.env=(false,eval b X.env)::starEach [] X.env:=by rfl) (hpl1:(backTo pos (starEach [] X.env)).any (·.1)=false:=by rfl) (hpl2:(backTo p2 (starEach [b] X.env)).any (·.1)=false:=by rfl)
 (hs2:starEach [.Call (.Name "range" p3) [a,b] [] p2] X.env=(false,eval (.Call (.Name "range" p3) [a,b] [] p2) X.env)::starEach [] X.env:=by rfl):
 DP X c .n (.Call (.Name "list" p) [.Call (.Name "range" p3) [a,b] [] p2] [] pos) (CH f g):=λhid ρ=>
 PE.imp (eB (js hc) hgl hml hvl (aV (eB uA hgr hmr hvr (aV (he hid ρ) (aV (hf hid ρ) cv hs3) hs1) (by decide) (by decide) hs1 hpl2) cv hs2) (by decide) (by decide) hs2 hpl1) λσ H Q hq_=>by
  obtain⟨sr,d,hd,q⟩:=hq_
  obtain⟨x,y,e1,e2,e3⟩:=iN hd
  unfold Bp at e3;split at e3
  ·split at e3
   ·rename_i i j hb
    cases e3
    refine⟨sr,_,e1,λv H1 s1 r1=>⟨sr.ext s1,_,e2,λu H2 s2 r2=>?_⟩⟩
    have b1:=(RK.b k r1 λa n=>sr.fresh n).int
    have b2:=(RK.b k2 r2 λa n=>(sr.ext s1).fresh n).int
    cases b1
    cases b2
    refine⟨i,j,rfl,λr hr=>?_⟩
    refine⟨r,i,j,rfl,aY,by omega,by omega,by omega,by omega,by omega,λl hl=>?_⟩
    have s3:Same H (cw H2 r (.rng i j)):=(s1.trans s2).trans (bd hr _)
    exact q _ _ (s3.trans (bd hl _)) (lR (hid:=hid) (K:=X.K) hl s3 (yV i (j-i).toNat))
   ·cases e3
  ·cases e3
end
abbrev pp:List Value:=[.type "ValueError",.type "Exception",.type "BaseException",.type "object"]
structure ExcC(K:W.Frag)(C:Addr):Prop where
 ga:W.findIn K (.ref C) "__getattribute__"=some (some (.builtin "BaseException.__getattribute__"))
 gt:W.findIn K (.ref C) "__getattr__"=some none
 cl:W.findIn K (.ref C) "__class__"=some (some (.builtin "object.__class__"))
 sp:W.specialIn K (.builtin "object.__class__") "__get__"=some (some (.builtin "getset_descriptor.__get__"))
 tk:W.takesIn K (.builtin "object.__class__")=some true
 mo:W.mroIn K C (.type "object")=some true
 mb:W.mroIn K C (.type "BaseException")=some true
section
variable {K:W.Frag}{C:Addr}{prog:Program}{w:World}{A:Around}{E:Value->Shared->Prop}{s:Shared}{a:Addr}{o:Obj}
theorem ExcC.cls(X:ExcC K C): ∃cd,W.clsIn K C=some cd:=by
 obtain⟨cd,h,_⟩:=Option.bind_eq_some_iff.mp X.mo
 exact⟨cd,h⟩
theorem vo(X:ExcC K C):W.findObj K C none "__class__"=some (.bind (.builtin "getset_descriptor.__get__") (.builtin "object.__class__")):=by
 obtain⟨cd,hc⟩:=X.cls
 unfold W.findObj;rw[hc,Option.bind_some,X.cl,Option.bind_some];dsimp only;rw[X.sp,Option.bind_some];dsimp only;rw[X.tk,Option.bind_some]
theorem uH(X:ExcC K C)(KI:K.In s.heap)(I:W.InstAt s.heap a o C none){Q:Option Value->Shared->Prop}(h:Q (some (.ref C)) {s with toks:=s.toks+1}):
 wpAny (model prog w) A (getAttr? (.ref a) "__class__") Q E s:=by
 obtain⟨hh,g,d,t,os⟩:=s
 have L0:=I.type (M:=model prog w)
 have L1:=W.looks_findIn (M:=model prog w) KI X.ga
 have L2:=W.looks_findIn (M:=model prog w) KI X.gt
 have L3:=W.looks_find (M:=model prog w) KI I (vo X)
 have L4:=W.looks_mroIn (M:=model prog w) KI X.mb
 have f3:=F.attrBase_ValueError.ga.bind (.ref a)
 unfold getAttr? getAttrBy? getAttrBy;refine wpAny_bind (wpAny_mkText (wpAny_bind (wpAny_attempt (wpAny_holding (wpAny_bind (L0.at (wpAny_bind (L1.at ?_))))))))
 dsimp only;have hx2:(Value.builtin "BaseException.__getattribute__"==Value.builtin "object.__getattribute__")=false:=by decide+kernel
 rw[if_neg (by rw[hx2];simp)]
 unfold getAttrByItsOwn hookBefore callGetattribute boundAndCalled;refine wpAny_bind ?_
 show wpAny _ _ (typeLookup (.ref C) "__getattr__") _ _ _;refine L2.at ?_
 refine wpAny_bind (wpAny_attempt (wpAny_holding ?_))
 simp only[Bool.false_and,Bool.false_eq_true,if_false];rw[f3];refine wpAny_bind (wpAny_pure ?_)
 dsimp only;refine wpAny_call (codeAny_call_builtin F.attrBase_ValueError.ga.plain F.entry_bexc_ga ?_)
 have hk:builtinKind "BaseException.__getattribute__"=some .slot:=by decide+kernel
 have hsplit:splitId "BaseException.__getattribute__"=some ("BaseException","__getattribute__"):=by decide+kernel
 have ha:=F.args_bexc_ga (.ref a) (.str "__class__" t)
 show wpAny _ _ (checkBuiltinCall "BaseException.__getattribute__" ⟨[.ref a,.str "__class__" t],[]⟩) _ _ _;simp only[checkBuiltinCall,hk,hsplit];have LI:W.Looks (model prog w) hh (isInstance (.ref a) (.type "BaseException")) true:=L0.andThen L4
 refine wpAny_bind (LI.at ?_)
 rw[if_neg (by simp)]
 refine wpAny_of_eq (a:=()) ha ?_
 unfold Builtin.«object.__getattribute__»;refine wpAny_bind (wpAny_pure (a:=(Value.ref a,[Value.str "__class__" t])) ?_)
 dsimp only;refine wpAny_bind (wpAny_pure (a:=("__class__":Str)) ?_)
 refine wpAny_bind (L0.at (wpAny_bind (L3.at ?_)))
 dsimp only;show wpAny _ _ (do let v <-holding [Value.builtin "object.__class__"] (call (.builtin "getset_descriptor.__get__") [.builtin "object.__class__",.ref a,.ref C]);ret v) _ _ _
 refine wpAny_bind (wpAny_holding (wpAny_call (W.class_get (K:=K) (ox:=o) (od:=none) KI I X.mo ?_)))
 refine wpAny_pure ?_
 dsimp only;exact wpAny_of_eq (a:=Value.ref C) rfl (wpAny_pure h)
theorem oE(X:ExcC K C):W.KitX K (.ref a) (.ref C) (λh=> ∃o,W.InstAt h a o C none) where
 ty:=λ_ _ _ I=>let⟨_,I⟩:=I;I.type
 it:=λ_ _ KI _=>by
  obtain⟨cd,hc⟩:=X.cls
  unfold W.clsIn at hc;split at hc
  ·rename_i c' d' cd' sl' ho
   intro A' Q' E' s' k q;unfold isType loadHead;exact wpAny_bind (wpAny_loadPart (k _ _ (KI _ _ ho)) (wpAny_pure q))
  ·cases hc
 ne:=λh tp dd its n sl KI htp=>by
  obtain⟨cd,hc⟩:=X.cls
  refine Bool.eq_false_iff.mpr λq=>?_
  have e:C=tp:=Value.ref.inj (beq_iff_eq.mp q)
  subst e;unfold W.clsIn at hc;split at hc
  ·rename_i c' d' cd' sl' ho
   have z:=(KI _ _ ho).symm.trans htp
   cases z
  ·cases hc
 ca:=λKI I k=>let⟨_,I⟩:=I;uH X KI I k
end
def Trc(h B:Heap)(e:Addr)(o0:Obj):Prop:=
 ∃vs T oT ts,h.get? e=some {o0 with data:=.fields vs}/\vs[1]? =some (.ref T)/\B.get? T=none/\T≠e/\h.get? T=some oT/\oT.data=.fields ts/\ts[3]? =some .none
def Ep(h:Heap)(e:Addr)(o0:Obj):Prop:= ∃vs,h.get? e=some {o0 with data:=.fields vs}/\vs[1]? =some .none
structure InFl(B:Heap)(l:List Env)(e:Addr)(o0:Obj)(h:Heap):Prop where
 st:B.StaysIn h
 ne:B.get? e=none
 ff:h.FunFrames B l
 tr:Trc h B e o0\/Ep h e o0
section
variable {M:Model}{A:Around}{E:Value->Shared->Prop}{s:Shared}{B:Heap}{env:Env}{outer:List Env}{L e:Addr}{o0:Obj}
theorem pM {vs:Array Value}{head:Value}{hn:Bool}{Q:Unit->Shared->Prop}(hfr:A.frames=some (env::outer))(hl:s.heap.FunFrames B (env::outer))(hf:env.frame=some L)
 (he:s.heap.get? e=some {o0 with data:=.fields vs}) (hsz:1<vs.size) (hB:B.StaysIn s.heap) (ne:B.get? e=none)
 (h: ∀h',InFl B (env::outer) e o0 h'->Trc h' B e o0->s.heap.UpToSlots h'->Q () {s with heap:=h'}):
 wpAny M A (do let a <-frameOf env;let pl <-entryPlaceOf L hn;let b <-EntryCells.newEntry head a .none (rawInt L) .none pl;setField (.ref e) 1 b) (λ_ s'=>wpAny M A (setFlight (.ref e) none) Q E s') E s:=by
 have hne:e∉frs (env::outer):=λhm=>by
  obtain⟨_,o,ho,nf⟩:=hl.mem hm
  rw[he] at ho;cases ho;exact nf vs rfl
 refine wpAny_bind (wpAny_frameOf_fun hfr hl hf λh1 k1=>wpAny_bind (wpAny_entryPlaceOf λpl hp=>?_))
 unfold EntryCells.newEntry newFields;refine wpAny_bind (wpAny_newObj_type ?_ (hp.sizeOk5 _ _ _ _ _))
 have e1:h1.get? e=some {o0 with data:=.fields vs}:=(k1.2.1 e hne).trans he
 generalize hten:([head,.ref L,.none,rawInt L,.none]++(if pl.isEmpty then List.replicate 6 Value.none else pl)).toArray=ten
 have tsz:3<ten.size:=by rw[<-hten];simp only[List.size_toArray,List.length_append,List.length_cons,List.length_nil];omega
 generalize hT:h1.objs.size=T
 have Tn:h1.get? T=none:=by rw[<-hT];exact Heap.get?_none_of_le (Nat.le_refl _)
 have Te:T≠e:=λq=>by rw[q,e1] at Tn;cases Tn
 have e2:(h1.push {cls:=.type "traceback",dict:=none,data:=.fields ten}).get? e=some {o0 with data:=.fields vs}:=Heap.get?_push_of_some _ e1
 have t2:(h1.push {cls:=.type "traceback",dict:=none,data:=.fields ten}).get? T=some {cls:=.type "traceback",dict:=none,data:=.fields ten}:=by rw[<-hT];exact Heap.get?_push_size h1 rfl
 refine wpAny_setField e2 rfl hsz ?_
 have e3:=Heap.get?_update_self (Obj.mapFields (·.setIfInBounds 1 (Value.ref T))) e2 (Obj.isFreed_of_fields rfl)
 have t3:=(Heap.get?_update_other (h1.push {cls:=.type "traceback",dict:=none,data:=.fields ten}) (Obj.mapFields (·.setIfInBounds 1 (Value.ref T))) (Ne.symm Te)).trans t2
 unfold setFlight;refine wpAny_bind (wpAny_field e3 rfl (x:=.ref T) (by simp[hsz]) ?_)
 rw[if_pos (by simp:(Value.ref T !=Value.none)=true)]
 refine wpAny_setField t3 rfl tsz ?_
 have kp: ∀b o,b≠e->h1.get? b=some o->(((h1.push {cls:=.type "traceback",dict:=none,data:=.fields ten}).update e (Obj.mapFields (·.setIfInBounds 1 (Value.ref T)))).update T
  (Obj.mapFields (·.setIfInBounds 3 ((none:Option Addr).elim Value.none λf=>rawInt f)))).get? b=some o:=λb o nb hb=>by
  rw[Heap.get?_update_other _ _ (λq=>by rw[<-q,Tn] at hb;cases hb),Heap.get?_update_other _ _ (Ne.symm nb)]
  exact Heap.get?_push_of_some _ hb
 have nr: ∀b o,s.heap.get? b=some o->(∀vs,o.data≠ .fields vs)->b≠e:=λb o hb nf q=>by
  rw[q,he] at hb;cases hb;exact nf vs rfl
 have B1:B.StaysIn h1:=λb o hb=>(k1.2.1 b λhm=>by rw[(hl.mem hm).1] at hb;cases hb).trans (hB b o hb)
 have TB:B.get? T=none:=by
  cases q:B.get? T with
  |none=>rfl
  |some o=>rw[B1 T o q] at Tn;cases Tn
 have tr:Trc (((h1.push {cls:=.type "traceback",dict:=none,data:=.fields ten}).update e (Obj.mapFields (·.setIfInBounds 1 (Value.ref T)))).update T
  (Obj.mapFields (·.setIfInBounds 3 ((none:Option Addr).elim Value.none λf=>rawInt f)))) B e o0:=
  ⟨_,T,_,_,(Heap.get?_update_other _ _ Te).trans e3,by simp[hsz],TB,Te,Heap.get?_update_self _ t3 (Obj.isFreed_of_fields rfl),rfl,by simp[tsz]⟩
 refine h _ ⟨λb o hb=>kp b o (λq=>by rw[q,ne] at hb;cases hb) (B1 b o hb),ne,hl.of_keeps λb o hb nf=>?_,.inl tr⟩ tr λb o hb nf=>?_
 ·obtain⟨sl,q⟩:=k1.2.2 b o hb
  exact⟨_,kp b _ (nr b o hb nf) q,rfl⟩
 ·obtain⟨sl,q⟩:=k1.2.2 b o hb
  exact⟨sl,kp b _ (nr b o hb nf) q⟩
theorem sQ {Q:Unit->Shared->Prop}(hfr:A.frames=some (env::outer))(hf:env.frame=some L)(x:InFl B (env::outer) e o0 s.heap)
 (h: ∀h',InFl B (env::outer) e o0 h'->Trc h' B e o0->s.heap.UpToSlots h'->Q () {s with heap:=h'}):
 wpAny M A (noteFrame (.ref e) env) (λ_ s'=>wpAny M A (setFlight (.ref e) none) Q E s') E s:=by
 obtain⟨st,ne,ff,tr⟩:=x
 unfold noteFrame;simp only[hf];rcases tr with⟨vs,T,oT,ts,he,h1,TB,Te,hT,hd,h3⟩|⟨vs,he,h1⟩
 ·refine wpAny_bind (wpAny_field he rfl h1 ?_)
  rw[if_pos (by simp:(Value.ref T !=Value.none)=true)]
  refine wpAny_bind (wpAny_field hT hd h3 ?_)
  rw[if_neg (by simp[rawInt]: ¬((Value.none==rawInt L)=true))]
  refine wpAny_bind (wpAny_setField hT hd (Array.getElem?_eq_some_iff.mp h3).1 ?_)
  have ot: ∀b,b≠T->(s.heap.update T (Obj.mapFields (·.setIfInBounds 3 Value.none))).get? b=s.heap.get? b:=λb nb=>Heap.get?_update_other _ _ (Ne.symm nb)
  have nr: ∀b o,s.heap.get? b=some o->(∀vs,o.data≠ .fields vs)->b≠T:=λb o hb nf q=>by
   rw[q,hT] at hb;cases hb;exact nf ts hd
  exact pM hfr (ff.of_keeps λb o hb nf=>⟨o,(ot b (nr b o hb nf)).trans hb,rfl⟩) hf ((ot e (Ne.symm Te)).trans he) (Array.getElem?_eq_some_iff.mp h1).1
   (λb o hb=>(ot b λq=>by rw[q,TB] at hb;cases hb).trans (st b o hb)) ne λh' x1 x2 x3=>h h' x1 x2 λb o hb nf=>x3 b o ((ot b (nr b o hb nf)).trans hb) nf
 ·refine wpAny_bind (wpAny_field he rfl h1 ?_)
  rw[if_neg (by decide)]
  exact pM hfr ff hf he (Array.getElem?_eq_some_iff.mp h1).1 st ne h
theorem vT {Q:Unit->Shared->Prop}(hfr:A.frames=some (env::outer))(hf:env.frame=some L)(x:InFl B (env::outer) e o0 s.heap)
 (h: ∀h',InFl B outer e o0 h'->s.heap.UpToSlots h'->Q () {s with heap:=h'}):wpAny M A (leaving env (.ref e)) Q E s:=by
 unfold leaving;exact wpAny_bind (sQ hfr hf x λh' x1 _ x3=>h h' ⟨x1.st,x1.ne,x1.ff.2.2,x1.tr⟩ x3)
theorem yw {Q:Unit->Shared->Prop}{l:List Env}(x:InFl B l e o0 s.heap)(t:Trc s.heap B e o0)
 (h: ∀h',InFl B l e o0 h'->Trc h' B e o0->s.heap.UpToSlots h'->Q () {s with heap:=h'}):wpAny M A (setFlight (.ref e) none) Q E s:=by
 obtain⟨vs,T,oT,ts,he,h1,TB,Te,hT,hd,h3⟩:=t
 have sz:=(Array.getElem?_eq_some_iff.mp h3).1
 unfold setFlight;refine wpAny_bind (wpAny_field he rfl h1 ?_)
 rw[if_pos (by simp:(Value.ref T !=Value.none)=true)]
 refine wpAny_setField hT hd sz ?_
 have ot: ∀b,b≠T->(s.heap.update T (Obj.mapFields (·.setIfInBounds 3 ((none:Option Addr).elim Value.none λf=>rawInt f)))).get? b=s.heap.get? b:=λb nb=>Heap.get?_update_other _ _ (Ne.symm nb)
 have nr: ∀b o,s.heap.get? b=some o->(∀vs,o.data≠ .fields vs)->b≠T:=λb o hb nf q=>by
  rw[q,hT] at hb;cases hb;exact nf ts hd
 have tr:Trc (s.heap.update T (Obj.mapFields (·.setIfInBounds 3 ((none:Option Addr).elim Value.none λf=>rawInt f)))) B e o0:=
  ⟨vs,T,_,_,(ot e (Ne.symm Te)).trans he,h1,TB,Te,Heap.get?_update_self _ hT (Obj.isFreed_of_fields (Obj.data_mapFields hd _)),Obj.data_mapFields hd _,by simp[sz]⟩
 exact h _ ⟨λb o hb=>(ot b λq=>by rw[q,TB] at hb;cases hb).trans (x.st b o hb),x.ne,x.ff.of_keeps λb o hb nf=>⟨o,(ot b (nr b o hb nf)).trans hb,rfl⟩,.inl tr⟩ tr λb o hb nf=>⟨o.slots,(ot b (nr b o hb nf)).trans hb⟩
end
theorem tS {h base g:Heap}{F:List Addr}: ∀ {l:List Env},h.FunFrames base l->(∀b∈frs l,b∈F)->h.FunFrames (W.hideAll g F) l
 | [],_,_=>trivial
 |env::r,⟨hk,⟨L,o,hf,hn,ho,hd⟩,hr⟩,hF=>by
  refine⟨hk,⟨L,o,hf,W.hideAll_none F (hF L ?_),ho,hd⟩,tS hr λb hb=>hF b ?_⟩
  ·unfold frs;rw[List.filterMap_cons,hf];exact List.mem_cons_self
  ·unfold frs;rw[List.filterMap_cons,hf];exact List.mem_cons_of_mem _ hb
def Away(X:Cx)(ae:List (Addr×Obj))(H:Hp)(F:List Addr):Prop:=(∀b∈frs X.stack,b∈F)/\
 ∀b∈F,b∉frs X.stack->X.s₀.heap.objs.size<=b/\H b=none/\b≠X.env.locals/\(∀x c,X.env.cells.lookup x=some c->c≠b)/\ ∀p∈X.pn++ae,p.1≠b
section
variable {X:Cx}{ae:List (Addr×Obj)}{σ:St}{H:Hp}{s:Shared}{F:List Addr}{h':Heap}
theorem Away.free(w:Away X ae H F)(I:Inv X ae σ H s){b:Addr}(hb:b∈F):H b=none:=by
 by_cases q:b∈frs X.stack
 ·exact I.stkFree b q
 ·exact(w.2 b hb q).2.1
theorem Inv.flown(I:Inv X ae σ H s)(w:Away X ae H F)(st:(W.hideAll s.heap F).StaysIn h')(up:s.heap.UpToSlots h'):Inv X ae σ H {s with heap:=h'}:=by
 have kp: ∀b o,s.heap.get? b=some o->b∉F->h'.get? b=some o:=λb o e n=>st b o (W.hideAll_get _ e n)
 have fr: ∀b∈frs X.stack,∃o,s.heap.get? b=some o/\ ∀vs,o.data≠ .fields vs:=λb hb=>(I.stack.mem hb).2
 refine I.call' (s':={s with heap:=h'}) (ch:=F.filter λb=>decide (b∉frs X.stack)) rfl ⟨?_,?_,λ_ _ _ n _=>n,?_,λ_ _ q=>q,λ_ _ _ q=>q,λ_ ps q=>⟨#[],by rw[q];simp⟩⟩ ?_ I.bare ?_
 ·intro b o e n hb hc
  refine kp b o e λhF=>hc ?_
  rw[List.mem_filter,decide_eq_true_eq];exact⟨hF,hb⟩
 ·intro b o e n hb hc
  obtain⟨o',e',nf⟩:=fr b hb
  rw[e] at e';cases e';exact up b o e nf
 ·intro b o e hc
  by_cases hF:b∈F
  ·by_cases hs:b∈frs X.stack
   ·obtain⟨o',e',nf⟩:=fr b hs
    obtain⟨sl,q⟩:=up b o' e' nf
    exact⟨_,q⟩
   ·exact absurd (by rw[List.mem_filter,decide_eq_true_eq];exact⟨hF,hs⟩) hc
  ·exact⟨o,kp b o e hF⟩
 ·intro a o e
  refine(I.hok a o e).stay (λb u hb q=>kp b u q λhF=>?_) (λ_ q=>q) λ_ _ q=>q
  have:=w.free I hF
  rcases hb with rfl|hb
  ·rw[e] at this;cases this
  ·rw[hb] at this;cases this
 ·intro b hb
  rw[List.mem_filter,decide_eq_true_eq] at hb;obtain⟨q1,q2,q3,q4,q5⟩:=w.2 b hb.1 hb.2
  exact⟨.inr q1,q3,q4,q5⟩
end
def XS(X:Cx)(ae:List (Addr×Obj))(σ:St)(H:Hp)(o0:Obj)(ea:Addr)(s':Shared):Prop:=
 ∃(g:Heap) (F:List Addr),Inv X ae σ H {s' with heap:=g}/\Away X ae H F/\InFl (W.hideAll g F) X.stack ea o0 s'.heap/\g.UpToSlots s'.heap/\g.get? ea=none
theorem XS.inv {X:Cx}{ae:List (Addr×Obj)}{σ:St}{H:Hp}{o0:Obj}{ea:Addr}{s':Shared}(x:XS X ae σ H o0 ea s'):Inv X ae σ H s':=by
 obtain⟨g,F,I,w,fl,up,_⟩:=x
 exact I.flown (s:={s' with heap:=g}) w fl.st up
def Da(P:Program)(w:World)(G:Addr->Obj->Prop):ph:=λouter H s E e s'=>
 ∃(ea:Addr) (o0:Obj) (C:Addr) (g:Heap) (F:List Addr) (H':Hp),e=.ref ea/\o0.cls=.ref C/\G C o0/\s'.os=s.os/\AllBare s'.gens/\Un (frs outer) [] H H' s.heap g/\HOk P w H' g/\
  InFl (W.hideAll g F) outer ea o0 s'.heap/\g.UpToSlots s'.heap/\(∀b∈frs outer,b∈F)/\(∀b∈F,H' b=none/\(b∉frs outer->s.heap.objs.size<=b))/\g.get? ea=none/\E (.ref C) none H'
theorem yu {X:Cx}{ae:List (Addr×Obj)}{σ:St}{H:Hp}{s s':Shared}{G:Addr->Obj->Prop}{E:XK}{e:Value}(I:Inv X ae σ H s)(h:Da X.prog X.w G X.stack H s E e s'):
 ∃ea o0 C H',e=.ref ea/\o0.cls=.ref C/\G C o0/\XS X ae σ H' o0 ea s'/\E (.ref C) none H':=by
 obtain⟨ea,o0,C,g,F,H',rfl,hc,hG,os,bare,un,hok,fl,up,hF,aw,gn,hE⟩:=h
 have J:Inv X ae σ H' {s' with heap:=g}:=I.call' (s':={s' with heap:=g}) (ch:=[]) os un hok bare λb z=>absurd z (by simp)
 refine⟨ea,o0,C,H',rfl,hc,hG,⟨g,F,J,⟨hF,λb hb nb=>?_⟩,fl,up,gn⟩,hE⟩
 have sz:=(aw b hb).2 nb
 have lt: ∀ {c o},s.heap.get? c=some o->c≠b:=λ{c o} q z=>by subst z;exact absurd (Heap.lt_size q) (Nat.not_lt.mpr sz)
 refine⟨Nat.le_trans I.sz sz,(aw b hb).1,λz=>?_,λx c q=>?_,λp hp=>?_⟩
 ·have:=I.lt
  rw[<-z] at this;exact absurd this (Nat.not_lt.mpr sz)
 ·obtain⟨v,o,ho,_⟩:=I.cell x c q
  exact lt ho
 ·exact lt (I.pin p hp).1
theorem vt {CX:ph}{P:Program}{w:World}{K:W.Frag}{mg:Str->Option Value}{base:Heap}{N:List Str}{qual:Str}{scope:Scope}{f:Addr}{cd:Value}{A:Around}{outer:List Env}{s:Shared}{H:Hp}{E:XK}{G:Addr->Obj->Prop}
 {ae:List (Addr×Obj)} {σ:St} {H':Hp} {o0:Obj} {ea C:Addr} {s':Shared} (x:XS (kJ CX P w K mg base N qual scope f cd A outer s H E) ae σ H' o0 ea s') (hc:o0.cls=.ref C) (hG:G C o0) (hE:E (.ref C) none H') {Q:Unit->Shared->Prop} {E':Value->Shared->Prop}
 (q: ∀s'',Da P w G outer H s E (.ref ea) s''->Q () s''):wpAny (model P w) (A.deeper (envOfC qual scope s.heap.objs.size f cd)) (leaving (envOfC qual scope s.heap.objs.size f cd) (.ref ea)) Q E' s':=by
 obtain⟨g,F,I,aw,fl,up,gn⟩:=x
 refine vT (L:=s.heap.objs.size) I.ok.frames rfl fl λh' fl' up'=>q _ ?_
 have L:(kJ CX P w K mg base N qual scope f cd A outer s H E).stack=envOfC qual scope s.heap.objs.size f cd::outer:=rfl
 have sub: ∀b∈frs outer,b∈frs (envOfC qual scope s.heap.objs.size f cd::outer):=λb hb=>by
  unfold frs;rw[List.filterMap_cons];exact List.mem_cons_of_mem _ hb
 refine⟨ea,o0,C,g,F,H',rfl,hc,hG,I.os,I.bare,I.base,I.hok,fl',up.trans up',λb hb=>aw.1 b (sub b hb),λb hb=>⟨aw.free I hb,λnb=>?_⟩,gn,hE⟩
 by_cases z:b∈frs (envOfC qual scope s.heap.objs.size f cd::outer)
 ·have:b=s.heap.objs.size\/b∈frs outer:=by
   unfold frs at z;rw[List.filterMap_cons] at z;exact List.mem_cons.mp z
  rcases this with rfl|q
  ·exact Nat.le_refl _
  ·exact absurd q nb
 ·exact(aw.2 b hb z).1
structure Ex where
 x:Str
 n:Int
abbrev tx(K:W.Frag)(z:Ex)(C:Addr):Prop:=W.nsIn K mainGlobals z.x=some (some (.ref C))
def G0:Addr->Obj->Prop:=λ_ o0=>o0.dict=none
abbrev CF(P:Program)(w:World):ph:=Da P w G0
def EX(X:Cx)(σ:St):XK:=λv _ H'=> ∀ae ea o0 s',o0.cls=v->o0.dict=none->XS X ae σ H' o0 ea s'->X.xe (.ref ea) s'
abbrev RE:=aC->Option (Except Ex D)
abbrev RA:=aC->Option (Except Ex (List D))
def CP(X:Cx)(c:Ct)(hid:bF)(k:Kd)(f:RE)(ρ:aC):TE:=λσ H Q=>SR X.K c hid ρ σ H/\ ∃r,f ρ=some r/\match r with
 | .ok d=> ∀v H',Same H H'->RK X.K k H H' hid v d->Q v H'
 | .error z=> ∀C H',Same H H'->tx X.K z C->EX X σ (.ref C) none H'
def DR(X:Cx)(c:Ct)(k:Kd)(e:Expr)(f:RE):Prop:= ∀hid ρ,PE X e (CP X c hid k f ρ)
def DU(X:Cx)(c:Ct)(hid:bF)(f:RA)(ρ:aC):TA:=λσ H Q=>SR X.K c hid ρ σ H/\ ∃r,f ρ=some r/\match r with
 | .ok ds=> ∀vs H',Same H H'->Reps X.K (vw H' hid) vs ds->Q vs H'
 | .error z=> ∀C H',Same H H'->tx X.K z C->EX X σ (.ref C) none H'
def Ef(X:Cx)(c:Ct)(es:List Expr)(f:RA):Prop:= ∀hid ρ,PA X es (DU X c hid f ρ)
section
variable {X:Cx}{c:Ct}{e a b:Expr}{es rest:List Expr}{k:Kd}{pos p:Pos}{x:Str}{f:Addr}{fd:FuncData}{ps:List Str}{j n:Nat}
def kC(f:FA):RA:=λρ=>(f ρ).map .ok
theorem DA.rr {f:FA}(h:DA X c es f):Ef X c es (kC f):=λhid ρ=>PA.imp (h hid ρ) λσ H Q hq_=>by
 obtain⟨sr,r,hr,q⟩:=hq_
 unfold kC at hr;cases e1:f ρ with
 |none=>rw[e1] at hr;cases hr
 |some d=>rw[e1] at hr;cases hr;exact⟨sr,d,e1,q⟩
theorem DP.nox {f:FE}(h:DP X.nox c k e f):DP X c k e f:=λhid ρ=>PE.nox (h hid ρ)
def yS(K:W.Frag)(k:Kd)(n:Nat)(P:List D->Option (Except Ex D)):Sp:=λvs H Q E=> ∃hid ds,AZ hid H/\Reps K (vw H hid) vs ds/\ds.length=n/\ ∃r,P ds=some r/\match r with
 | .ok d=> ∀v H',Same H H'->RK K k H H' hid v d->Q v H'
 | .error z=> ∀C H',Same H H'->tx K z C->E (.ref C) none H'
structure ClX(P:Program)(w:World)(K:W.Frag)(mg:Str->Option Value)(base:Heap)(k:Nat)(x:Str)(ps:List Str)(sp:Sp):Prop where
 ex: ∃f fd,FnOk P w K mg base (CF P w) k f fd ps sp/\mg x=some (.ref f)/\W.keepIn K (.ref f)=true/\Binds K fd ps []
theorem yE {sp:Sp}{ae:List (Addr×Obj)}{σ:St}{H:Hp}{s:Shared}{Q:VK}{us:List Value}{vs:List V}(F:FnOk X.prog X.w X.K X.mg X.base (CF X.prog X.w) j f fd ps sp)(hr:Room j X.A)(hb:Binds X.K fd ps [])
 (I:Inv X ae σ H s) (r:Vals vs us) (h:sp vs H Q (EX X σ)):wpAny (model X.prog X.w) X.A (call (.ref f) us) (EP X ae σ Q) X.xe s:=by
 have hl:(us++[]).length=ps.length:=by rw[List.append_nil,<-r.length];exact F.len _ _ _ _ h
 have hb':=hb s us I.kIn hl
 rw[List.append_nil] at hb';refine wpAny_call (codeAny_mono (F.run X.A X.stack s H ⟨us,[]⟩ us vs Q (EX X σ) hr I.env0 hb' r h) λr s' hq=>?_)
 cases r with
 |error e=>
  obtain⟨ea,o0,C,H',rfl,hc,hG,xs,hE⟩:=yu I hq
  exact hE ae ea o0 s' hc hG xs
 |ok fl=>
  cases fl with
  |ret u=>exact I.after hq
  |next=>exact False.elim hq
  |brk=>exact False.elim hq
  |cont=>exact False.elim hq
theorem wm {sp:Sp}{t:TA}(F:FnOk X.prog X.w X.K X.mg X.base (CF X.prog X.w) j f fd ps sp)(hr:Room j X.A)(hg:Gl X x)(hm:X.mg x=some (.ref f))(hk:W.keepIn X.K (.ref f)=true)(hb:Binds X.K fd ps [])
 (ha:PA X (e::es) t) (hdb:(x==("__debug__":Str))=false:=by decide) (he:starEach (e::es) X.env=(false,eval e X.env)::starEach es X.env:=by rfl) (hpl:(backTo pos (starEach es X.env)).any (·.1)=false:=by rfl):
 PE X (.Call (.Name x p) (e::es) [] pos) (λσ H Q=>t σ H λvs H1=>sp vs H1 Q (EX X σ)):=by
 intro ae s σ H Q I h;refine wpAny_Call_Name_kw (jj I hg hm ?_ hdb)
 refine W.callWith_K (h₀:=X.base) I.ok.mod.kin hk (cI (ha pos ae s σ H _ I h) λus s1 ⟨vs,H1,I1,r,q⟩=>⟨I1.kIn,?_⟩) he hpl
 exact yE F hr hb I1 r q
def gY(n:Nat)(P:List D->Option (Except Ex D))(fs:RA):RE:=λρ=>(fs ρ).bind λq=>match q with
 | .error z=>some (.error z)
 | .ok ds=>if ds.length=n then P ds else none
theorem wQ {P:List D->Option (Except Ex D)}{fs:RA}(F:ClX X.prog X.w X.K X.mg X.base j x ps (yS X.K k n P))(hr:Room j X.A)(ha:Ef X c (e::es) fs)
 (hg:Gl X x:=by rfl) (hdb:(x==("__debug__":Str))=false:=by decide) (he:starEach (e::es) X.env=(false,eval e X.env)::starEach es X.env:=by rfl) (hpl:(backTo pos (starEach es X.env)).any (·.1)=false:=by rfl):
 DR X c k (.Call (.Name x p) (e::es) [] pos) (gY n P fs):=λhid ρ=>by
 obtain⟨f,fd,F,hm,hk,hb⟩:=F.ex
 refine PE.imp (wm F hr hg hm hk hb (ha hid ρ) hdb he hpl) λσ H Q hq_=>?_
 obtain⟨sr,r,h,q⟩:=hq_
 unfold gY at h;cases e1:fs ρ with
 |none=>rw[e1] at h;cases h
 |some r1=>
  rw[e1] at h;refine⟨sr,r1,e1,?_⟩
  cases r1 with
  |error z=>cases h;exact q
  |ok ds=>
   have h:(if ds.length=n then P ds else none)=some r:=h
   split at h
   ·intro vs H1 s1 r1
    refine⟨hid,ds,(sr.ext s1).trk,r1, ‹_›,r,h,?_⟩
    cases r with
    |ok d=>exact λv H' s2 r2=>q v H' (s1.trans s2) (RK.left s1 r2)
    |error z=>exact λC H' s2=>q C H' (s1.trans s2)
   ·cases h
def nW(F:D->D->Option D)(f:RE)(g:FE):RE:=λρ=>(f ρ).bind λr=>match r with
 | .error z=>some (.error z)
 | .ok x=>(g ρ).bind λy=>(F x y).map .ok
theorem Dc {r:R2}{F:D->D->Option D}{f:RE}{g:FE}{k1 k2:Kd}{hid:bF}{ρ:aC}(hk1:k1≠ .b)(hF:kL X.K k r F){σ:St}{H:Hp}{Q:VK}(h:CP X c hid k (nW F f g) ρ σ H Q):zP r (CP X c hid k1 f ρ) (wb X.K c hid k2 g ρ) σ H Q:=by
 obtain⟨sr,d,hd,q⟩:=h
 unfold nW at hd;cases e1:f ρ with
 |none=>rw[e1] at hd;cases hd
 |some r1=>
  rw[e1] at hd;refine⟨sr,r1,e1,?_⟩
  cases r1 with
  |error z=>cases hd;exact q
  |ok x=>
   have hd:((g ρ).bind λy=>(F x y).map Except.ok)=some d:=hd
   cases e2:g ρ with
   |none=>rw[e2] at hd;cases hd
   |some y=>
    rw[e2,Option.bind_some] at hd;cases e3:F x y with
    |none=>rw[e3] at hd;cases hd
    |some z=>
     rw[e3] at hd;cases hd;refine λv H1 s1 r1=>⟨sr.ext s1,y,e2,λu H2 s2 r2=>?_⟩
     have b1:=(RK.b k1 r1 λa n=>sr.fresh n).ext s2
     have b2:=RK.b k2 r2 λa n=>(sr.ext s1).fresh n
     exact hF H2 hid v u x y z Q (λa n=>((sr.ext s1).ext s2).fresh n) e3 b1 b2 λw H' s3 r3=>q w H' ((s1.trans s2).trans s3) (RK.left (s1.trans s2) r3)
end
section
variable {X:Cx}{c:Ct}{e:Expr}{k:Kd}{pos p:Pos}{x:Str}
def jJ(F:List D->Option D)(f:RE):RE:=λρ=>(f ρ).bind λr=>match r with
 | .error z=>some (.error z)
 | .ok d=>(F [d]).map .ok
theorem wA {id:String}{r:List V->Hp->VK->Prop}{F:List D->Option D}{f:RE}{k1:Kd}(hc:dH X (.builtin id) r)(hF:iS X.K k r F)(hm:X.mg x=none)(ha:DR X c k1 e f)(hk1:k1≠ .b:=by decide)(hg:Gl X x:=by rfl)(hv:bootBuiltins x=some (.builtin id):=by first|exact PySem.boot_len|rfl|kernel_rfl)(hn:x≠"__name__":=by decide)(hdb:(x==("__debug__":Str))=false:=by decide)
 (he:starEach [e] X.env=(false,eval e X.env)::starEach [] X.env:=by rfl) (hpl:(backTo pos (starEach [] X.env)).any (·.1)=false:=by rfl):DR X c k (.Call (.Name x p) [e] [] pos) (jJ F f):=λhid ρ=>
 PE.imp (gW hc hg hm hv (aV (ha hid ρ) cv he) hn hdb he hpl) λσ H Q hq_=>by
  obtain⟨sr,r,h,q⟩:=hq_
  unfold jJ at h;cases e1:f ρ with
  |none=>rw[e1] at h;cases h
  |some r1=>
   rw[e1] at h;refine⟨sr,r1,e1,?_⟩
   cases r1 with
   |error z=>cases h;exact q
   |ok d=>
    have h:(F [d]).map Except.ok=some r:=h
    cases e2:F [d] with
    |none=>rw[e2] at h;cases h
    |some y=>
     rw[e2] at h;cases h;exact λv H1 s1 r1=>hF H1 hid [v] [d] y Q (λa n=>(sr.ext s1).fresh n) e2 (.cons (RK.b k1 r1 λa n=>sr.fresh n) .nil) λw H' s2 r2=>q w H' (s1.trans s2) (RK.left s1 r2)
end
abbrev OX:=Except (Ex×aC) Out
abbrev FX:=aC->OX
def EndX(X:Cx)(c:Ct)(k:Kd)(D:Ends)(W:Hp):OX->Prop
 | .ok o=>EndOk X.K c k D W o
 | .error z=> ∀σ' H' hid' C,SR X.K c hid' z.2 σ' H'->Same W (vw H' hid')->tx X.K z.1 C->EX X σ' (.ref C) none H'
theorem EndX.mono {X:Cx}{c:Ct}{k:Kd}{D:Ends}{W W':Hp}{o:OX}(h:EndX X c k D W o)(s:Same W W'):EndX X c k D W' o:=by
 cases o with
 |ok o=>exact EndOk.mono h s
 |error z=>exact λσ' H' hid' C a b=>h σ' H' hid' C a (s.trans b)
def Bi(X:Cx)(c:Ct)(k:Kd)(t:FX)(ρ:aC):TS:=λD σ H=> ∃hid,SR X.K c hid ρ σ H/\EndX X c k D (vw H hid) (t ρ)
def Bc(X:Cx)(c:Ct)(k:Kd)(st:Stmt)(t:FX):Prop:= ∀ρ,PS X st (Bi X c k t ρ)
def oD(X:Cx)(c:Ct)(k:Kd)(st:List Stmt)(t:FX):Prop:= ∀ρ,PSs X st (Bi X c k t ρ)
section
variable {X:Cx}{c:Ct}{k:Kd}{st:Stmt}{sts rest:List Stmt}{t u:FX}{e:Expr}{pos pos' p:Pos}{x:Str}{i:Nat}
def yc(t:FS):FX:=λρ=>.ok (t ρ)
theorem nw {t:FS}(h:qR X.nox c k sts t):oD X c k sts (yc t):=λρ=>PSs.nox (h ρ)
def pk(t u:FX):FX:=λρ=>match t ρ with
 | .ok (.nx ρ')=>u ρ'
 | .ok o=>.ok o
 | .error z=>.error z
theorem mF(h:Bc X c k st t):oD X c k [st] t:=λρ=>tw (h ρ)
theorem nG(h1:Bc X c k st t)(h2:oD X c k rest u):oD X c k (st::rest) (pk t u):=λρ=>
 PSs.imp (pq (h1 ρ) (sS λρ1=>h2 ρ1)) λD σ H hq_=>by
  obtain⟨hid,sr,q⟩:=hq_
  refine⟨hid,sr,?_⟩
  unfold pk at q;cases e:t ρ with
  |error z=>rw[e] at q;exact q
  |ok o=>
   rw[e] at q;cases o with
   |nx ρ1=>exact λσ1 H1 hid1 sr1 v1=>⟨ρ1,hid1,sr1,EndX.mono q v1⟩
   |rt d ρ1=>exact q
   |bk ρ1=>exact q
   |ct ρ1=>exact q
   |no=>exact q
def xk(p:FT)(t u:FX):FX:=λρ=>match p ρ with
 |some true=>t ρ
 |some false=>u ρ
 |none=>.ok .no
theorem zA {p:FT}{a b:List Stmt}(hp:DT X c e p)(ha:oD X c k a t)(hb:oD X c k b u):Bc X c k (.If e a b pos) (xk p t u):=λρ=>
 PS.imp (zc (A9 λhid=>hp hid ρ) (ha ρ) (hb ρ)) λD σ H hq_=>by
  obtain⟨hid,sr,q⟩:=hq_
  cases e1:p ρ with
  |none=>unfold xk at q;rw[e1] at q;exact q.elim
  |some x=>
   refine⟨hid,sr,x,e1,λH1 s1=>?_⟩
   unfold xk at q;rw[e1] at q;cases x with
   |true=>exact pH ⟨hid,sr.ext s1,EndX.mono q (aN s1)⟩
   |false=>exact p6 ⟨hid,sr.ext s1,EndX.mono q (aN s1)⟩
theorem vG:oD X c k [] (yc skip):=λρ=>PSs.imp tz λD σ H ⟨hid,sr,q⟩=>q σ H hid sr (Same.refl _)
theorem DT.nox {p:FT}(h:DT X.nox c e p):DT X c e p:=λhid ρ=>PT.nox (h hid ρ)
def pT(f:RE):FX:=λρ=>match f ρ with
 |some (.ok d)=>.ok (.rt d ρ)
 |some (.error z)=>.error (z,ρ)
 |none=>.ok .no
def pL(f:RE):FX:=λρ=>match f ρ with
 |some (.ok d)=>.ok (.nx ρ)
 |some (.error z)=>.error (z,ρ)
 |none=>.ok .no
theorem tD {f:RE}(he:DR X c k e f)(hk:k≠ .b:=by decide):Bc X c k (.Return (some e) pos) (pT f):=λρ=>PS.imp (rJ (mC λhid=>he hid ρ)) λD σ H hq_=>by
 obtain⟨hid,sr,q⟩:=hq_
 unfold pT at q;cases e1:f ρ with
 |none=>rw[e1] at q;exact q.elim
 |some r=>
  rw[e1] at q;refine⟨hid,sr,r,e1,?_⟩
  cases r with
  |ok d=>exact λv H' s r=>q v H' (v9 hk (sr.post s r hk) sr.h0)
  |error z=>exact λC H' s hn=>q σ H' hid C (sr.ext s) (aN s) hn
theorem wO {f:RE}{k1:Kd}(he:DR X c k1 e f)(hk1:k1≠ .b:=by decide)(hs:swapsWith e none pos.line X.env=pure false:=by rfl):Bc X c k (.Expr e pos) (pL f):=λρ=>PS.imp (sO (mC λhid=>he hid ρ) hs) λD σ H hq_=>by
 obtain⟨hid,sr,q⟩:=hq_
 unfold pL at q;cases e1:f ρ with
 |none=>rw[e1] at q;exact q.elim
 |some r=>
  rw[e1] at q;refine⟨hid,sr,r,e1,?_⟩
  cases r with
  |ok d=>exact λv H' s' r=>q _ H' hid (sr.ext s') (aN s')
  |error z=>exact λC H' s hn=>q σ H' hid C (sr.ext s) (aN s) hn
end
theorem xZ {K:W.Frag}{h:Heap}{C:Addr}{bmB:List Value}{newId:String}(KI:K.In h)(q:W.excIn K C bmB newId=true): ∃bm N nm qn bs hdct sn sub ab col dd k0 k1 k2 k3 k5 mN,
 h.get? C=some (excClassObj nm qn C N bs bm hdct sn sub ab col dd k0 k1 k2 k3 k5 newId)/\h.Ns N mN/\mN "__init__"=none/\OwnTail h bmB bm:=by
 unfold W.excIn at q;split at q
 ·rename_i dd cd sl ho
  split at q
  ·rename_i C' bm k0 k1 k2 k3 n k5 hm hs
   simp only[Bool.and_eq_true,beq_iff_eq,Bool.not_eq_true'] at q;obtain⟨⟨⟨⟨⟨rfl,rfl⟩,md⟩,ht⟩,hok⟩,hni⟩:=q
   obtain⟨nm,bs,mro,ns,qn,hd,sn,sub,ab,col,del⟩:=cd
   dsimp only at hm md hok hni;subst hm md;obtain⟨l⟩:=sl
   simp only at hs;subst hs;exact⟨bm,ns,nm,qn,bs,hd,sn,sub,ab,col,dd,k0,k1,k2,k3,k5,_,KI _ _ ho,.of_isNs (W.isNs_of_in KI hok),W.nsMap_none_of_in KI hok hni,W.tail_of_in KI ht⟩
  ·cases q
 ·cases q
section
variable {X:Cx}{c:Ct}{k:Kd}{e:Expr}{es:List Expr}{pos np cpos:Pos}{x:Str}{C:Addr}
theorem xI {ae:List (Addr×Obj)}{σ:St}{H:Hp}{s:Shared}{h':Heap}{ea:Addr}{vs:List Value}(I:Inv X ae σ H s)(m:Heap.MadeExcOf s.heap h' ea (.ref C) vs):
 XS X ae σ H {cls:=.ref C,data:=.plain} ea {s with heap:=h'}:=by
 obtain⟨t,he,htn,ht⟩:=m.there
 refine⟨s.heap,frs X.stack,I,⟨λ_ q=>q,λb hb nb=>absurd hb nb⟩,⟨λb o q=>m.keeps b o (W.of_hideAll _ q),?_,tS (I.stack.of_keeps λb o q _=>⟨o,m.keeps b o q,rfl⟩) λ_ q=>q,.inr ⟨_,he,rfl⟩⟩,.of_keeps m.keeps,m.new⟩
 cases q:(W.hideAll s.heap (frs X.stack)).get? ea with
 |none=>rfl
 |some o=>have:=W.of_hideAll _ q;rw[m.new] at this;cases this
def zI(z:Ex)(fs:FA):FX:=λρ=>match fs ρ with
 |some ds=>if ds.length<=20 then .error (z,ρ) else .ok .no
 |none=>.ok .no
theorem ux {n:Int}{fs:FA}(hm:X.mg x=some (.ref C))(hN:W.nsIn X.K mainGlobals x=some (some (.ref C)))(ho:W.excIn X.K C pp "ValueError.__new__"=true)(hd:X.A.handled=none)(ha:DA X c (e::es) fs)(hg:Gl X x:=by rfl)(hdb:(x==("__debug__":Str))=false:=by decide)
 (he:starEach (e::es) X.env=(false,eval e X.env)::starEach es X.env:=by rfl) (hpl:(backTo cpos (starEach es X.env)).any (·.1)=false:=by rfl):
 Bc X c k (.Raise (some (.Call (.Name x np) (e::es) [] cpos)) none pos) (zI ⟨x,n⟩ fs):=λρ ae s σ H D I hq_=>by
 obtain⟨hid,sr,q⟩:=hq_
 unfold zI at q;cases e1:fs ρ with
 |none=>rw[e1] at q;exact q.elim
 |some ds=>
  rw[e1] at q;dsimp only at q
  by_cases hl:ds.length<=20
  ·rw[if_pos hl] at q
   obtain⟨bm,N,nm,qn,bs,hdct,sn,sub,ab,col,dd,k0,k1,k2,k3,k5,mN,hC,hNs,hni,T⟩:=xZ I.mod.kin ho
   refine wpAny_Raise_call_subT (C:=C) (nm:=nm) (q:=qn) (N:=N) (bs:=bs) (bm:=bm) (hdct:=hdct) (sn:=sn) (sub:=sub) (ab:=ab) (col:=col) (dd:=dd) (k0:=k0) (k1:=k1) (k2:=k2) (k3:=k3) (k5:=k5)
    F.excBase_ValueError (mN:=mN) (T.hasType F.excBase_ValueError.hasBase) hd (by rw[he];show(false||(backTo cpos (starEach es X.env)).any (·.1))=false;rw[hpl];rfl) hni (jj I hg hm ⟨rfl,?_⟩ hdb)
   have P:=ha hid ρ cpos ae s σ H (λvs H'=>Same H H'/\Reps X.K (vw H' hid) vs ds) I ⟨sr,ds,e1,λvs H' a b=>⟨a,b⟩⟩
   rw[he] at P⊢;refine Calls.evalArgs_plain (wpAny_mono P (λus s1 ⟨vs,H1,I1,r,sm,rp⟩=>⟨rfl,?_,I1.bk _ _ hC,hNs.keeps I1.bk,T.keeps I1.bk,λh' ea m=>?_⟩) λ_ _ y=>y)
   ·show us.length<=sizeLine
    rw[<-r.length,rp.length];exact Nat.le_trans hl (by decide)
   ·exact q σ H1 hid C (sr.ext sm) (aN sm) hN ae ea _ _ rfl rfl (xI I1 m)
  ·rw[if_neg hl] at q;exact q.elim
end
structure RoomU(k:Nat)(A:Around):Prop where
 dp:A.depth+3*k+5<recursionLimit
 un:A.units+16*k+200<cLine
theorem Room.u {k:Nat}{A:Around}(r:Room k A):RoomU k A:=⟨r.dp,r.un⟩
theorem RoomU.mono {j k:Nat}{A:Around}(r:RoomU k A)(h:j<=k):RoomU j A:=⟨by have:=r.dp;omega,by have:=r.un;omega⟩
theorem RoomU.mark {k:Nat}{A:Around}(r:RoomU k A)(v:Option Value):RoomU k (A.mark v):=⟨r.dp,r.un⟩
theorem RoomU.deeper {k:Nat}{A:Around}(r:RoomU (k+1) A)(env:Env):RoomU k (A.deeper env):=
 ⟨by have:=r.dp;show A.depth+1+3*k+5<_;omega,by have:=r.un;show A.units+3+16*k+200<_;omega⟩
theorem RoomU.depth {k:Nat}{A:Around}(r:RoomU k A):A.depth<recursionLimit:=by have:=r.dp;omega
theorem RoomU.units {k:Nat}{A:Around}(r:RoomU k A):A.units+64<cLine:=by have:=r.un;omega
structure FnOkU(P:Program)(w:World)(K:W.Frag)(mg:Str->Option Value)(base:Heap)(CX:ph)(k:Nat)(f:Addr)(fd:FuncData)(ps:List Str)(sp:Sp):Prop where
 len: ∀vs H Q E,sp vs H Q E->vs.length=ps.length
 run: ∀(A:Around) (outer:List Env) (s:Shared) (H:Hp) (args:Args) (us:List Value) (vs:List V) (Q:VK) (E:XK),RoomU k A->Env0 P w K mg base A outer s H->BindsTo s fd args (ps.zip us)->Vals vs us->sp vs H Q E->
  codeAny (model P w) A (.call (.ref f) args) (CR CX outer P w H s Q E) s
def Bh(CX:ph)(P:Program)(w:World)(K:W.Frag)(mg:Str->Option Value)(base:Heap)(N:List Str)(qual:Str)(scope:Scope)(f:Addr)(cd:Value)(A:Around)(outer:List Env)(s:Shared)(H:Hp)(E:XK):Cx where
 prog:=P
 w:=w
 K:=K
 mg:=mg
 base:=base
 A:=A.deeper (envOfC qual scope s.heap.objs.size f cd)
 N:=N
 s₀:=s
 H₀:=H
 env:=envOfC qual scope s.heap.objs.size f cd
 outer:=outer
 stack:=envOfC qual scope s.heap.objs.size f cd::outer
 ex:=[]
 calm:=false
 fn:=λ_=>true
 pn:=[]
 xe:=λe s'=>wpAny (model P w) (A.deeper (envOfC qual scope s.heap.objs.size f cd)) (leaving (envOfC qual scope s.heap.objs.size f cd) e) (λ_ s''=>CX outer H s E e s'') (λe' s''=>CX outer H s E e' s'') s'
theorem ss {CX:ph}{P:Program}{w:World}{K:W.Frag}{mg:Str->Option Value}{base:Heap}{N ps:List Str}{qual:Str}{scope:Scope}{f:Addr}{cd:Value}{A:Around}{outer:List Env}{s s1:Shared}{H:Hp}{E:XK}{us:List Value}{vs:List V}
 (S:FnScope N ps scope) (e0:Env0 P w K mg base A outer s H) (hl:vs.length=ps.length) (r:Vals vs us)
 (x:InCallC s s.heap.objs.size (bindL (envOfC qual scope s.heap.objs.size f cd).kindOf (ps.zip us) λ_=>none) (cellsFrom (s.heap.objs.size+1) scope.names []) (bindC (envOfC qual scope s.heap.objs.size f cd).kindOf (ps.zip us) λ_=>none) s1):
 Inv (Bh CX P w K mg base N qual scope f cd A outer s H E) [] (start N vs) H s1:=by
 have hpl:ps.length<=N.length:=by have:=congrArg List.length S.pre;rw[List.length_take] at this;omega
 obtain⟨h1,tk,rfl,hk⟩:=x.done
 have noA: ∀b:Addr,b∉(Bh CX P w K mg base N qual scope f cd A outer s H E).ex:=λb z=>absurd (show b∈([]:List Addr) from z) (by simp)
 refine⟨⟨e0.mod,S.kind,rfl,rfl,Nat.le_refl _,λy z c h1 h2=>?_,λy hy=>?_,λy c _ h=>?_,(λq=>nomatch q),Around.frames_deeper e0.frames,.inr ⟨rfl,rfl⟩,λb z=>absurd z (noA b),e0.bs,e0.bsz,λb _ _=>noA b,λb z=>absurd z (noA b),e0.funs,e0.frf⟩,
  rfl,e0.bare,Un.kept hk,⟨_,x.toInCall.ns,λi y v h1 h2 h3=>?_⟩,λy c h=>⟨_,x.cell y c h⟩,e0.hok.fresh (Nat.le_refl _),λy c h=>?_,λp hp=>absurd (show p∈([]:List (Addr×Obj)) from hp) (by simp),e0.hok.kept hk,?_⟩
 ·exact name_of_addr x.apart (PySem.mem_of_lookup h1) (PySem.mem_of_lookup h2)
 ·have hy:scope.names.lookup y=some .cell\/scope.names.lookup y=some .free:=hy
  rcases hy with hy|hy
  ·exact j0 hy
  ·exact absurd rfl (S.nofree _ (PySem.mem_of_lookup hy))
 ·exact Nat.le_of_lt (x.above y c (PySem.mem_of_lookup h))
 ·have hi:i<vs.length:=by
   unfold start at h2
   by_cases hi:i<vs.length
   ·exact hi
   ·rw[List.getElem?_append_right (by simpa using hi)] at h2
    rw[List.getElem?_replicate] at h2;split at h2<;>cases h2
  have ha:vs[i]? =some v:=by
   unfold start at h2;rw[List.getElem?_append_left (by simpa using hi),List.getElem?_map] at h2
   cases e:vs[i]? with
   |none=>rw[e] at h2;cases h2
   |some a=>rw[e] at h2;cases h2;rfl
  obtain⟨u,hu,rv⟩:=r.get ha
  have hp:ps[i]? =some y:=by
   rw[<-S.pre,List.getElem?_take_of_lt (by omega)];exact h1
  have ndP:ps.Nodup:=by rw[<-S.pre];exact S.nd.sublist (List.take_sublist _ _)
  refine⟨u,rv,?_⟩
  rcases S.par y (List.mem_of_getElem? hp) with k|k
  ·exact .inl ⟨k,kv ndP hp hu k⟩
  ·obtain⟨c,e⟩:=j0 (n:=s.heap.objs.size+1) k
   refine .inr ⟨.inl k,c,e,?_⟩
   have q:=x.cell y c e
   rw[kF ndP hp hu (by show scope.names.lookup y≠_;rw[k];decide)] at q
   exact q
 ·exact e0.hok.fresh (Nat.le_of_lt (x.above y c (PySem.mem_of_lookup h)))
 ·unfold start
  show _=N.length;rw[List.length_append,List.length_map,List.length_replicate];omega
theorem Az {CX:ph}{P:Program}{w:World}{K:W.Frag}{mg:Str->Option Value}{base:Heap}{k:Nat}{f:Addr}{name qual:Str}{params:Arguments}{body:List Stmt}{scope:Scope}{dV kV doc pm cdv ct oc:Value}{an od:Option Addr}
 {osl:Array (Option Value)} {N ps:List Str} {sp:Sp} (lk:K.lookup f=some ⟨oc,od,.func (W.fnOf name qual params body scope dV kV doc pm an cdv ct),osl⟩) (hcd:W.codeIn K cdv qual=true) (S:FnScope N ps scope)
 (len: ∀vs H Q E,sp vs H Q E->vs.length=ps.length)
 (hbody: ∀(A:Around) (outer:List Env) (s:Shared) (H:Hp) (vs:List V) (Q:VK) (E:XK),RoomU k (A.deeper (envOfC qual scope s.heap.objs.size f cdv))->sp vs H Q E->
   ∃t,PSs (Bh CX P w K mg base N qual scope f cdv A outer s H E) body t/\t {nx:=λ_ H'=>Q .non H',rt:=Q} (start N vs) H):
 FnOkU P w K mg base CX (k+1) f (W.fnOf name qual params body scope dV kV doc pm an cdv ct) ps sp:=by
 refine⟨len,λA outer s H args us vs Q E hr e0 hb r hsp=>?_⟩
 have hl:=len _ _ _ _ hsp
 have KX:K.In s.heap:=e0.mod.kin.keeps λb o e=>(e0.bs b o e).1
 have lim:s.heap.NoLimit:=e0.mod.nolimit.keeps λb o e=>(e0.bs b o e).1
 have hkind: ∀y∈ps.zip us,scope.names.lookup y.1=some .local\/(scope.names.lookup y.1=some .cell/\((cellsFrom (s.heap.objs.size+1) scope.names []).lookup y.1).isSome=true):=λ⟨n,v⟩ hy=>by
  rcases S.par n (List.of_mem_zip hy).1 with q|q
  ·exact .inl q
  ·exact .inr ⟨q,W.cellsFrom_some _ _ _ (.inl q)⟩
 refine codeAny_call_function hr.depth (KX _ _ lk) rfl S.co S.gen rfl (W.codeRec_of KX hcd) (hb _ _ _ _ ?_)
 refine wpAny_newFunctionEnv_cells S.kind hkind λenv he s1 x=>?_
 subst he;refine⟨lim.keeps x.toInCall.keep,codeAny_func ?_⟩
 obtain⟨t,ht,hq⟩:=hbody A outer s H vs Q E (hr.deeper _) hsp
 have I:Inv (Bh CX P w K mg base N qual scope f cdv A outer s H E) [] (start N vs) H s1:=ss S e0 hl r x
 refine wpAny_mono (ht [] s1 (start N vs) H _ I hq) (λfl s' hs=>?_) λe s' hs=>hs
 have fin: ∀ {σ':St} {H':Hp} {v:V} {u:Value},Inv (Bh CX P w K mg base N qual scope f cdv A outer s H E) [] σ' H' s'->RelV v u->Q v H'->CE outer P w H s Q u s':=
  λ{σ' H' v u} J rv q=>⟨v,H',J.os,J.bare,J.base,J.hok,rv,q⟩
 cases fl with
 |ret u=>
  obtain⟨v,σ',H',J,rv,q⟩:=hs
  exact fin J rv q
 |next=>
  obtain⟨σ',H',J,q⟩:=hs
  exact fin (v:=V.non) (u:=Value.none) J rfl q
 |brk=>
  obtain⟨_,_,_,q⟩:=hs
  exact False.elim q
 |cont=>
  obtain⟨_,_,_,q⟩:=hs
  exact False.elim q
def xh(kd:Kd)(n:Nat)(t:FX)(ds:List D):Option (Except Ex D):=match t (cY n ds) with
 | .ok (.rt d _)=>some (.ok d)
 | .ok (.nx _)=>(match kd with
   | .n=>none
   |_=>some (.ok .non))
 | .ok _=>none
 | .error z=>some (.error z.1)
section
variable {P:Program}{w:World}{K:W.Frag}{mg:Str->Option Value}{base:Heap}{x:Str}{st:Stmt}{N ps:List Str}{k n:Nat}{kd:Kd}
theorem mQ {t:FX}(F:Df K mg x st ps)(S:FnScope N ps (aj st))(hkd:kd≠ .b)(hn:ps.length=n)
 (body: ∀(f:Addr) (cdv:Value) (A:Around) (outer:List Env) (s:Shared) (H:Hp) (hid:bF) (E:XK),Room k (A.deeper (envOfC x (aj st) s.heap.objs.size f cdv))->
   oD (kJ (CF P w) P w K mg base N x (aj st) f cdv A outer s H E) ⟨H,hid,λ_=>false⟩ kd (aD st) t):
 ClX P w K mg base (k+1) x ps (yS K kd n (xh kd N.length t)):=by
 obtain⟨f,fd,F,hm,hb⟩:=F.ex
 subst hn;refine⟨f,fd,?_,hm,F.kp,hb⟩
 obtain⟨oc,od,kV,doc,pm,an,cdv,ct,osl,rfl,lk,hcd⟩:=F.ex
 refine yN lk hcd S (λvs H Q E h=>?_) λA outer s H vs Q E hr h=>?_
 ·obtain⟨hid,ds,_,r,hl,_⟩:=h
  rw[r.length,hl]
 ·obtain⟨hid,ds,tr,r,hl,r0,hP,q⟩:=h
  refine⟨_,body f cdv A outer s H hid E hr (cY N.length ds),hid,SR.begins tr r,?_⟩
  unfold xh at hP;cases e:t (cY N.length ds) with
  |error z=>
   rw[e] at hP;cases hP
   intro σ' H' hid' C sr _ hn ae ea o0 s' hc hd xs;have sm:Same H H':=λb o z=>sr.kp b o z rfl
   exact vt xs hc hd (q C H' sm hn) λs'' h=>h
  |ok o=>
   rw[e] at hP;cases o with
   |nx ρ=>
    intro σ' H' hid' sr _;have sm:Same H H':=λb o z=>sr.kp b o z rfl
    cases kd with
    |b=>exact absurd rfl hkd
    |s=>cases hP;exact q _ H' sm .non
    |n=>cases hP
   |rt d' ρ=>
    cases hP
    intro v H' R;have sm:Same H H':=λb o z=>R.kp b o z rfl
    cases kd with
    |b=>exact absurd rfl hkd
    |s=>exact q v H' sm R.val
    |n=>exact q v H' sm R.val
   |bk ρ=>cases hP
   |ct ρ=>cases hP
   |no=>cases hP
def Co(K:W.Frag)(k:Kd)(M:Ex->Option D):Sp:=λvs H Q _=> ∃hid a z,vs=[.ref a]/\AZ hid H/\(∃φ,vw H hid a=some (.ext φ)/\ ∀h,φ h->ExcAt K z.x z.n a h)/\ ∃d,M z=some d/\ ∀v H',Same H H'->RK K k H H' hid v d->Q v H'
structure ClU(P:Program)(w:World)(K:W.Frag)(mg:Str->Option Value)(base:Heap)(k:Nat)(x:Str)(ps:List Str)(sp:Sp):Prop where
 ex: ∃f fd,FnOkU P w K mg base nM k f fd ps sp/\mg x=some (.ref f)/\W.keepIn K (.ref f)=true/\Binds K fd ps []
def qS(n:Nat)(z:Ex):aC:=.ob (.exc z.x z.n)::List.replicate (n-1) .no
def DQ(n:Nat)(t:FS)(z:Ex):Option D:=match t (qS n z) with
 | .rt d _=>some d
 |_=>none
theorem yz {t:FS}{y:Str}(F:Df K mg x st [y])(S:FnScope N [y] (aj st))
 (body: ∀(f:Addr) (cdv:Value) (A:Around) (outer:List Env) (s:Shared) (H:Hp) (hid:bF) (E:XK),RoomU k (A.deeper (envOfC x (aj st) s.heap.objs.size f cdv))->
   qR (Bh nM P w K mg base N x (aj st) f cdv A outer s H E).nox ⟨H,hid,λ_=>false⟩ .s (aD st) t):
 ClU P w K mg base (k+1) x [y] (Co K .s (DQ N.length t)):=by
 obtain⟨f,fd,F,hm,hb⟩:=F.ex
 refine⟨f,fd,?_,hm,F.kp,hb⟩
 obtain⟨oc,od,kV,doc,pm,an,cdv,ct,osl,rfl,lk,hcd⟩:=F.ex
 refine Az lk hcd S (λvs H Q E h=>?_) λA outer s H vs Q E hr h=>?_
 ·obtain⟨hid,a,z,rfl,_⟩:=h
  rfl
 ·obtain⟨hid,a,z,rfl,tr,hx,d,hM,q⟩:=h
  have hN:0<N.length:=by have:=congrArg List.length S.pre;rw[List.length_take] at this;simp at this;omega
  refine⟨_,PSs.nox (body f cdv A outer s H hid E hr (qS N.length z)),hid,⟨tr.1,tr.2,λ_ h=>h,λ_ _ h _=>h,λb o h=>⟨o,h⟩,tr.1,(λ_ h=>nomatch h),?_,λi s e=>?_,λi j b ne o1 o2 _ _=>?_⟩,?_⟩
  ·unfold start qS;simp
  ·cases i with
   |zero=>
    unfold qS at e;simp at e;subst e;exact⟨a,rfl,hx⟩
   |succ i=>
    unfold qS at e;rw[List.getElem?_cons_succ,List.getElem?_replicate] at e;split at e
    ·cases e;trivial
    ·cases e
  ·cases i with
   |zero=>exact o1.elim
   |succ i=>
    unfold qS at o1;rw[List.getElem?_cons_succ,List.getElem?_replicate] at o1;split at o1<;>exact o1.elim
  ·unfold DQ at hM
   cases e:t (qS N.length z) with
   |rt d' ρ=>
    rw[e] at hM;cases hM;exact λv H' R=>q v H' (λb o z=>R.kp b o z rfl) R.val
   |nx ρ=>rw[e] at hM;cases hM
   |bk ρ=>rw[e] at hM;cases hM
   |ct ρ=>rw[e] at hM;cases hM
   |no=>rw[e] at hM;cases hM
end
section
variable {X:Cx}{c:Ct}{k:Kd}{e:Expr}{pos p py:Pos}{x y:Str}{ps:List Str}{j i:Nat}
def Ag(i:Nat)(M:Ex->Option D):FE:=λρ=>match ρ[i]? with
 |some (.ob (.exc x n))=>M ⟨x,n⟩
 |_=>none
theorem zp(i:Nat){M:Ex->Option D}(C:ClU X.prog X.w X.K X.mg X.base j x ps (Co X.K k M))(hr:RoomU j X.A)(hN:X.N[i]? =some y:=by rfl)(hv:rf X.env.scope y:=by first|exact Or.inl rfl|exact Or.inr (Or.inl rfl)|exact Or.inr (Or.inr rfl))(hd:(y==("__debug__":Str))=false:=by decide)
 (hcd:(y==("__classdict__":Str))=false:=by decide) (hs:starEach [.Name y py] X.env=(false,eval (.Name y py) X.env)::starEach [] X.env:=by rfl) (hg:Gl X x:=by rfl) (hdb:(x==("__debug__":Str))=false:=by decide) (hpl:(backTo pos (starEach [] X.env)).any (·.1)=false:=by rfl):
 DP X c k (.Call (.Name x p) [.Name y py] [] pos) (Ag i M):=λhid ρ ae s σ H Q I hq_=>by
 obtain⟨sr,d,hd',q⟩:=hq_
 obtain⟨f,fd,F,hm,hk,hb⟩:=C.ex
 unfold Ag at hd';split at hd'
 ·rename_i x' n' e'
  obtain⟨a,z1,z2⟩:=sr.sl i _ e'
  refine wpAny_Call_Name_kw (jj I hg hm ?_ hdb)
  refine W.callWith_K (h₀:=X.base) I.ok.mod.kin hk (cI (aV (pv i hN hv hd hcd) cv hs pos ae s σ H (λvs H'=>vs=[.ref a]/\H'=H) I ⟨.ref a,z1,rfl,rfl⟩) λus s1 ⟨vs,H1,I1,r,ev,eH⟩=>⟨I1.kIn,?_⟩) hs hpl
  subst ev eH;have hsp:Co X.K k M [.ref a] H1 Q E0:=⟨hid,a,⟨x',n'⟩,rfl,sr.trk,z2,d,hd',q⟩
  have hl:(us++[]).length=ps.length:=by rw[List.append_nil,<-r.length];exact F.len _ _ _ _ hsp
  have hb':=hb s1 us I1.kIn hl
  rw[List.append_nil] at hb';refine wpAny_call (codeAny_mono (F.run X.A X.stack s1 H1 ⟨us,[]⟩ us [.ref a] Q E0 hr I1.env0 hb' r hsp) λr s' hq=>?_)
  cases r with
  |error e=>exact hq.elim
  |ok fl=>
   cases fl with
   |ret u=>exact I1.after hq
   |next=>exact False.elim hq
   |brk=>exact False.elim hq
   |cont=>exact False.elim hq
 ·cases hd'
end
def mv(x y:Str):Bool:=x==y||y==("RookError":Str)
structure ExRow(K:W.Frag)(mg:Str->Option Value)(CR:Addr)(x:Str)(C:Addr):Prop where
 mg:mg x=some (.ref C)
 ns:W.nsIn K mainGlobals x=some (some (.ref C))
 cc:ExcC K C
 ty:W.typeIn K (.ref C)=some (.type "type")
 mr: ∃cd,W.clsIn K C=some cd/\cd.mro=(if C=CR then .ref CR::pp else .ref C:: .ref CR::pp)
structure ExTab(K:W.Frag)(mg:Str->Option Value)(CR:Addr)(tbl:List (Str×Addr)):Prop where
 row: ∀p∈tbl,ExRow K mg CR p.1 p.2
 root:(("RookError":Str),CR)∈tbl
 nd:(tbl.map (·.2)).Nodup
section
variable {K:W.Frag}{mg:Str->Option Value}{CR:Addr}{tbl:List (Str×Addr)}
theorem jm: ∀ {l:List (Str×Addr)},(l.map (·.2)).Nodup-> ∀ {p q:Str×Addr},p∈l->q∈l->p.2=q.2->p=q
 | [],_,_,_,h,_,_=>nomatch h
 |a::l,nd,p,q,hp,hq,e=>by
  rw[List.map_cons,List.nodup_cons] at nd;rcases List.mem_cons.mp hp with ep|ep
  ·rcases List.mem_cons.mp hq with eq|eq
   ·rw[ep,eq]
   ·exact absurd (List.mem_map.mpr ⟨q,eq,by rw[<-e,ep]⟩) nd.1
  ·rcases List.mem_cons.mp hq with eq|eq
   ·exact absurd (List.mem_map.mpr ⟨p,ep,by rw[e,eq]⟩) nd.1
   ·exact jm nd.2 ep eq e
theorem ExTab.addr(T:ExTab K mg CR tbl){p q:Str×Addr}(hp:p∈tbl)(hq:q∈tbl)(e:p.1=q.1):p.2=q.2:=by
 have h1:=(T.row p hp).ns
 have h2:=(T.row q hq).ns
 rw[e,h2] at h1;injection h1 with h1
 injection h1 with h1
 exact(Value.ref.inj h1).symm
theorem ExTab.mro(T:ExTab K mg CR tbl){p q:Str×Addr}(hp:p∈tbl)(hq:q∈tbl):W.mroIn K p.2 (.ref q.2)=some (mv p.1 q.1):=by
 obtain⟨cd,h1,h2⟩:=(T.row p hp).mr
 unfold W.mroIn;rw[h1,Option.bind_some,h2];have hr:q.2=CR↔q.1=("RookError":Str):=⟨λe=>by rw[jm T.nd hq T.root e],λe=>T.addr hq T.root e⟩
 have hs:p.2=q.2↔p.1=q.1:=⟨λe=>by rw[jm T.nd hp hq e],T.addr hp hq⟩
 have ev:mv p.1 q.1=(decide (p.2=q.2)||decide (q.2=CR)):=by
  unfold mv;congr 1
  ·rw[Bool.eq_iff_iff,beq_iff_eq,decide_eq_true_eq];exact hs.symm
  ·rw[Bool.eq_iff_iff,beq_iff_eq,decide_eq_true_eq];exact hr.symm
 rw[ev]
 by_cases e:p.2=CR
 ·rw[if_pos e,if_neg (by simp)]
  congr 1
  rw[e,Bool.eq_iff_iff,List.contains_iff_mem,Bool.or_eq_true,decide_eq_true_eq,decide_eq_true_eq,List.mem_cons];exact⟨λh=>h.elim (λh=>.inl (Value.ref.inj h).symm) λh=>by simp[pp] at h,λh=>.inl (h.elim (λh=>by rw[h]) λh=>by rw[h])⟩
 ·rw[if_neg e,if_neg (by simp)]
  congr 1
  rw[Bool.eq_iff_iff,List.contains_iff_mem,Bool.or_eq_true,decide_eq_true_eq,decide_eq_true_eq,List.mem_cons,List.mem_cons];exact⟨λh=>h.elim (λh=>.inl (Value.ref.inj h).symm) λh=>h.elim (λh=>.inr (Value.ref.inj h)) λh=>by simp[pp] at h,λh=>h.elim (λh=>.inl (by rw[h])) λh=>.inr (.inl (by rw[h]))⟩
theorem ExTab.one(T:ExTab K mg CR tbl){p q:Str×Addr}(hp:p∈tbl)(hq:q∈tbl):W.kitOne K (.ref p.2) (.ref q.2)=some (mv p.1 q.1):=by
 unfold W.kitOne
 by_cases e:(Value.ref p.2==Value.ref q.2)=true
 ·rw[if_pos e]
  have e':p.2=q.2:=Value.ref.inj (beq_iff_eq.mp e)
  rw[jm T.nd hp hq e'];unfold mv;simp
 ·rw[if_neg e]
  unfold W.kitCls;obtain⟨cd,h1,_⟩:=(T.row q hq).mr
  dsimp only;rw[h1,(T.row q hq).ty,if_pos (by simp)]
  exact T.mro hp hq
theorem mR:W.kitMeta "ValueError"=true:=by kernel_rfl
theorem ExTab.val(T:ExTab K mg CR tbl){p:Str×Addr}(hp:p∈tbl):W.kitOne K (.ref p.2) (.type "ValueError")=some true:=by
 obtain⟨cd,h1,h2⟩:=(T.row p hp).mr
 unfold W.kitOne;rw[if_neg (by simp)]
 unfold W.kitCls;dsimp only;rw[if_pos mR];show W.mroIn K p.2 (.type "ValueError")=_;unfold W.mroIn;rw[h1,Option.bind_some,h2]
 by_cases e:p.2=CR
 ·rw[if_pos e,if_neg (by simp)];rfl
 ·rw[if_neg e,if_neg (by simp)];rfl
end
theorem ExcAt.inst {K:W.Frag}{x:Str}{n:Int}{a C:Addr}{h:Heap}(e:ExcAt K x n a h)(ns:W.nsIn K mainGlobals x=some (some (.ref C))): ∃o,W.InstAt h a o C none:=by
 obtain⟨C',o,h1,h2,h3,h4,h5⟩:=e
 rw[ns] at h1;cases h1
 exact⟨o,h2,h3,h5,by rw[h4];trivial⟩
section
variable {X:Cx}{c:Ct}{k:Kd}{e:Expr}{pos p p1 p2 p3 py:Pos}{x y z:Str}{i:Nat}{CR C:Addr}{tbl:List (Str×Addr)}
def Dv(K:W.Frag):List V->Hp->VK->Prop:=λxs H Q=> ∃a v C b,xs=[.ref a,v]/\(∃φ,H a=some (.ext φ)/\ ∀h,φ h-> ∃o,W.InstAt h a o C none)/\ExcC K C/\
 ((∃D,v=.ref D/\W.kitOne K (.ref C) (.ref D)=some b)\/(∃T,v=.ty T/\W.kitOne K (.ref C) (.type T)=some b)\/ ∃(t:Addr) (ds:List Addr),v=.ref t/\H t=some (.tup (ds.map V.ref))/\W.kitAny K (.ref C) (ds.map Value.ref)=some b)/\Q (.bl b) H
theorem nh: ∀ {ds:List Addr} {us:List Value},Vals (ds.map V.ref) us->us=ds.map Value.ref
 | [],_,.nil=>rfl
 |_::_,_,.cons r t=>by cases r;rw[nh t];rfl
theorem ql:dH X (.builtin "isinstance") (Dv X.K):=by
 intro ae s σ H xs us Q I r h;obtain⟨a,v,C,b,rfl,⟨φ,h1,h2⟩,ec,hv,q⟩:=h
 obtain⟨p1,_,_⟩:=I.hok a _ h1
 have inst:=h2 _ p1
 cases r with
 |cons r0 r1=>
  cases r1 with
  |cons r1 r2=>
   cases r2
   cases r0
   have fin: ∀tk,EP X ae σ Q (.bool b) {s with toks:=tk}:=λtk=>⟨.bl b,H,I.tok tk,rfl,q⟩
   have nb:(Value.ref a)≠ .builtin "__main__.__loader__#opaque":=λz=>by cases z
   rcases hv with⟨D,rfl,e⟩|⟨T,rfl,e⟩|⟨t,ds,rfl,ht,e⟩
   ·cases r1
    exact W.kia_one (oE ec) I.kIn inst e nb fin
   ·cases r1
    exact W.kia_one (oE ec) I.kIn inst e nb fin
   ·cases r1
    obtain⟨_,its,rv,⟨o,g1,g2,n,g3⟩,_⟩:=I.hok t _ ht
    have ei:=nh rv
    subst ei;obtain⟨oc,od,dt,sl⟩:=o
    dsimp only at g2 g3;subst g2 g3;exact W.kia_tup (oE ec) I.kIn inst g1 e nb fin
def lC(i:Nat)(ns ys:List Str):FE:=Ag i λz=>if ns.contains z.x=true/\ys.all (λy=>ns.contains y)=true then some (.bl (ys.any λy=>mv z.x y)) else none
def Au(i:Nat)(ns:List Str):FE:=Ag i λz=>if ns.contains z.x=true then some (.bl true) else none
theorem oY {ns:List Str}{tbl:List (Str×Addr)}(e:tbl.map (·.1)=ns){x:Str}(h:ns.contains x=true): ∃C,(x,C)∈tbl:=by
 rw[<-e,List.contains_iff_mem] at h;obtain⟨q,h1,h2⟩:=List.mem_map.mp h
 exact⟨q.2,by rw[<-h2];exact h1⟩
theorem u8 {K:W.Frag}{hid:bF}{H:Hp}{a:Addr}{x:Str}{n:Int}(h:ObOk K c hid H a (.exc x n))(ns:W.nsIn K mainGlobals x=some (some (.ref C))): ∃φ,H a=some (.ext φ)/\ ∀h,φ h-> ∃o,W.InstAt h a o C none:=by
 obtain⟨φ,h1,h2⟩:=h
 exact⟨φ,eT _ _ _ _ h1,λh q=>(h2 h q).inst ns⟩
variable(T:ExTab X.K X.mg CR tbl)
include T
theorem fS(i:Nat){ns:List Str}{D:Addr}(hT:tbl.map (·.1)=ns)(hD:(y,D)∈tbl)(hm:X.mg "isinstance"=none)(hN:X.N[i]? =some z:=by rfl)(hv:rf X.env.scope z:=by first|exact Or.inl rfl|exact Or.inr (Or.inl rfl)|exact Or.inr (Or.inr rfl))(hd:(z==("__debug__":Str))=false:=by decide)(hcd:(z==("__classdict__":Str))=false:=by decide)
 (hg:Gl X "isinstance":=by rfl) (hgy:Gl X y:=by rfl) (hbv:bootBuiltins "isinstance"=some (.builtin "isinstance"):=by kernel_rfl) (hdy:(y==("__debug__":Str))=false:=by decide)
 (hs1:starEach [.Name z p1,.Name y p2] X.env=(false,eval (.Name z p1) X.env)::starEach [.Name y p2] X.env:=by rfl) (hs2:starEach [.Name y p2] X.env=(false,eval (.Name y p2) X.env)::starEach [] X.env:=by rfl) (hpl:(backTo pos (starEach [.Name y p2] X.env)).any (·.1)=false:=by rfl):
 DP X c .s (.Call (.Name "isinstance" p) [.Name z p1,.Name y p2] [] pos) (lC i ns [y]):=λhid ρ=>
 PE.imp (gW ql hg hm hbv (aV (pv i hN hv hd hcd) (aV (xF (v:=.ref D) hgy (T.row _ hD).mg rfl hdy) cv hs2) hs1) (by decide) (by decide) hs1 hpl) λσ H Q hq_=>by
  obtain⟨sr,d,hd,q⟩:=hq_
  unfold lC Ag at hd;split at hd
  ·rename_i x' n' e'
   dsimp only at hd;split at hd
   ·rename_i hc
    cases hd
    obtain⟨a,z1,z2⟩:=sr.sl i _ e'
    obtain⟨C,hC⟩:=oY hT hc.1
    refine⟨.ref a,z1,a,.ref D,C,mv x' y,rfl,u8 z2 (T.row _ hC).ns,(T.row _ hC).cc,.inl ⟨D,rfl,T.one hC hD⟩,?_⟩
    have:=q (.bl (mv x' y)) H (Same.refl _)
    simp only[List.any_cons,List.any_nil,Bool.or_false] at this;exact this .bl
   ·cases hd
  ·cases hd
theorem x4(i:Nat){ns:List Str}(hT:tbl.map (·.1)=ns)(hm:X.mg "isinstance"=none)(hmv:X.mg "ValueError"=none)(hN:X.N[i]? =some z:=by rfl)(hv:rf X.env.scope z:=by first|exact Or.inl rfl|exact Or.inr (Or.inl rfl)|exact Or.inr (Or.inr rfl))(hd:(z==("__debug__":Str))=false:=by decide)(hcd:(z==("__classdict__":Str))=false:=by decide)
 (hg:Gl X "isinstance":=by rfl) (hgy:Gl X "ValueError":=by rfl) (hbv:bootBuiltins "isinstance"=some (.builtin "isinstance"):=by kernel_rfl) (hbw:bootBuiltins "ValueError"=some (.type "ValueError"):=by kernel_rfl)
 (hs1:starEach [.Name z p1,.Name "ValueError" p2] X.env=(false,eval (.Name z p1) X.env)::starEach [.Name "ValueError" p2] X.env:=by rfl) (hs2:starEach [.Name "ValueError" p2] X.env=(false,eval (.Name "ValueError" p2) X.env)::starEach [] X.env:=by rfl) (hpl:(backTo pos (starEach [.Name "ValueError" p2] X.env)).any (·.1)=false:=by rfl):
 DP X c .s (.Call (.Name "isinstance" p) [.Name z p1,.Name "ValueError" p2] [] pos) (Au i ns):=λhid ρ=>
 PE.imp (gW ql hg hm hbv (aV (pv i hN hv hd hcd) (aV (tX (v:=.ty "ValueError") hgy hmv hbw rfl) cv hs2) hs1) (by decide) (by decide) hs1 hpl) λσ H Q hq_=>by
  obtain⟨sr,d,hd,q⟩:=hq_
  unfold Au Ag at hd;split at hd
  ·rename_i x' n' e'
   dsimp only at hd;split at hd
   ·rename_i hc
    cases hd
    obtain⟨a,z1,z2⟩:=sr.sl i _ e'
    obtain⟨C,hC⟩:=oY hT hc
    exact⟨.ref a,z1,a,.ty "ValueError",C,true,rfl,u8 z2 (T.row _ hC).ns,(T.row _ hC).cc,.inr (.inl ⟨_,rfl,T.val hC⟩),q (.bl true) H (Same.refl _) .bl⟩
   ·cases hd
  ·cases hd
end
abbrev Cx.inTry(X:Cx)(pn:List (Addr×Obj))(E:Value->Shared->Prop):Cx:={X with pn:=pn,xe:=E}
abbrev Cx.caught(X:Cx)(v:Option Value):Cx:={X with A:=X.A.mark v,calm:=false,xe:=λ_ _=>False}
section
variable {X:Cx}{ae pins':List (Addr×Obj)}{σ:St}{H:Hp}{s:Shared}{E:Value->Shared->Prop}{v:Option Value}{a:Addr}
theorem Cx.Ok.inTry {pn:List (Addr×Obj)}(ok:X.Ok):(X.inTry pn E).Ok:=⟨ok.mod,ok.kind,ok.glob,ok.blt,ok.above,ok.inj,ok.has,ok.cab,ok.hd,ok.frames,ok.stk,ok.exf,ok.bs,ok.bsz,ok.noex,ok.exfs,ok.funs,ok.frf⟩
theorem Cx.Ok.outTry {pn:List (Addr×Obj)}(ok:(X.inTry pn E).Ok):X.Ok:=⟨ok.mod,ok.kind,ok.glob,ok.blt,ok.above,ok.inj,ok.has,ok.cab,ok.hd,ok.frames,ok.stk,ok.exf,ok.bs,ok.bsz,ok.noex,ok.exfs,ok.funs,ok.frf⟩
theorem Inv.inTry(I:Inv X ae σ H s):Inv (X.inTry (X.pn++ae) E) [] σ H s:=
 ⟨I.ok.inTry,I.os,I.bare,I.base,I.loc,I.cell,I.free,I.freeC,λp hp=>I.pin p (by rw[List.append_nil] at hp;exact hp),I.hok,I.len⟩
theorem Inv.outTry(I:Inv (X.inTry (X.pn++ae) E) pins' σ H s):Inv X ae σ H s:=
 ⟨I.ok.outTry,I.os,I.bare,I.base,I.loc,I.cell,I.free,I.freeC,λp hp=>I.pin p (List.mem_append_left _ hp),I.hok,I.len⟩
theorem Inv.caught(I:Inv X ae σ H s):Inv (X.caught v) ae σ H s:=
 ⟨⟨I.ok.mod,I.ok.kind,I.ok.glob,I.ok.blt,I.ok.above,I.ok.inj,I.ok.has,I.ok.cab,(λq=>nomatch q),I.ok.frames,I.ok.stk,I.ok.exf,I.ok.bs,I.ok.bsz,I.ok.noex,I.ok.exfs,I.ok.funs,I.ok.frf⟩,I.os,I.bare,I.base,I.loc,I.cell,I.free,I.freeC,I.pin,I.hok,I.len⟩
theorem Inv.uncaught(ok:X.Ok)(I:Inv (X.caught v) ae σ H s):Inv X ae σ H s:=⟨ok,I.os,I.bare,I.base,I.loc,I.cell,I.free,I.freeC,I.pin,I.hok,I.len⟩
theorem SP.outTry {D:Ends}{f:Flow}(h:SP (X.inTry (X.pn++ae) E) pins' D f s):SP X ae D f s:=by
 cases f with
 |next=>obtain⟨σ',H',I,q⟩:=h;exact⟨σ',H',I.outTry,q⟩
 |brk=>obtain⟨σ',H',I,q⟩:=h;exact⟨σ',H',I.outTry,q⟩
 |cont=>obtain⟨σ',H',I,q⟩:=h;exact⟨σ',H',I.outTry,q⟩
 |ret u=>obtain⟨v,σ',H',I,r,q⟩:=h;exact⟨v,σ',H',I.outTry,r,q⟩
theorem XS.outTry {o0:Obj}{ea:Addr}(x:XS (X.inTry (X.pn++ae) E) pins' σ H o0 ea s):XS X ae σ H o0 ea s:=by
 obtain⟨g,F,I,aw,fl,up,gn⟩:=x
 exact⟨g,F,I.outTry,⟨aw.1,λb hb nb=>⟨(aw.2 b hb nb).1,(aw.2 b hb nb).2.1,(aw.2 b hb nb).2.2.1,(aw.2 b hb nb).2.2.2.1,λp hp=>(aw.2 b hb nb).2.2.2.2 p (List.mem_append_left _ hp)⟩⟩,fl,up,gn⟩
theorem ObjOk.there {P:Program}{w:World}{h:Heap}{o:HO}(x:ObjOk P w H h a o): ∃u,h.get? a=some u:=by
 induction o with
 |lst xs=>obtain⟨_,_,_,_,e⟩:=x;exact⟨_,e⟩
 |tup xs=>obtain⟨_,_,_,⟨_,e,_⟩,_⟩:=x;exact⟨_,e⟩
 |dK kvs=>obtain⟨_,_,_,_,o,_,_,e,_⟩:=x;exact⟨_,e⟩
 |dT kvs=>obtain⟨_,_,_,_,o,_,_,e,_⟩:=x;exact⟨_,e⟩
 |set S n=>obtain⟨o,_,_,_,e,_⟩:=x;exact⟨_,e⟩
 |tst xs=>obtain⟨o,_,_,_,e,_⟩:=x;exact⟨_,e⟩
 |ins C dx fs=>obtain⟨_,_,_,e,_⟩:=x;exact⟨_,e⟩
 |own y=>obtain⟨_,e⟩:=x;exact⟨_,e⟩
 |xd fs=>obtain⟨_,⟨_,_,_,e,_⟩,_⟩:=x;exact⟨_,e⟩
 |rng lo hi=>obtain⟨_,_,_,e⟩:=x;exact⟨_,e⟩
 |frz ob u ih=>obtain⟨e,_⟩:=x;exact⟨_,e⟩
 |nst p u ih=>exact ih x
 |tbl ps=>exact⟨_,show h.get? a=some _ from x⟩
 |met f y=>exact⟨_,show h.get? a=some _ from x⟩
 |ext φ=>obtain⟨_,⟨_,e⟩,_⟩:=x;exact⟨_,e⟩
theorem Inv.newer {g:Heap}(Ig:Inv X ae σ H {s with heap:=g})(gn:g.get? a=none):H a=none:=by
 cases q:H a with
 |none=>rfl
 |some u=>
  obtain⟨o,e⟩:=(Ig.hok a u q).there
  rw[show g.get? a=some o from e] at gn;cases gn
theorem Inv.track {g:Heap}{o:Obj}{φ:Heap->Prop}(I:Inv X ae σ H s)(Ig:Inv X ae σ H {s with heap:=g})(gn:g.get? a=none)(ho:s.heap.get? a=some o)(hφ:φ s.heap)
 (hst: ∀h1 h2:Heap,φ h1->(∀o,h1.get? a=some o->h2.get? a=some o)->φ h2):Inv X ae σ (cw H a (.ext φ)) s:=by
 have Ha:=Ig.newer gn
 have ne: ∀ {b o},g.get? b=some o->b≠a:=λ{b o} e z=>by rw[z,gn] at e;cases e
 have nt: ∀ {b u},H b=some u->b≠a:=λ{b u} e z=>by rw[z,Ha] at e;cases e
 have hL:X.env.locals≠a:=by
  obtain⟨m,⟨o',es,ep,e,_⟩,_⟩:=Ig.loc
  exact ne e
 refine⟨I.ok,I.os,I.bare,⟨I.base.keep,I.base.slot,λb ob e n hx=>?_,I.base.there,λb xs e=>?_,λb ob u e=>?_,λb ps e=>?_⟩,I.loc,I.cell,?_,λx c e=>?_,λp hp=>?_,λb u e=>?_,I.len⟩
 ·obtain⟨o',e'⟩:=Ig.base.there b ob e hx
  rw[aI (ne e')];exact I.base.free b ob e n hx
 ·have:=I.base.tups b xs e
  rw[aI (nt this)];exact this
 ·have:=I.base.frzs b ob u e
  rw[aI (nt this)];exact this
 ·obtain⟨m,e'⟩:=I.base.tbls b ps e
  exact⟨m,by rw[aI (nt e')];exact e'⟩
 ·rw[aI hL];exact I.free
 ·obtain⟨w,o',e',_⟩:=Ig.cell x c e
  rw[aI (ne e')];exact I.freeC x c e
 ·obtain⟨h1,h2,h3⟩:=I.pin p hp
  exact⟨h1,by rw[aI (ne (Ig.pin p hp).1)];exact h2,h3⟩
 ·by_cases z:b=a
  ·subst z
   rw[aY] at e;cases e
   exact⟨hφ,⟨o,ho⟩,hst⟩
  ·rw[aI z] at e
   exact(I.hok b u e).stay (λ_ _ _ q=>q) (λc q=>by rw[aI (nt q)];exact q) λc xs q=>by rw[aI (nt q)];exact q
theorem Inv.blind {h':Heap}{t':Nat}{m':Str->Option Value}(I:Inv X ae σ H s)(hn:h'.Ns X.env.locals m')(sb:Heap.SameBut X.env.locals s.heap h'):Inv X ae (List.replicate X.N.length none) H {s with heap:=h',toks:=t'}:=by
 have kp: ∀b o,b≠X.env.locals->s.heap.get? b=some o->h'.get? b=some o:=λb o n e=>(sb.2 b n).trans e
 have n0: ∀ {b o},X.s₀.heap.get? b=some o->b≠X.env.locals:=λ{b o} e z=>by
  have:=Heap.lt_size e
  rw[z] at this;exact absurd this (Nat.not_lt.mpr I.ok.above)
 refine⟨I.ok,I.os,I.bare,⟨λb o e n hf hx=>kp b o (n0 e) (I.base.keep b o e n hf hx),λb o e n hf hx=>?_,I.base.free,λb o e hx=>?_,I.base.tups,I.base.frzs,I.base.tbls⟩,⟨m',hn,λi x v _ e=>?_⟩,λx c e=>?_,I.free,I.freeC,λp hp=>?_,λb u e=>?_,by simp⟩
 ·obtain⟨sl,q⟩:=I.base.slot b o e n hf hx
  exact⟨sl,kp b _ (n0 e) q⟩
 ·obtain⟨o',q⟩:=I.base.there b o e hx
  exact⟨o',kp b _ (n0 e) q⟩
 ·rw[List.getElem?_replicate] at e
  split at e<;>cases e
 ·obtain⟨v,o,q,r⟩:=I.cell x c e
  exact⟨v,o,kp c o (I.cne x c e) q,r⟩
 ·obtain⟨h1,h2,h3,h4⟩:=I.pin p hp
  exact⟨kp _ _ h3 h1,h2,h3,h4⟩
 ·refine(I.hok b u e).stay (λc o hc q=>kp c o (λz=>?_) q) (λ_ q=>q) λ_ _ q=>q
  have:=I.free
  rw[<-z] at this;rcases hc with rfl|hc
  ·rw[e] at this;cases this
  ·rw[hc] at this;cases this
end
section
variable {K:W.Frag}{c:Ct}{hid:bF}{ρ:aC}{σ:St}{H:Hp}{a:Addr}{x:Str}{n:Int}
theorem SR.setEx(h:SR K c hid ρ σ H)(ho:ObOk K c hid H a (.exc x n))(i:Nat):SR K c hid (ρ.set i (.ob (.exc x n))) (σ.set i (some (.ref a))) H:=by
 have nj: ∀m,Ow (ρ.set i (.ob (.exc x n)))[m]? ->m≠i:=λm o e=>by
  subst e
  by_cases lt:m<ρ.length
  ·rw[List.getElem?_set_self lt] at o;exact o
  ·rw[List.getElem?_eq_none (by simpa using lt)] at o;exact o
 refine⟨h.tr,h.ht,h.h0,h.kp,h.t0,h.c0,h.m0,by simp[h.len],λj s q=>?_,λj l z ne o1 o2 q1 q2=>?_⟩
 ·by_cases e:j=i
  ·subst e
   have lt:j<ρ.length:=by
    have:=(List.getElem?_eq_some_iff.mp q).1
    simpa using this
   rw[List.getElem?_set_self lt] at q;cases q
   exact⟨a,List.getElem?_set_self (by rw[h.len];exact lt),ho⟩
  ·rw[List.getElem?_set_ne (Ne.symm e)] at q
   have w:=h.sl j s q
   have es:(σ.set i (some (V.ref a)))[j]? =σ[j]? :=List.getElem?_set_ne (Ne.symm e)
   cases s with
   |no=>trivial
   |v d=>obtain⟨x,h1,h2⟩:=w;exact⟨x,es.trans h1,h2⟩
   |own ds=>obtain⟨a,xs,h1,h2⟩:=w;exact⟨a,xs,es.trans h1,h2⟩
   |arg ds=>obtain⟨a,xs,h1,h2⟩:=w;exact⟨a,xs,es.trans h1,h2⟩
   |ob b=>obtain⟨a,h1,h2⟩:=w;exact⟨a,es.trans h1,h2⟩
 ·have e1:=nj j o1
  have e2:=nj l o2
  rw[List.getElem?_set_ne (Ne.symm e1)] at o1 q1;rw[List.getElem?_set_ne (Ne.symm e2)] at o2 q2;exact h.ap j l z ne o1 o2 q1 q2
end
theorem InFl.keeps {B:Heap}{l:List Env}{e:Addr}{o0:Obj}{h h':Heap}(x:InFl B l e o0 h)(k: ∀b o,h.get? b=some o->h'.get? b=some o):InFl B l e o0 h':=by
 refine⟨λb o q=>k b o (x.st b o q),x.ne,x.ff.of_keeps λb o q _=>⟨o,k b o q,rfl⟩,?_⟩
 rcases x.tr with⟨vs,T,oT,ts,h1,h2,h3,h4,h5,h6⟩|⟨vs,h1,h2⟩
 ·exact .inl ⟨vs,T,oT,ts,k _ _ h1,h2,h3,h4,k _ _ h5,h6⟩
 ·exact .inr ⟨vs,k _ _ h1,h2⟩
theorem Trc.keeps {B:Heap}{e:Addr}{o0:Obj}{h h':Heap}(x:Trc h B e o0)(k: ∀b o,h.get? b=some o->h'.get? b=some o):Trc h' B e o0:=by
 obtain⟨vs,T,oT,ts,h1,h2,h3,h4,h5,h6⟩:=x
 exact⟨vs,T,oT,ts,k _ _ h1,h2,h3,h4,k _ _ h5,h6⟩
section
variable {K:W.Frag}{M:Model}{A:Around}{E:Value->Shared->Prop}{s:Shared}{ea C D:Addr}{o:Obj}{b:Bool}
theorem ExcC.isExc(X:ExcC K D){h:Heap}(KI:K.In h):W.Looks M h (isExcClass (.ref D)) true:=by
 have L:W.Looks M h (isType (.ref D)) true:=by
  obtain⟨cd,hc⟩:=X.cls
  unfold W.clsIn at hc;split at hc
  ·rename_i c' d' cd' sl' ho
   intro A' Q' E' s' k q;unfold isType loadHead;exact wpAny_bind (wpAny_loadPart (k _ _ (KI _ _ ho)) (wpAny_pure q))
  ·cases hc
 unfold isExcClass;refine L.andThen ?_
 exact W.looks_mroIn KI X.mb
theorem yB {Q:Bool->Shared->Prop}(KI:K.In s.heap)(I:W.InstAt s.heap ea o C none)(X:ExcC K D)(ty:W.typeIn K (.ref D)=some (.type "type"))(hCD:W.mroIn K C (.ref D)=some b)(q:Q b s):wpAny M A (excMatches (.ref ea) (.ref D)) Q E s:=by
 obtain⟨hh,g,d,t,os⟩:=s
 have L0:W.Looks M hh (isInstance (.ref D) (.type "tuple")) false:=(W.looks_typeIn (M:=M) KI ty).andThen (W.Looks.of_pure tc_notTuple)
 have L1:=X.isExc (M:=M) KI
 have L2:=I.type (M:=M)
 have L3:=W.looks_mroIn (M:=M) KI hCD
 unfold excMatches;refine wpAny_bind (L0.at ?_)
 simp only[Bool.false_eq_true,if_false];refine wpAny_bind (wpAny_pure ?_)
 simp only[List.forIn_cons,List.forIn_nil];refine wpAny_bind (wpAny_bind (wpAny_bind (L1.at ?_)))
 simp only[Bool.not_true,Bool.false_eq_true,if_false];refine wpAny_pure (wpAny_pure (wpAny_bind (L2.at ?_)))
 refine wpAny_bind (wpAny_bind (wpAny_bind (L3.at ?_)))
 cases b with
 |true=>simp only[if_true];exact wpAny_pure (wpAny_pure (wpAny_pure q))
 |false=>simp only[Bool.false_eq_true,if_false];exact wpAny_pure (wpAny_pure (wpAny_pure q))
end
def Ed(X:Cx)(te:Expr)(ns ys:List Str):Prop:= ∀(v:Option Value) (ae:List (Addr×Obj)) (s:Shared) (σ:St) (H:Hp) (ea:Addr) (x:Str) (C:Addr) (o:Obj) (Q:Bool->Shared->Prop),Inv (X.caught v) ae σ H s->ns.contains x=true->
 W.nsIn X.K mainGlobals x=some (some (.ref C))->W.InstAt s.heap ea o C none->(∀s1 H1,Inv (X.caught v) ae σ H1 s1->Same H H1->(∀b o,s.heap.get? b=some o->s1.heap.get? b=some o)->s1.os=s.os->s1.gens=s.gens->Q (ys.any λy=>mv x y) s1)->
 wpAny (model X.prog X.w) (X.A.mark v) (eval te X.env) (λc s₁=>wpAny (model X.prog X.w) (X.A.mark v) (excMatches (.ref ea) c) Q (λ_ _=>False) s₁) (λ_ _=>False) s
section
variable {X:Cx}{y:Str}{p2:Pos}{CR D:Addr}{tbl:List (Str×Addr)}{ns:List Str}(T:ExTab X.K X.mg CR tbl)
include T
theorem xy(hT:tbl.map (·.1)=ns)(hD:(y,D)∈tbl)(hg:Gl X y:=by rfl)(hd:(y==("__debug__":Str))=false:=by decide):Ed X (.Name y p2) ns [y]:=by
 intro v ae s σ H ea x C o Q I hx hC io q;obtain⟨C',hC'⟩:=oY hT hx
 have:C'=C:=by
  have:=(T.row _ hC').ns
  rw[hC] at this;injection this with this;injection this with this
  exact(Value.ref.inj this).symm
 subst this;refine jj (X:=X.caught v) I hg (T.row _ hD).mg ?_ hd
 refine yB I.kIn io (T.row _ hD).cc (T.row _ hD).ty (T.mro hC' hD) ?_
 have:=q s H I (Same.refl _) (λ_ _ e=>e) rfl rfl
 simpa using this
end
theorem DA.nox {X:Cx}{c:Ct}{es:List Expr}{f:FA}(h:DA X.nox c es f):DA X c es f:=λhid ρ p ae s σ H Q I hw=>
 wpAny_mono (h hid ρ p ae s σ H Q (I.wish _) hw) (λ_ _ ⟨v,H',I',r,q⟩=>⟨v,H',I'.unwish,r,q⟩) λ_ _ z=>False.elim z
theorem vA {α:Type}{P:α->Prop}: ∀q∈([]:List α),P q:=λ_ h=>nomatch h
theorem cU {α:Type}{P:α->Prop}{r:List α}{a:α}(h:P a)(hr: ∀q∈r,P q): ∀q∈a::r,P q:=λq hq=>(List.mem_cons.mp hq).elim (λe=>by rw[e];exact h) (hr q)
abbrev Ey(X:Cx):Prop:=X.stack=X.env::X.outer/\X.env.frame=some X.env.locals
def rP(i:Nat)(ns ys:List Str)(t:FX)(u:FS):FS:=λρ=>match t ρ with
 | .ok o=>o
 | .error z=>if ns.contains z.1.x=true/\(ys.any λy=>mv z.1.x y)=true then(match u (z.2.set i (.ob (.exc z.1.x z.1.n))) with
    | .rt d ρ2=>.rt d ρ2
    |_=>.no) else .no
section
variable {X:Cx}{c:Ct}{k:Kd}{body suite:List Stmt}{b0:Stmt}{te:Expr}{n:Str}{hpos pos:Pos}{t:FX}{u:FS}{ns ys:List Str}{i:Nat}
theorem vg(i:Nat)(hN:X.N.Nodup)(hf:Ey X)(hb: ∀pn E,oD (X.inTry pn E) c k body t)(hc:Ed X te ns ys)(hs: ∀v,qR (X.caught v) c k (b0::suite) u)(hi:X.N[i]? =some n:=by rfl)(hl:X.env.scope.names.lookup n=some .local:=by rfl):
 DS X c k (.Try body [.ExceptHandler (some te) (some n) (b0::suite) hpos] [] [] pos) (rP i ns ys t u):=λρ ae s σ H D I hq_=>by
 obtain⟨hid,sr,q⟩:=hq_
 unfold rP at q;refine wpAny_Try_except (wpAny_mono (hb (X.pn++ae) (λe s₁=>wpAny (model X.prog X.w) X.A (noteFrame e X.env) (λ_ s₂=>wpAny (model X.prog X.w) X.A (setFlight e none) (λ_ s₃=>
  wpAny (model X.prog X.w) X.A (handleBy e X.env [.ExceptHandler (some te) (some n) (b0::suite) hpos]) (SP X ae D) X.xe s₃) X.xe s₂) X.xe s₁) ρ [] s σ H D I.inTry ⟨hid,sr,?_⟩) (λf s₁ h₁=>?_) λe s₁ h=>h)
 ·cases e:t ρ with
  |ok o=>rw[e] at q;exact q
  |error zz=>
   obtain⟨z,ρ'⟩:=zz
   rw[e] at q;dsimp only at q;intro σ' H' hid' C sr' sm hn pins' ea o0 s' hcls hdict xs;obtain⟨g,F,Ig,aw,fl,up,gn⟩:=xs.outTry
   split at q
   ·rename_i hz
    obtain⟨stk,frm⟩:=hf
    have hfr:X.A.frames=some (X.env::X.outer):=by rw[<-stk];exact I.ok.frames
    have fl0:InFl (W.hideAll g F) (X.env::X.outer) ea o0 s'.heap:=by rw[<-stk];exact fl
    refine sQ hfr frm fl0 λh1 fl1 tr1 up1=>?_
    have I1:Inv X ae σ' H' {s' with heap:=h1}:=XS.inv (s':={s' with heap:=h1}) ⟨g,F,Ig,aw,by rw[stk];exact fl1,up.trans up1,gn⟩
    have inst: ∀ {h:Heap},Trc h (W.hideAll g F) ea o0-> ∃o,W.InstAt h ea o C none:=λ{h} tr=>by
     obtain⟨vs,_,_,_,he,_⟩:=tr
     exact⟨_,he,hcls,rfl,by show(match o0.dict,none with|some dx,some o=>h.get? dx=some o|none,none=>True|_,_=>False);rw[hdict];trivial⟩
    obtain⟨o1,io⟩:=inst tr1
    refine wpAny_handleBy_cons (codeAny_handlers_test ?_) (by intro q;cases q)
    refine wpAny_mono (hc (some (.ref ea)) ae _ σ' H' ea z.x C o1 _ I1.caught hz.1 hn io λs2 H2 I2 sm2 kp2 os2 gs2=>?_) (λcl s₂ h₂=>wpAny_mono h₂ (λ_ _ z=>z) λ_ _ z=>z.elim) λ_ _ z=>z.elim
    rw[hz.2];simp only[if_true];refine codeAny_handlers_suite_as ?_
    have I2':Inv X ae σ' H2 s2:=I2.uncaught I.ok
    have fl2:=fl1.keeps kp2
    have tr2:=tr1.keeps kp2
    refine yw fl2 tr2 λh3 fl3 tr3 up3=>?_
    have gk: ∀b o,g.get? b=some o->b∉F->s2.heap.get? b=some o:=λb o e nF=>fl2.st b o (W.hideAll_get _ e nF)
    have I3:Inv X ae σ' H' {s2 with heap:=h3}:=XS.inv (s':={s2 with heap:=h3}) ⟨g,F,by
     have:=Ig
     exact⟨this.ok,by show s2.os=_;rw[os2];exact this.os,by show AllBare s2.gens;rw[gs2];exact this.bare,this.base,this.loc,this.cell,this.free,this.freeC,this.pin,this.hok,this.len⟩,aw,by rw[stk];exact fl3,(up.trans up1).trans ((Heap.UpToSlots.of_keeps kp2).trans up3),gn⟩
    obtain⟨o3,io3⟩:=inst tr3
    have Ig':Inv X ae σ' H' {s2 with heap:=g}:=⟨Ig.ok,by show s2.os=_;rw[os2];exact Ig.os,by show AllBare s2.gens;rw[gs2];exact Ig.bare,Ig.base,Ig.loc,Ig.cell,Ig.free,Ig.freeC,Ig.pin,Ig.hok,Ig.len⟩
    have exat: ∀ {h:Heap},(∃o,W.InstAt h ea o C none)->ExcAt X.K z.x z.n ea h:=λ{h} ⟨o,io⟩=>⟨C,o,hn,io.at_,io.cls,by have:=io.dict;cases hd:o.dict with|none=>rfl|some dx=>rw[hd] at this;exact this.elim,io.no⟩
    have I4:Inv X ae σ' (cw H' ea (.ext (ExcAt X.K z.x z.n ea))) {s2 with heap:=h3}:=I3.track (g:=g) Ig' gn io3.at_ (exat ⟨o3,io3⟩) λk1 k2 ⟨C',o',w1,w2,w3⟩ kk=>⟨C',o',w1,kk _ w2,w3⟩
    have Hn:H' ea=none:=Ig.newer gn
    have sr4:SR X.K c hid' ρ' σ' (cw H' ea (.ext (ExcAt X.K z.x z.n ea))):=sr'.ext (bd Hn _)
    have ob4:ObOk X.K c hid' (cw H' ea (.ext (ExcAt X.K z.x z.n ea))) ea (.exc z.x z.n):=⟨_,vw_some.mpr ⟨sr'.fresh Hn,aY⟩,λh q=>q⟩
    refine lT (v:=.ref ea) I4 hN hi (.inl hl) rfl (λs5 I5=>?_) (.inr hl)
    have sr5:=sr4.setEx ob4 i
    cases eu:u (ρ'.set i (.ob (.exc z.x z.n))) with
    |rt d ρ2=>
     rw[eu] at q;refine wpAny_mono (hs (some (.ref ea)) (ρ'.set i (.ob (.exc z.x z.n))) ae s5 _ _ {nx:=λ_ _=>False,rt:=D.rt} I5.caught ⟨hid',sr5,by rw[eu];exact q⟩) (λf s6 h6=>?_) λ_ _ z=>z.elim
     cases f with
     |next=>obtain⟨_,_,_,z⟩:=h6;exact z.elim
     |brk=>obtain⟨_,_,_,z⟩:=h6;exact z.elim
     |cont=>obtain⟨_,_,_,z⟩:=h6;exact z.elim
     |ret u6=>
      obtain⟨v6,σ6,H6,I6,r6,q6⟩:=h6
      have J6:=I6.uncaught I.ok
      obtain⟨m6,n6,_⟩:=J6.loc
      exact wpAny_nameGoes hl n6 (by rw[J6.ok.kind];rfl) λh7 m7 n7 sb7=>⟨v6,_,H6,J6.blind n7 sb7,r6,q6⟩
    |nx ρ2=>rw[eu] at q;exact q.elim
    |bk ρ2=>rw[eu] at q;exact q.elim
    |ct ρ2=>rw[eu] at q;exact q.elim
    |no=>rw[eu] at q;exact q.elim
   ·exact q.elim
 ·cases f with
  |next=>exact wpAny_execs_nil (SP.outTry h₁)
  |brk=>exact SP.outTry h₁
  |cont=>exact SP.outTry h₁
  |ret u=>exact SP.outTry h₁
end
section
variable {X:Cx}{c:Ct}{e:Expr}{es:List Expr}{k:Kd}{pos p:Pos}{x:Str}{ps:List Str}{j n:Nat}
def fN(f:FE):FA:=λρ=>(f ρ).bind λd=>match d with
 | .lst ds=>some ds
 | .tup ds=>some ds
 |_=>none
theorem fO {tg iter:Expr}{f:FE}(h:DP X c .s iter f):DIp X c tg iter (fN f):=λhid ρ ae s σ H R I hq_=>by
 obtain⟨sr,ds,e1,q⟩:=hq_
 unfold fN at e1;cases e2:f ρ with
 |none=>rw[e2] at e1;cases e1
 |some d=>
  rw[e2,Option.bind_some] at e1;cases d with
  |lst xs=>cases e1;exact vU h hid ρ ae s σ H R I ⟨sr,ds,by unfold oZ;rw[e2];rfl,q⟩
  |tup xs=>cases e1;exact yD h hid ρ ae s σ H R I ⟨sr,ds,by unfold xX;rw[e2];rfl,q⟩
  |_=>cases e1
end
theorem hU {a b:Addr}{l:List Addr}(h:(a::l).Nodup)(hb:b∈l): ¬b=a:=λe=>(List.nodup_cons.mp h).1 (e▸hb)
theorem iY {es rest:List Expr}{x1}{pos:Pos}{env:Env}:starEach (.Tuple es x1 pos::rest) env=(false,eval (.Tuple es x1 pos) env)::starEach rest env:=by rfl
theorem zq {es rest:List Expr}{pos:Pos}{env:Env}:starEach (.List es pos::rest) env=(false,eval (.List es pos) env)::starEach rest env:=by rfl
@[elab_as_elim] theorem ar0 {motive:List Value->Prop} (us:List Value) (hl:us.length=0) (h:motive []):motive us:=by
 cases us with
 |nil=>exact h
 |cons a r=>exact absurd hl (Nat.succ_ne_zero _)
@[elab_as_elim] theorem ar1 {motive:List Value->Prop} (us:List Value) (hl:us.length=1) (h: ∀a0,motive [a0]):motive us:=by
 cases us with
 |nil=>exact absurd hl (by decide)
 |cons a0 r=>exact ar0 (motive:=λr=>motive (a0::r)) r (Nat.succ.inj hl) (h a0)
@[elab_as_elim] theorem ar2 {motive:List Value->Prop} (us:List Value) (hl:us.length=2) (h: ∀a0 a1,motive [a0,a1]):motive us:=by
 cases us with
 |nil=>exact absurd hl (by decide)
 |cons a0 r=>exact ar1 (motive:=λr=>motive (a0::r)) r (Nat.succ.inj hl) (h a0)
@[elab_as_elim] theorem ar3 {motive:List Value->Prop} (us:List Value) (hl:us.length=3) (h: ∀a0 a1 a2,motive [a0,a1,a2]):motive us:=by
 cases us with
 |nil=>exact absurd hl (by decide)
 |cons a0 r=>exact ar2 (motive:=λr=>motive (a0::r)) r (Nat.succ.inj hl) (h a0)
@[elab_as_elim] theorem ar4 {motive:List Value->Prop} (us:List Value) (hl:us.length=4) (h: ∀a0 a1 a2 a3,motive [a0,a1,a2,a3]):motive us:=by
 cases us with
 |nil=>exact absurd hl (by decide)
 |cons a0 r=>exact ar3 (motive:=λr=>motive (a0::r)) r (Nat.succ.inj hl) (h a0)
@[elab_as_elim] theorem ar5 {motive:List Value->Prop} (us:List Value) (hl:us.length=5) (h: ∀a0 a1 a2 a3 a4,motive [a0,a1,a2,a3,a4]):motive us:=by
 cases us with
 |nil=>exact absurd hl (by decide)
 |cons a0 r=>exact ar4 (motive:=λr=>motive (a0::r)) r (Nat.succ.inj hl) (h a0)
@[elab_as_elim] theorem ar6 {motive:List Value->Prop} (us:List Value) (hl:us.length=6) (h: ∀a0 a1 a2 a3 a4 a5,motive [a0,a1,a2,a3,a4,a5]):motive us:=by
 cases us with
 |nil=>exact absurd hl (by decide)
 |cons a0 r=>exact ar5 (motive:=λr=>motive (a0::r)) r (Nat.succ.inj hl) (h a0)
section
variable {X:Cx}{c:Ct}{e o:Expr}{k k2:Kd}{f g:FE}{pos p p2 apos:Pos}
theorem qE(hu:X.A.units+64<cLine):Cw X "list.index" (λv vs H Q=> ∃a xs ds x y j,v=.ref a/\vs=[x]/\SqL X.K H a xs/\Reps X.K H xs ds/\Rep X.K H x y/\ck ds<=32/\jp ds y=some j/\Q (.int j) H):=by
 intro ae s σ H v vs u us Q I rv rs h;obtain⟨a,xs,ds,x,y,j,rfl,rfl,h1,h2,h3,h4,h5,q⟩:=h
 cases rv
 obtain⟨w,rfl,rw'⟩:=gH rs
 obtain⟨its,r,pl,hz⟩:=I.list h1
 have l1:=r.length
 have l2:=h2.length
 obtain⟨e,g1,g2⟩:=ou (A:=X.A.in1.in1) I h3 rw' h2 r (by rw[cT,cT];omega)
 unfold jp at h5;rw[List.findIdx?_eq_some_iff_getElem] at h5;obtain⟨hj,hp,hno⟩:=h5
 obtain⟨⟨cls,dd,data,sl⟩,n,ho,hc,hd0,hd⟩:=id pl
 simp only at hc hd;subst hc hd;have hj':j<its.length:=by omega
 have hz':(j:Int)<2^63-1:=by
  have:its.length<=2^62:=by rw[<-l1];exact Nat.le_trans hz (by decide)
  omega
 have gt: ∀m (hm:m<its.length) (hm2:m<ds.length),e its[m]=cu ds[m] y:=λm hm hm2=>g2 m hm _ (List.getElem?_eq_getElem hm2)
 refine call_meets PySem.F.slot_list_index ⟨_,ho,rfl⟩ PySem.F.entry_list_index (PySem.F.args_list_index_2 _ _) (SeqAt.list_indexAt a its.toArray n dd sl w e j (by simpa using hj') hz' ?_ ?_) ⟨ho,?_,?_⟩
 ·simp only[List.getElem_toArray];rw[gt j hj' hj];exact hp
 ·intro m hm hmj
  simp only[List.getElem_toArray];rw[gt m (by simpa using hm) (by omega)]
  have:=hno m hmj
  simpa using this
 ·intro z hz'
  exact SeqAt.EqAt.of_in1 (g1 z (by simpa using hz'))
 ·exact⟨.int j,H,I.tok _,⟨_,rfl⟩,q⟩
def qk:D->D->Option D:=λt x=>match t with
 | .lst ds=>if ck ds<=32 then(jp ds x).map λj=>.int j else none
 |_=>none
theorem kM(hu:X.A.units+64<cLine)(ho:DP X c k o f)(he:DP X c k2 e g)
 (hbase:attributeBase o "index" X.env (eval o X.env)=eval o X.env:=by rfl)
 (hfew:((backTo pos (starEach [e] X.env)).all (λx=> !x.1)&&(backToKw pos (keywordEach [] X.env)).all (λx=>x.1.isSome)
   &&decide (([e]:List Expr).length+([]:List Keyword).length+(if([]:List Keyword).isEmpty then 0 else 1)<30))=true:=by rfl)
 (hline:(apos.endLine==pos.line)=true:=by rfl) (hs:starEach [e] X.env=(false,eval e X.env)::starEach [] X.env:=by rfl) (hplain:(backTo pos (starEach [] X.env)).any (·.1)=false:=by rfl):
 DP X c .s (.Call (.Attribute o "index" apos) [e] [] pos) (aq qk f g):=λhid ρ=>
 PE.imp (qb PySem.F.plainAttrs_list PySem.F.slot_list_index PySem.F.type_list_index (qE hu) (ho hid ρ) (aV (he hid ρ) cv hs) hbase hfew hline hs hplain) λσ H Q hq_=>by
  obtain⟨sr,d,hd,q⟩:=hq_
  obtain⟨x,y,e1,e2,e3⟩:=iN hd
  unfold qk at e3;split at e3
  ·split at e3
   ·rename_i ds _
    cases e4:jp ds y with
    |none=>rw[e4] at e3;cases e3
    |some j=>
     rw[e4] at e3;cases e3;refine⟨sr,_,e1,λv H1 s1 r1=>?_⟩
     have b1:=RK.b k r1 λa n=>sr.fresh n
     obtain⟨a,xs,rfl,t2,t3⟩:=b1.lst
     refine⟨.inl ⟨rfl,xs,t2⟩,sr.ext s1,y,e2,λu H2 s2 r2=>?_⟩
     have b2:=RK.b k2 r2 λa n=>(sr.ext s1).fresh n
     exact⟨a,xs,ds,u,y,j,rfl,rfl,s2.seq t2,(t3.mono (aN s2)).mono (eT _ _),b2.full, ‹_›,e4,q _ H2 (s1.trans s2) .int⟩
   ·cases e3
  ·cases e3
end
@[irreducible] def QP (X:Cx) (c:Ct) (e:Expr) (f:FE):Prop:=DP X c .s e f
@[irreducible] def QA (X:Cx) (c:Ct) (es:List Expr) (f:FA):Prop:=DA X c es f
@[irreducible] def QS (X:Cx) (c:Ct) (k:Kd) (st:Stmt) (t:FS):Prop:=DS X c k st t
section
variable {X:Cx}{c:Ct}{k:Kd}{e a b:Expr}{es:List Expr}{f g:FE}{fs:FA}{pos pos':Pos}{st:Stmt}{rest:List Stmt}{t u:FS}{x:Str}
theorem QP.of(h:DP X c .s e f):QP X c e f:=by unfold QP;exact h
theorem QP.dp(h:QP X c e f):DP X c .s e f:=by unfold QP at h;exact h
theorem QA.da(h:QA X c es fs):DA X c es fs:=by unfold QA at h;exact h
theorem QS.of(h:DS X c k st t):QS X c k st t:=by unfold QS;exact h
theorem QS.ds(h:QS X c k st t):DS X c k st t:=by unfold QS at h;exact h
theorem ip:QA X c [] ah:=by unfold QA;exact ar
theorem aR(h:QP X c e f)(hr:QA X c es fs)(hs:starEach (e::es) X.env=(false,eval e X.env)::starEach es X.env:=by rfl):QA X c (e::es) (aa f fs):=by unfold QA;exact ag h.dp hr.da hs
theorem kB {x1}(h:QA X c es fs):QP X c (.Tuple es x1 pos) (cC fs):=.of (fu h.da)
theorem qX(h:QA X c es fs):QP X c (.List es pos) (bS fs):=.of (DP.toS (dD h.da))
theorem xw(i:Nat)(hn:X.N.Nodup)(he:QP X c e f)(hi:X.N[i]? =some x:=by rfl)(hx:xc X.env.scope x:=by first|exact Or.inl rfl|exact Or.inr rfl)(hs:swapsWith e (some (.Name x pos')) pos.line X.env=pure false:=by rfl)
 (hf:X.fn x=true\/X.env.scope.names.lookup x=some .local:=by first|exact .inl rfl|exact .inr rfl|assumption):QS X c k (.Assign [.Name x pos'] e pos) (aS i f):=.of (aW i hn he.dp hi hx hs hf)
end
end L2
namespace PySem
open Sem (wp)
end PySem
namespace L2
open PySem PySem.Spec PyProof.Rows
end L2
namespace PySem
end PySem
namespace L2
open PySem PySem.Spec PyProof.Rows
open PySem PySem.W PySem.Spec PyProof.Rows
theorem wD {xs:List V}{us:List Value}(r:Vals xs us):Vals xs.reverse us.reverse:=by
 induction r with
 |nil=>exact .nil
 |cons r t ih=>rw[List.reverse_cons,List.reverse_cons];exact Vals.append ih (.cons r .nil)
set_option maxHeartbeats 4000000
end L2
namespace PySem
open PySem PySem.Spec PyProof.Rows
section
variable {prog:Program}{w:World}{A:Around}{E:Value->Shared->Prop}{s:Shared}
theorem mX {l:Addr}{us:Array Value}{n:Nat}{Q:Value->Shared->Prop}(ho:s.heap.get? l=some {cls:=.type "list",data:=.seq us n})
 (h: ∀g,IsEnum g (s.heap.objs.size+1) s.heap.objs.size 0 .none->g.IsListIter s.heap.objs.size l 0->g.objs.size=s.heap.objs.size+2->(∀b o,s.heap.get? b=some o->g.get? b=some o)->Q (.ref (s.heap.objs.size+1)) {s with heap:=g}):
 wpAny (model prog w) A (call (.type "enumerate") [.ref l]) Q E s:=by
 refine callType_new F.called_enumerate (by decide) (F.typeCall_enumerate_1 _) (F.newCall_enumerate_1 _) (λobj=>F.args_object_init_2 obj _) F.entry_enumerate_new (meets_enumerate_new l us n) ⟨ho,?_⟩
 have hz:(s.heap.push {cls:=.type "list_iterator",data:=.fields #[.ref l,.int 0 0]}).objs.size=s.heap.objs.size+1:=Heap.size_push ..
 show _/\_;rw[hz];have he:IsEnum ((s.heap.push {cls:=.type "list_iterator",data:=.fields #[.ref l,.int 0 0]}).push {cls:=.type "enumerate",data:=.fields #[.none,.bool false,.ref s.heap.objs.size,rawInt 0,.none,.none]}) (s.heap.objs.size+1) s.heap.objs.size 0 .none:=by
  have:=Heap.get?_push_size (s.heap.push {cls:=.type "list_iterator",data:=.fields #[.ref l,.int 0 0]}) (o:={cls:=.type "enumerate",data:=.fields #[.none,.bool false,.ref s.heap.objs.size,rawInt 0,.none,.none]}) rfl
  rw[hz] at this;exact this
 exact⟨⟨_,he,rfl⟩,h _ he ⟨_,Heap.get?_push_of_some _ (Heap.get?_push_size _ rfl),rfl,rfl⟩ (by rw[Heap.size_push,hz]) λb o x=>Heap.get?_push_of_some _ (Heap.get?_push_of_some _ x)⟩
end
end PySem
namespace L2
open PySem PySem.Spec PyProof.Rows
def D5(K:W.Frag)(a:Addr):It:=
 ⟨λi H=> ∃xs x,SqL K H a xs/\xs[i]? =some x,λi H x H'=> ∃T,x=.ref T/\H T=none/\ ∀xs,SqL K H a xs-> ∃y,xs[i]? =some y/\H'=cw H T (.tup [.int i,y]),λi H=> ∃xs,SqL K H a xs/\xs.length<=i⟩
theorem rZ {P:Program}{w:World}{K:W.Frag}{es:List Expr}{x1}{pos:Pos}(a it e:Addr)(hei:e≠it):Turn P w K (.Tuple es x1 pos) (D5 K a) [e,it] e (λi h=>(∃old,IsEnum h e it i old)/\h.IsListIter it a i) where
 mem:=by simp
 obj:=λi h st b hb=>by
  obtain⟨⟨old,he⟩,o,ho,hc,hd⟩:=st
  rcases List.mem_cons.mp hb with rfl|hb
  ·exact⟨_,he,λv z=>by cases z⟩
  ·have:b=it:=by simpa using hb
   subst this;exact⟨o,ho,λv z=>by rw[hd] at z;cases z⟩
 keep:=λi h h' st k=>by
  obtain⟨⟨old,he⟩,hit⟩:=st
  exact⟨⟨old,k e (by simp) _ he⟩,hit.at λo x=>k it (by simp) o x⟩
 item:=by
  intro X hP hw hK hc i ae s σ H E I hf st hg;subst hP hw hK;obtain⟨xs,x,hq,hx⟩:=hg
  obtain⟨its,rv,p,hz⟩:=I.list hq
  obtain⟨u,hu,ru⟩:=rv.get hx
  obtain⟨⟨old,he⟩,hit⟩:=st
  obtain⟨e0,e1,e2,e3,e4,e5⟩:=hf e (by simp)
  obtain⟨f0,f1,f2,f3,f4,f5⟩:=hf it (by simp)
  have ht:=p.isList
  refine wpAny_pyNext_enum_item (x:=u) he hit ht (by simpa using hu) hei λg hout hit' hT hsz hk=>⟨_,rfl,?_⟩
  refine wpAny_letOwnedTupleGo_enum hout λg' he' hs'=>?_
  have elt:e<s.heap.objs.size:=Heap.lt_size he
  have k2: ∀b o,b≠e->b≠it->s.heap.get? b=some o->g'.get? b=some o:=λb o h1 h2 h3=>(hs'.2 b h1).trans (hk b o h1 h2 h3)
  have hT':g'.get? s.heap.objs.size=some {cls:=.type "tuple",data:=.seq #[.int i s.toks,u]}:=(hs'.2 _ (Nat.ne_of_gt elt)).trans hT
  have hn:H s.heap.objs.size=none:=I.hok.fresh (Nat.le_refl _)
  have I1:Inv X ae σ (cw H s.heap.objs.size (.tup [.int i,x])) {s with heap:=g',toks:=s.toks+1}:=by
   obtain⟨oi,hoi,hci,hdi⟩:=id (show g'.IsListIter it a (i+1) from hit'.at λo y=>(hs'.2 it (Ne.symm hei)).trans y)
   obtain⟨os0,hos0,_⟩:=id hit
   have ilt:it<s.heap.objs.size:=Heap.lt_size hos0
   have I0:Inv X ae σ (cw H s.heap.objs.size (.tup [.int i,x])) {s with heap:=s.heap.push {cls:=.type "tuple",data:=.seq #[.int i s.toks,u]},toks:=s.toks+1}:=
    I.laid (t':=s.toks+1) (λb o q=>Heap.get?_push_of_some _ q) (Nat.le_refl _) (show ObjOk X.prog X.w _ _ _ (.tup [.int i,x]) from
     ⟨Nat.le_of_lt (ja (by simp)),[.int i s.toks,u],.cons ⟨_,rfl⟩ (.cons ru .nil),⟨_,Heap.get?_push_size _ rfl,rfl,_,rfl⟩,_,Heap.get?_push_size _ rfl,rfl⟩)
   have u1:((s.heap.push {cls:=.type "tuple",data:=.seq #[.int i s.toks,u]}).update it λ_=>oi).get? it=some oi:=Heap.get?_update_self (λ_=>oi) (Heap.get?_push_of_some _ hos0) (Obj.isFreed_of_fields hdi)
   have I1:Inv X ae σ (cw H s.heap.objs.size (.tup [.int i,x])) {s with heap:=(s.heap.push {cls:=.type "tuple",data:=.seq #[.int i s.toks,u]}).update it λ_=>oi,toks:=s.toks+1}:=
    I0.turned (t':=s.toks+1) (λb o hb q=>(Heap.get?_update_other _ _ (Ne.symm hb)).trans q) (by rw[aI (Nat.ne_of_lt ilt)];exact f0) f1 f3 f4 f5
   refine I1.turned (t':=s.toks+1) (λb o hb q=>?_) (by rw[aI (Nat.ne_of_lt elt)];exact e0) e1 e3 e4 e5
   by_cases hbi:b=it
   ·subst hbi
    have q':((s.heap.push {cls:=.type "tuple",data:=.seq #[.int i s.toks,u]}).update b λ_=>oi).get? b=some o:=q
    rw[u1] at q';cases q';exact hoi
   ·have q':((s.heap.push {cls:=.type "tuple",data:=.seq #[.int i s.toks,u]}).update it λ_=>oi).get? b=some o:=q
    rw[Heap.get?_update_other _ _ (Ne.symm hbi)] at q'
    by_cases hbT:b=s.heap.objs.size
    ·subst hbT
     rw[Heap.get?_push_size _ rfl] at q';cases q'
     exact hT'
    ·rw[Heap.get?_push_ne _ _ _ hbT] at q'
     exact k2 b o hb hbi q'
  refine⟨.ref s.heap.objs.size,cw H s.heap.objs.size (.tup [.int i,x]),I1,rfl,⟨_,rfl,hn,λys hy=>⟨x,by rw[I.list_inj hy hq];exact hx,rfl⟩⟩,⟨⟨u,by simpa using he'⟩,hit'.at λo y=>(hs'.2 it (Ne.symm hei)).trans y⟩,λb hb=>?_⟩
  rcases List.mem_cons.mp hb with rfl|hb
  ·rw[aI (Nat.ne_of_lt elt)];exact e0
  ·have:b=it:=by simpa using hb
   subst this;obtain⟨o,ho,_⟩:=hit
   rw[aI (Nat.ne_of_lt (Heap.lt_size ho))];exact f0
 done:=by
  intro X hP hw hK hc i ae s σ H E I hf st hg;subst hP hw hK;obtain⟨xs,hq,hx⟩:=hg
  obtain⟨its,rv,p,hz⟩:=I.list hq
  obtain⟨⟨old,he⟩,hit⟩:=st
  obtain⟨f0,f1,f2,f3,f4,f5⟩:=hf it (by simp)
  have hl:=rv.length
  have hh:=I.ok.hd hc
  refine wpAny_pyNext_enum_end hh he hit p.isList (by simp;omega) λg k=>⟨rfl,I.turned (t':=s.toks) (λb o hb z=>k b o hb z) f0 f1 f3 f4 f5⟩
 self:=λ_ _ _ _ _ st h=>let⟨⟨_,he⟩,_⟩:=st;wpAny_pyIter_enum he h
section
variable {X:Cx}{c:Ct}{k:Kd}{es:List Expr}{x1:Nat}{tp pos p:Pos}
def pr(f:FE):FA:=λρ=>(f ρ).bind λd=>match d with
 | .lst ds=>some (oQ ds)
 |_=>none
theorem so {K:W.Frag}{W:Hp}{a:Addr}{xs:List V}{ds:List D}(h1:SqL K W a xs)(h2:Reps K W xs ds):ItOk K W (D5 K a) (oQ ds):=by
 have l:=h2.length
 have el:(oQ ds).length=ds.length:=by simp[oQ]
 refine⟨λi d H e s=>?_,λH s=>⟨_,Same.seq s h1,by rw[el,<-l];exact Nat.le_refl _⟩⟩
 have hi:i<ds.length:=by rw[<-el];exact(List.getElem?_eq_some_iff.mp e).1
 have ex:xs[i]? =some xs[i]:=List.getElem?_eq_getElem (by omega)
 refine⟨⟨_,xs[i],Same.seq s h1,ex⟩,λy H' ⟨T,e2,hT,e3⟩=>?_⟩
 subst e2;obtain⟨z,e4,e5⟩:=e3 _ (Same.seq s h1)
 subst e5;refine⟨bd hT _,λhid tr sw=>?_⟩
 have hf:hid T=false:=by
  cases eh:hid T with
  |false=>rfl
  |true=>obtain⟨o,ho⟩:=tr T eh;rw[hT] at ho;cases ho
 obtain⟨d',e6,r6⟩:=h2.get' e4
 have ed:d=.tup [.int i,d']:=by
  unfold oQ at e;rw[List.getElem?_map,List.getElem?_range hi] at e;have:ds.getD i .non=d':=by simp[List.getD,e6]
  rw[Option.map_some,this] at e;exact(Option.some.inj e).symm
 rw[ed];exact iU hT hf (.cons .int (.cons (r6.mono sw) .nil))
theorem kq {iter:Expr}{f:FE}(h:DP X c .s iter f)(hm:X.mg "enumerate"=none)(hg:Gl X "enumerate":=by rfl)(hs:starEach [iter] X.env=[(false,eval iter X.env)]:=by rfl):DIp X c (.Tuple es x1 tp) (.Call (.Name "enumerate" p) [iter] [] pos) (pr f):=by
 intro hid ρ ae s σ H R I hq;obtain⟨sr,ds,hd,q⟩:=hq
 unfold pr at hd;cases e1:f ρ with
 |none=>rw[e1] at hd;cases hd
 |some z=>
  rw[e1] at hd;cases z with
  |lst us=>
   cases hd
   refine Call_ (ml (u:=.type "enumerate") I hg hm (by kernel_rfl) (PyProof.Rows.callWith_type1 (cI (aV (h hid ρ) cv hs pos ae s σ H (λvs H'=> ∃v,vs=[v]/\Same H H'/\Rep X.K (vw H' hid) v (.lst us)) I ⟨sr,_,e1,λv H' s' r=>⟨v,rfl,s',r⟩⟩) λvs s1 ⟨ws,H1,I1,r1,w,e,s',r⟩=>?_) hs rfl))
   subst e;cases r1 with
   |cons ra rb=>
    cases rb
    cases r with
    |lst t1 t2=>
     cases ra
     have t1':SqL X.K (vw H1 hid) _ _:=SqL.of t1
     obtain⟨its,n,rv,pt,hz⟩:=I1.lst (eT _ _ _ _ t1)
     refine mX pt λg he hit hsz hk=>?_
     refine wpAny_pyIter_enum he ⟨_,[s1.heap.objs.size+1,s1.heap.objs.size],_,_,H1,rfl,I1.kept (t':=s1.toks) λb o e=>hk b o e,rZ _ _ _ (Nat.ne_of_gt (Nat.lt_succ_self _)),⟨⟨_,he⟩,hit⟩,λb hb=>?_,q _ H1 s' (so t1' t2)⟩
     rcases List.mem_cons.mp hb with rfl|hb
     ·exact I1.fpOk (Nat.le_succ _) (I1.hok.fresh (Nat.le_succ _))
     ·have:b=s1.heap.objs.size:=by simpa using hb
      subst this;exact I1.fpOk (Nat.le_refl _) (I1.hok.fresh (Nat.le_refl _))
  |_=>cases hd
end
set_option maxHeartbeats 1000000
section
variable {X:Cx}{c:Ct}{a b:Expr}{f g:FE}{pos:Pos}
theorem B6(ha:QP X c a f)(hb:QP X c b g)(hs:n9 b):QP X c (.Subscript a b pos) (aq bn f g):=.of (aU aH aT ha.dp hb.dp hs)
end
open PySem PyProof.Rows
set_option maxHeartbeats 2000000
set_option maxHeartbeats 1000000
open PySem PySem.W PySem.Calls PyProof.Rows
open PySem PySem.W PyProof.Rows
open PySem PySem.W PyProof.Rows PySem.Builtin
set_option maxHeartbeats 3200000
set_option maxHeartbeats 1000000
open PySem PySem.W PySem.Spec PyProof.Rows
def nT(p:Int×Bool):D:=.tup [.int p.1,.bl p.2]
def x0(p:Addr)(i j:Int)(h:Heap):Prop:= ∃t u v,h.get? p=some {cls:=.type "range",data:=.fields #[.int i t,.int j u,.int (-1) v]}
section
variable {X:Cx}{c:Ct}{k k2 k3:Kd}{a b m:Expr}{f g fm:FE}{pos p p2 p3:Pos}
theorem um:dH X (.type "range") (λxs H Q=> ∃i j:Int,xs=[.int i,.int j,.int (-1)]/\ ∀p,H p=none->Q (.ref p) (cw H p (.ext (x0 p i j)))):=by
 intro ae s σ H xs us Q I r h;obtain⟨i,j,rfl,q⟩:=h
 cases r with
 |cons r1 r=>
  cases r with
  |cons r2 r=>
   cases r with
   |cons r3 r=>
    cases r
    obtain⟨t1,rfl⟩:=r1
    obtain⟨t2,rfl⟩:=r2
    obtain⟨t3,rfl⟩:=r3
    refine call_range_3 (by decide) ⟨.ref s.heap.objs.size,_,I.laid (λb o e=>Heap.get?_push_of_some _ e) (Nat.le_refl _) ?_,rfl,q _ (I.hok.fresh (Nat.le_refl _))⟩ (Or.inl (PyProof.noPylong_small (by decide)))
    exact⟨⟨_,_,_,Heap.get?_push_size _ rfl⟩,⟨_,Heap.get?_push_size _ rfl⟩,λh1 h2 ⟨t,u,v,e⟩ k=>⟨t,u,v,k _ e⟩⟩
def Bd(i:Int)(n:Nat):List D:=(List.range n).map λ(k:Nat)=>D.int (i-k)
theorem Cf(lo:Int)(n:Nat): ∀ {K:W.Frag} {F:Hp},Reps K F ((List.range n).map λ(i:Nat)=>V.int (lo-i)) (Bd lo n):=by
 intro K F;unfold Bd
 generalize List.range n=l
 induction l with
 |nil=>exact .nil
 |cons a l ih=>exact .cons .int ih
theorem ms(hc:X.calm=true):dH X (.type "list") (λxs H Q=> ∃p i j,xs=[.ref p]/\H p=some (.ext (x0 p i j))/\i.natAbs<=1000/\j.natAbs<=1000/\ ∀l,H l=none->Q (.ref l) (cw H l (.lst ((List.range (i-j).toNat).map λ(k:Nat)=>V.int (i-k))))):=by
 intro ae s σ H xs us Q I r h;obtain⟨p,i,j,rfl,hp,b1,b2,q⟩:=h
 obtain⟨u,rfl,rx⟩:=gH r
 cases rx
 obtain⟨⟨t,u,v,hr⟩,_⟩:=(show ObjOk X.prog X.w H s.heap p (.ext (x0 p i j)) from I.hok p _ hp)
 have hsz:Builtin.Range.rangeSize i j (-1)=(i-j).toNat:=by
  unfold Builtin.Range.rangeSize;rw[if_neg (by decide)]
  split
  ·rw[Int.neg_neg,Int.ediv_one];omega
  ·omega
 refine call_list_range (a:=i) (b:=j) (c:= -1) (n:=(i-j).toNat) (I.ok.hd hc) hr ?_ hsz (by omega) λh' tk acc' c' kp hS hacc=>?_
 ·unfold Builtin.Range.small
  rw[hsz];simp only[Builtin.Range.rangeFitsLong,Bool.and_eq_true,Bool.or_eq_true,decide_eq_true_eq,beq_iff_eq,show¬((-1:Int)>0) by decide,if_false]
  omega
 ·have hz:(i-j).toNat<=sizeLine:=by rw[sizeLine_eq];omega
  refine⟨.ref s.heap.objs.size,_,I.laid (t':=tk) kp (Nat.le_refl _) (show ObjOk X.prog X.w _ h' _ (.lst _) from⟨by simpa using hz,acc'.toList,c',?_,by simpa using hS⟩),rfl,q _ (I.hok.fresh (Nat.le_refl _))⟩
  obtain⟨ha,hb⟩:=hacc
  have key: ∀(l:List Value) (k m:Nat),l.length=m->(∀(n:Nat) v,l[n]? =some v-> ∃t,v=.int (i+((k+n:Nat):Int)*(-1)) t)->Vals ((List.range' k m).map λ(n:Nat)=>V.int (i-n)) l:=by
   intro l
   induction l with
   |nil=>intro k m hm _;subst hm;exact .nil
   |cons x l ih=>
    intro k m hm hv;subst hm;rw[List.length_cons,List.range'_succ];refine .cons ?_ (ih (k+1) l.length rfl λn v e=>?_)
    ·obtain⟨t,rfl⟩:=hv 0 x rfl
     exact⟨t,by congr 1;omega⟩
    ·obtain⟨t,rfl⟩:=hv (n+1) v (by simpa using e)
     exact⟨t,by congr 3;omega⟩
  have:=key acc'.toList 0 (i-j).toNat (by simpa using ha) λn v e=>by
   have:=hb n v (by simpa using e)
   simpa using this
  rw[List.range_eq_range'];exact this
def Dy:D->D->D->Option D
 | .int i,.int j,.int k=>if k= -1/\i.natAbs<=1000/\j.natAbs<=1000 then some (.lst (Bd i (i-j).toNat)) else none
 |_,_,_=>none
def CI(f g m:FE):FE:=λρ=>(f ρ).bind λx=>(g ρ).bind λy=>(m ρ).bind λz=>Dy x y z
theorem mV(hc:X.calm=true)(hml:X.mg "list"=none)(hmr:X.mg "range"=none)(he:DP X c k a f)(hf:DP X c k2 b g)(hm:DP X c k3 m fm)(hgl:Gl X "list":=by rfl)(hgr:Gl X "range":=by rfl)(hvl:bootBuiltins "list"=some (.type "list"):=by kernel_rfl)(hvr:bootBuiltins "range"=some (.type "range"):=by kernel_rfl)
 (hs1:starEach [a,b,m] X.env=(false,eval a X.env)::starEach [b,m] X.env:=by rfl) (hs3:starEach [b,m] X.env=(false,eval b X.env)::starEach [m] X.env:=by rfl) (hs4:starEach [m] X.env=(false,eval m X.env)::starEach [] X.env:=by rfl) (hpl1:(backTo pos (starEach [] X.env)).any (·.1)=false:=by rfl) (hpl2:(backTo p2 (starEach [b,m] X.env)).any (·.1)=false:=by rfl)
 (hs2:starEach [.Call (.Name "range" p3) [a,b,m] [] p2] X.env=(false,eval (.Call (.Name "range" p3) [a,b,m] [] p2) X.env)::starEach [] X.env:=by rfl):
 DP X c .n (.Call (.Name "list" p) [.Call (.Name "range" p3) [a,b,m] [] p2] [] pos) (CI f g fm):=λhid ρ=>
 PE.imp (eB (ms hc) hgl hml hvl (aV (eB um hgr hmr hvr (aV (he hid ρ) (aV (hf hid ρ) (aV (hm hid ρ) cv hs4) hs3) hs1) (by decide) (by decide) hs1 hpl2) cv hs2) (by decide) (by decide) hs2 hpl1) λσ H Q hq_=>by
  obtain⟨sr,d,hd,q⟩:=hq_
  obtain⟨x,e1,hd⟩:=Option.bind_eq_some_iff.mp hd
  obtain⟨y,e2,hd⟩:=Option.bind_eq_some_iff.mp hd
  obtain⟨z,e4,e3⟩:=Option.bind_eq_some_iff.mp hd
  cases x with
  |int i=>
   cases y with
   |int j=>
    cases z with
    |int k0=>
     have e5:(if k0= -1/\i.natAbs<=1000/\j.natAbs<=1000 then some (D.lst (Bd i (i-j).toNat)) else none)=some d:=e3
     by_cases hb:k0= -1/\i.natAbs<=1000/\j.natAbs<=1000
     ·rw[if_pos hb] at e5
      clear e3;obtain⟨h0,b1,b2⟩:=hb
      subst h0;cases e5
      refine⟨sr,_,e1,λv H1 s1 r1=>⟨sr.ext s1,_,e2,λu H2 s2 r2=>⟨(sr.ext s1).ext s2,_,e4,λw H3 s3 r3=>?_⟩⟩⟩
      have i1:=(RK.b k r1 λa n=>sr.fresh n).int
      have i2:=(RK.b k2 r2 λa n=>(sr.ext s1).fresh n).int
      have i3:=(RK.b k3 r3 λa n=>((sr.ext s1).ext s2).fresh n).int
      subst i1 i2 i3;refine⟨i,j,rfl,λr hr=>?_⟩
      refine⟨r,i,j,rfl,aY,b1,b2,λl hl=>?_⟩
      have s4:Same H (cw H3 r (.ext (x0 r i j))):=((s1.trans s2).trans s3).trans (bd hr _)
      exact q _ _ (s4.trans (bd hl _)) (lR hl s4 (Cf _ _))
     ·rw[if_neg hb] at e5;cases e5
    |_=>cases e3
   |_=>cases e3
  |_=>cases e3
end
open PySem PySem.Spec PyProof.Rows HT
section
variable {X:Cx}{c:Ct}{e o:Expr}{k k2:Kd}{f g:FE}{pos p p2 apos:Pos}
theorem qq(hu:X.A.units+64<cLine):Cw X "list.count" (λv vs H Q=> ∃a xs ds x y,v=.ref a/\vs=[x]/\SqL X.K H a xs/\Reps X.K H xs ds/\Rep X.K H x y/\ck ds<=32/\Q (.int ((ds.countP λz=>cu z y:Nat):Int)) H):=by
 intro ae s σ H v vs u us Q I rv rs h;obtain⟨a,xs,ds,x,y,rfl,rfl,h1,h2,h3,h4,q⟩:=h
 cases rv
 obtain⟨w,rfl,rw'⟩:=gH rs
 obtain⟨its,r,pl,hz⟩:=I.list h1
 have l1:=r.length
 have l2:=h2.length
 obtain⟨e,g1,g2⟩:=ou (A:=X.A.in1.in1) I h3 rw' h2 r (by rw[cT,cT];omega)
 obtain⟨⟨cls,dd,data,sl⟩,n,ho,hc,hd0,hd⟩:=id pl
 simp only at hc hd;subst hc hd;have em:its.map e=ds.map λz=>cu z y:=List.ext_getElem (by simp;omega) λm h1 h2=>by
  rw[List.getElem_map,List.getElem_map];exact g2 m (by simpa using h1) _ (List.getElem?_eq_getElem (by simpa using h2))
 have ec:its.countP e=ds.countP λz=>cu z y:=by
  have e1:its.countP e=(its.map e).countP id:=by rw[List.countP_map];rfl
  rw[e1,em,List.countP_map];rfl
 refine call_meets PySem.F.slot_list_count ⟨_,ho,rfl⟩ PySem.F.entry_list_count (PySem.F.args_list_count_2 _ _) (SeqAt.list_countAt a its.toArray n dd sl w e) ⟨ho,?_,?_⟩
 ·intro z hz'
  exact SeqAt.EqAt.of_in1 (g1 z (by simpa using hz'))
 ·show EP X ae σ Q (.int ((its.countP e:Nat):Int) s.toks) _
  rw[ec];exact⟨.int ((ds.countP λz=>cu z y:Nat):Int),H,I.tok _,⟨_,rfl⟩,q⟩
def vM:D->D->Option D:=λt x=>match t with
 | .lst ds=>if ck ds<=32 then some (.int ((ds.countP λz=>cu z x:Nat):Int)) else none
 |_=>none
theorem qD(hu:X.A.units+64<cLine)(ho:DP X c k o f)(he:DP X c k2 e g)
 (hbase:attributeBase o "count" X.env (eval o X.env)=eval o X.env:=by rfl)
 (hfew:((backTo pos (starEach [e] X.env)).all (λx=> !x.1)&&(backToKw pos (keywordEach [] X.env)).all (λx=>x.1.isSome)
   &&decide (([e]:List Expr).length+([]:List Keyword).length+(if([]:List Keyword).isEmpty then 0 else 1)<30))=true:=by rfl)
 (hline:(apos.endLine==pos.line)=true:=by rfl) (hs:starEach [e] X.env=(false,eval e X.env)::starEach [] X.env:=by rfl) (hplain:(backTo pos (starEach [] X.env)).any (·.1)=false:=by rfl):
 DP X c .s (.Call (.Attribute o "count" apos) [e] [] pos) (aq vM f g):=λhid ρ=>
 PE.imp (qb PySem.F.plainAttrs_list PySem.F.slot_list_count PySem.F.type_list_count (qq hu) (ho hid ρ) (aV (he hid ρ) cv hs) hbase hfew hline hs hplain) λσ H Q hq_=>by
  obtain⟨sr,d,hd,q⟩:=hq_
  obtain⟨x,y,e1,e2,e3⟩:=iN hd
  unfold vM at e3;split at e3
  ·split at e3
   ·rename_i ds _
    cases e3
    refine⟨sr,_,e1,λv H1 s1 r1=>?_⟩
    have b1:=RK.b k r1 λa n=>sr.fresh n
    obtain⟨a,xs,rfl,t2,t3⟩:=b1.lst
    refine⟨.inl ⟨rfl,xs,t2⟩,sr.ext s1,y,e2,λu H2 s2 r2=>?_⟩
    have b2:=RK.b k2 r2 λa n=>(sr.ext s1).fresh n
    exact⟨a,xs,ds,u,y,rfl,rfl,s2.seq t2,(t3.mono (aN s2)).mono (eT _ _),b2.full, ‹_›,q _ H2 (s1.trans s2) .int⟩
   ·cases e3
  ·cases e3
end
section
variable {prog:Program}{w:World}{A:Around}{E:Value->Shared->Prop}{s:Shared}
theorem rA(n:Nat):Builtin.Slice.slicePlaces ((n:Int) -1) (-1) (-1)=n:=by
 unfold Builtin.Slice.slicePlaces;rw[if_neg (by decide)]
 by_cases h:(n:Int) -1> -1
 ·rw[if_pos h,Int.neg_neg,Int.ediv_one];omega
 ·rw[if_neg h];omega
theorem kD {sl:Addr}{vs:Value}{n:Nat}{Q:Int×Int×Nat->Shared->Prop}(hs:s.heap.IsSliceOf sl .none .none vs)(ps:IsPart vs (some (-1)))
 (h:Q ((n:Int) -1, -1,n) s):wpAny (model prog w) A (Builtin.Slice.sliceApplied (.ref sl) (pure (n:Int))) Q E s:=by
 obtain⟨os,hos,hcs,hds⟩:=id hs
 unfold Builtin.Slice.sliceApplied Builtin.Slice.sliceFields;refine wpAny_bind (wpAny_bind (wpAny_field hos hds (x:=.none) rfl (wpAny_bind (wpAny_field hos hds (x:=.none) rfl (wpAny_bind (wpAny_field hos hds (x:=vs) rfl (wpAny_pure ?_)))))))
 refine wpAny_bind (rT ps ?_)
 show wpAny _ _ (if((-1:Int)==0)=true then _ else _) _ _ s
 rw[if_neg (by decide)]
 refine wpAny_bind (slicePart_none (wpAny_bind (slicePart_none (wpAny_bind (wpAny_pure ?_)))))
 show wpAny _ _ (pure ((n:Int) -1,(-1:Int),Builtin.Slice.slicePlaces ((n:Int) -1) (-1) (-1))) _ _ s;rw[rA];exact wpAny_pure h
theorem uQ(its:List Value):(List.range its.length).filterMap (λ(k:Nat)=>its.toArray[((its.length:Int) -1+(k:Int)*(-1)).toNat]?)=its.reverse:=by
 have e: ∀k∈List.range its.length,its.toArray[((its.length:Int) -1+(k:Int)*(-1)).toNat]? =its.toArray[its.length-1-k]? :=λk hk=>by
  have:=List.mem_range.mp hk
  rw[show((its.length:Int) -1+(k:Int)*(-1)).toNat=its.length-1-k by omega]
 have e2:(List.range its.length).filterMap (λ(k:Nat)=>its.toArray[((its.length:Int) -1+(k:Int)*(-1)).toNat]?)=(List.range its.length).filterMap ((λx:Nat=>its.toArray[x]?)∘λk=>its.length-1-k):=by
  generalize List.range its.length=l at e⊢
  induction l with
  |nil=>rfl
  |cons a l ih=>
   have h1:=e a List.mem_cons_self
   have h2:=ih λk hk=>e k (List.mem_cons_of_mem _ hk)
   rw[List.filterMap_cons,List.filterMap_cons,h2,h1];rfl
 rw[e2,<-List.filterMap_map,W.krv_range,List.filterMap_reverse];have:List.filterMap (λx=>its.toArray[x]?) (List.range its.length)=its:=by
  have:=PySem.List.filterMap_getElem?_range_length its
  simpa using this
 rw[this]
theorem j4 {t sl:Addr}{its:List Value}{vs:Value}{Q:Value->Shared->Prop}(ht:IsTup s.heap t its.toArray)(hs:s.heap.IsSliceOf sl .none .none vs)(ps:IsPart vs (some (-1)))
 (h:Q (.ref s.heap.objs.size) {s with heap:=s.heap.push {cls:=.type "tuple",data:=.seq its.reverse.toArray}})
 (hsz:its.length<=sizeLine):wpAny (model prog w) A (getItem (.ref t) (.ref sl)) Q E s:=by
 have htake:sizeOk (.seq its.reverse.toArray):=by
  show its.reverse.toArray.size<=sizeLine;rw[List.size_toArray,List.length_reverse];exact hsz
 obtain⟨os,hos,hcs,hds⟩:=id hs
 have hTs:s.TypeIs (.ref sl) "slice":=⟨os,hos,hcs⟩
 unfold getItem
 try with_reducible refine wpAny_holding ?_
 first|refine wpAny_bind (wpAny_pure ?_)|skip
 refine wpAny_bind (wpAny_sequenceKey ht.typeIs (by decide) ?_)
 refine wpAny_bind (wpAny_callSpecial?_slot (name:=Str.ofString "__getitem__") ht.typeIs PyProof.Rows.slot_tuple_getitem
  (wpAny_call_entry PyProof.Rows.slot_tuple_getitem ht.typeIs entry_tuple_getitem ?_ (args_tuple_getitem _ _)))
 show wpAny _ _ (Builtin.Tuple.tupleItemsOf (.ref t)>>=_) _ _ s;refine wpAny_bind (tupleItemsOf_ ht ?_)
 refine wpAny_bind (wpAny_typeOf hTs ?_)
 rw[if_pos (by decide),List.size_toArray]
 refine wpAny_bind (kD (n:=its.length) hs ps ?_)
 have hno: ¬((((its.length:Int) -1)==0&&(-1:Int)==1&&its.length==its.length)=true):=by
  rw[show((-1:Int)==1)=false from rfl];simp
 show wpAny _ _ (if(((its.length:Int) -1)==0&&(-1:Int)==1&&its.length==its.length)=true then _ else _) _ _ s
 rw[if_neg hno,uQ]
 first
  |exact wpAny_bind (m:=Builtin.Tuple.tupleExact _) (wpAny_newObj_type (wpAny_pure ⟨_,rfl,wpAny_pure h⟩) htake)
  |exact wpAny_bind (m:=Builtin.Tuple.tupleExact _) (wpAny_newObj_type (wpAny_bind (wpAny_pure (wpAny_pure ⟨_,rfl,wpAny_pure h⟩))) htake)
  |exact wpAny_bind (wpAny_bind (m:=Builtin.Tuple.tupleExact _) (wpAny_newObj_type (wpAny_pure (wpAny_pure ⟨_,rfl,wpAny_pure h⟩)) htake))
  |exact wpAny_bind (wpAny_bind (m:=Builtin.Tuple.tupleExact _) (wpAny_newObj_type (wpAny_pure ⟨_,rfl,wpAny_pure h⟩) htake))
end
section
variable {X:Cx}{c:Ct}{e st:Expr}{k:Kd}{te:TE}{ts:TO}{f:FE}{pos p2:Pos}
theorem sj(he:PE X e te)(hst:PO X (some st) ts)(hno: ∀(v:Value) (sl:Addr),subscripted (.Slice none none (some st) p2) false v (.ref sl)=operate [v,.ref sl] (getItem v (.ref sl)):=by intro _ _;with_unfolding_all rfl):
 PE X (.Subscript e (.Slice none none (some st) p2) pos) (λσ H Q=>te σ H λx H1=>ts σ H1 λo H2=>o=some (-1)/\ ∃a xs,x=.ref a/\SqT X.K H2 a xs/\ ∀p,H2 p=none->Q (.ref p) (cw H2 p (.tup xs.reverse))):=by
 intro ae s σ H Q I h;refine Subscript_ (cI (he ae s σ H _ I h) λv s1 hq_=>?_)
 obtain⟨x,H1,I1,r1,q1⟩:=hq_
 refine wpAny_Slice ?_
 rw[evalPart_none];refine wpAny_pure (wpAny_pure (cI (hst ae s1 σ H1 _ I1 q1) λvs s2 hq_=>?_))
 obtain⟨o,H2,I2,po,e0,a,xs,e1,hx,q⟩:=hq_
 subst e0 e1;cases r1
 have I4:Inv X ae σ H2 {s2 with heap:=s2.heap.push {cls:=.type "slice",data:=.fields #[.none,.none,vs]}}:=I2.kept (t':=s2.toks) λb ob q=>Heap.get?_push_of_some _ q
 obtain⟨its,r,ht,hz⟩:=I4.tuple hx
 have hlen:=r.length
 show wpAny (model X.prog X.w) X.A (subscriptTail e (.Slice none none (some st) p2) (.ref a) (.ref s2.heap.objs.size)) (EP X ae σ Q) X.xe {s2 with heap:=s2.heap.push {cls:=.type "slice",data:=.fields #[.none,.none,vs]}}
 refine tail_any (ops:=[.ref a,.ref s2.heap.objs.size]) ht.typeIs PyProof.Rows.slot_tuple_getitem.lookup ?_ (hno _ _)
 refine j4 ht (Heap.IsSliceOf.new ..) po ?_ (by omega)
 refine⟨.ref _,_,I4.laid (t':=s2.toks) (o:=.tup xs.reverse) (λb ob q=>Heap.get?_push_of_some _ q) (Nat.le_refl _) ?_,rfl,q _ (I4.hok.fresh (Nat.le_refl _))⟩
 exact⟨by rw[List.length_reverse];exact hz,_,wD r,IsTup.new _ _,_,Heap.get?_push_size _ rfl,rfl⟩
def uj(f:FE)(o:FO):FE:=λρ=>(f ρ).bind λd=>match d with
 | .tup ds=>(o ρ).bind λz=>if z=some (-1) then some (.tup ds.reverse) else none
 |_=>none
theorem tT {o:FO}(he:DP X c k e f)(hs:DO X c (some st) o)(hno: ∀(v:Value) (sl:Addr),subscripted (.Slice none none (some st) p2) false v (.ref sl)=operate [v,.ref sl] (getItem v (.ref sl)):=by intro _ _;with_unfolding_all rfl):
 DP X c .s (.Subscript e (.Slice none none (some st) p2) pos) (uj f o):=λhid ρ=>PE.imp (sj (he hid ρ) (hs hid ρ) hno) λσ H Q hq_=>by
 obtain⟨sr,d,hd,q⟩:=hq_
 unfold uj at hd;obtain⟨z,e1,hd⟩:=Option.bind_eq_some_iff.mp hd
 split at hd
 ·obtain⟨w,e2,hd⟩:=Option.bind_eq_some_iff.mp hd
  split at hd
  ·rename_i ew
   subst ew;cases hd
   refine⟨sr,_,e1,λv H1 s1 r1=>⟨sr.ext s1,_,e2,λH2 s2=>⟨rfl,?_⟩⟩⟩
   obtain⟨a,xs,rfl,_,h1,h2⟩:=((RK.b k r1 λa n=>sr.fresh n).ext s2).tup
   exact⟨a,xs,rfl,h1,λp hp=>q _ _ ((s1.trans s2).trans (bd hp _)) (iU hp (((sr.ext s1).ext s2).fresh hp) h2.reverse)⟩
  ·cases hd
 ·cases hd
end
section
variable {X:Cx}{c:Ct}{e a b:Expr}{k:Kd}{pos p:Pos}{x:Str}
theorem wd {op:Operator}{r:R2}{F:D->D->Option D}{f:RE}{g:FE}{k1 k2:Kd}(ho:jV X (binaryOp op) r)(hF:kL X.K k r F)(ha:DR X c k1 a f)(hb:DP X c k2 b g)(hk1:k1≠ .b:=by decide):DR X c k (.BinOp a op b pos) (nW F f g):=λhid ρ=>
 PE.imp (sy ho (ha hid ρ) (hb hid ρ)) λσ H Q h=>Dc hk1 hF h
def qN(F:D->D->Option D)(f:FE)(g:RE):RE:=λρ=>(f ρ).bind λx=>(g ρ).bind λr=>match r with
 | .error z=>some (.error z)
 | .ok y=>(F x y).map .ok
theorem Aq {op:Operator}{r:R2}{F:D->D->Option D}{f:FE}{g:RE}{k1 k2:Kd}(ho:jV X (binaryOp op) r)(hF:kL X.K k r F)(ha:DP X c k1 a f)(hb:DR X c k2 b g)(hk2:k2≠ .b:=by decide):DR X c k (.BinOp a op b pos) (qN F f g):=λhid ρ=>
 PE.imp (sy ho (ha hid ρ) (hb hid ρ)) λσ H Q hq_=>by
  obtain⟨sr,d,hd,q⟩:=hq_
  unfold qN at hd;obtain⟨x,e1,hd⟩:=Option.bind_eq_some_iff.mp hd
  obtain⟨r1,e2,hd⟩:=Option.bind_eq_some_iff.mp hd
  refine⟨sr,x,e1,λv H1 s1 rv=>⟨sr.ext s1,r1,e2,?_⟩⟩
  cases r1 with
  |error z=>cases hd;exact λC H' s2 n=>q C H' (s1.trans s2) n
  |ok y=>
   have hd:(F x y).map Except.ok=some d:=hd
   cases e3:F x y with
   |none=>rw[e3] at hd;cases hd
   |some z=>
    rw[e3] at hd;cases hd;refine λu H2 s2 r2=>?_
    have b1:=(RK.b k1 rv λa n=>sr.fresh n).ext s2
    have b2:=RK.b k2 r2 λa n=>(sr.ext s1).fresh n
    exact hF H2 hid v u x y z Q (λa n=>((sr.ext s1).ext s2).fresh n) e3 b1 b2 λw H' s3 r3=>q w H' ((s1.trans s2).trans s3) (RK.left (s1.trans s2) r3)
end
def qz(ns:List Int):Nat:=(firstMet (λi=>ns.getD i 0) ns.length).length
section
variable {X:Cx}
theorem uD(hc:X.calm=true):dH X (.type "set") (λxs H Q=> ∃l ns,xs=[.ref l]/\SqL X.K H l (ns.map V.int)/\ns.length<=1000/\ ∀a S,H a=none->Q (.ref a) (cw H a (.set S (qz ns)))):=by
 intro ae s σ H xs us Q I r h;obtain⟨l,ns,rfl,hL,hn,q⟩:=h
 obtain⟨u,rfl,rx⟩:=gH r
 cases rx
 obtain⟨its,r,hl,z1⟩:=I.list hL
 have el:its.length=ns.length:=by have:=r.length;rw[List.length_map] at this;exact this.symm
 refine PySem.call_set_list (items:=its.toArray) (ns:=ns) (I.ok.hd hc) ?_ (by simpa using mz r) (by simp only[List.size_toArray];unfold scanBound;omega) λh' tk hS hk=>?_
 ·obtain⟨o,n,e,c1,d1,t1⟩:=hl
  exact⟨o,e,c1,n,by first|exact d1|exact t1⟩
 ·have es:its.toArray.size=ns.length:=by rw[List.size_toArray,el]
  rw[es] at hS;exact⟨.ref s.heap.objs.size,_,I.laid (t':=tk) (λb o e=>hk b o (Heap.lt_size e) e) (Nat.le_refl _) (show ObjOk X.prog X.w _ _ _ (.set _ (qz ns)) from hS),rfl,q _ _ (I.hok.fresh (Nat.le_refl _))⟩
theorem uM:dH X (.builtin "len") (λxs H Q=> ∃a S n,xs=[.ref a]/\H a=some (.set S n)/\Q (.int n) H):=by
 intro ae s σ H xs us Q I r h;obtain⟨a,S,n,rfl,hH,q⟩:=h
 obtain⟨u,rfl,rx⟩:=gH r
 cases rx
 obtain⟨o,es,ep,t,ho,hex,hd,_,_,hb,hf,rfl⟩:=(show ObjOk X.prog X.w H s.heap a (.set S n) from I.hok a _ hH)
 exact call_len_set ho hex hd hf (by unfold scanBound at hb;omega) ⟨.int es.size,H,I.tok _,⟨s.toks+1,rfl⟩,q⟩
def qB(f:FE):FE:=λρ=>(f ρ).bind λd=>match d with
 | .lst ds=>(gl ds).bind λns=>if ns.length<=1000 then some (.int (qz ns)) else none
 |_=>none
variable {c:Ct}{k:Kd}{e:Expr}{f:FE}{pos p p1 q1:Pos}
theorem uo(hcm:X.calm=true)(hm:X.mg "len"=none)(hms:X.mg "set"=none)(he:DP X c k e f)(hg:Gl X "len":=by rfl)(hgs:Gl X "set":=by rfl)(hv:bootBuiltins "len"=some (.builtin "len"):=by kernel_rfl)(hvs:bootBuiltins "set"=some (.type "set"):=by kernel_rfl)
 (he1:starEach [e] X.env=(false,eval e X.env)::starEach [] X.env:=by rfl) (he3:starEach [.Call (.Name "set" p1) [e] [] q1] X.env=(false,eval (.Call (.Name "set" p1) [e] [] q1) X.env)::starEach [] X.env:=by rfl) (hpl: ∀pos,(backTo pos (starEach [] X.env)).any (·.1)=false:=by intro _;rfl):
 DP X c .s (.Call (.Name "len" p) [.Call (.Name "set" p1) [e] [] q1] [] pos) (qB f):=λhid ρ=>
 PE.imp (gW uM hg hm hv (aV (eB (uD hcm) hgs hms hvs (aV (he hid ρ) cv he1) (by decide) (by decide) he1 (hpl _)) cv he3) (by decide) (by decide) he3 (hpl _)) λσ H Q hq_=>by
  obtain⟨sr,d,hd,q⟩:=hq_
  unfold qB at hd;obtain⟨d0,e0,hd⟩:=Option.bind_eq_some_iff.mp hd
  split at hd
  ·rename_i ds
   obtain⟨ns,e1,hd⟩:=Option.bind_eq_some_iff.mp hd
   split at hd
   ·rename_i hl
    cases hd
    have:=j7 e1;subst this
    refine⟨sr,_,e0,λv H1 s1 r1=>?_⟩
    obtain⟨l,xs,rfl,h1,h2⟩:=(RK.b k r1 λa n=>sr.fresh n).lst
    have:=fz h2;subst this
    refine⟨l,ns,rfl,h1,hl,λa S ha=>⟨a,S,qz ns,rfl,aY,q _ _ (s1.trans (bd ha _)) ?_⟩⟩
    exact .int
   ·cases hd
  ·cases hd
end
set_option maxHeartbeats 4000000
def jH(i:Nat):Stmt:=PySem.Challenge.pw_rookborders_k73_surfaces.main.body.getD i (.Pass ⟨0,0,0,0⟩)
structure Bt(mg:Str->Option Value):Prop where
 b_ValueError:mg "ValueError"=none
 b_abs:mg "abs"=none
 b_bool:mg "bool"=none
 b_enumerate:mg "enumerate"=none
 b_int:mg "int"=none
 b_isinstance:mg "isinstance"=none
 b_len:mg "len"=none
 b_list:mg "list"=none
 b_max:mg "max"=none
 b_min:mg "min"=none
 b_range:mg "range"=none
 b_set:mg "set"=none
 b_tuple:mg "tuple"=none
def wc:List Str:=["RookError","NoSquare","NoMove","TooMany","NoPart","NotOne","NoPaper","NoText","NoRow","NoStep"]
structure Et(K:W.Frag)(mg:Str->Option Value)(kx0 kx1 kx2 kx3 kx4 kx5 kx6 kx7 kx8 kx9:Addr):Prop where
 t:ExTab K mg kx0 [("RookError",kx0),("NoSquare",kx1),("NoMove",kx2),("TooMany",kx3),("NoPart",kx4),("NotOne",kx5),("NoPaper",kx6),("NoText",kx7),("NoRow",kx8),("NoStep",kx9)]
 o_NotOne:W.excIn K kx5 pp "ValueError.__new__"=true
theorem C8:(["square","rings","crosses","ring"]:List Str).Nodup:=by decide+kernel
theorem BB:(["square","size","column","row"]:List Str).Nodup:=by decide+kernel
theorem xt:(["square","crossings","column","numbers","number","at","row","sign"]:List Str).Nodup:=by decide+kernel
theorem DX:(["square","crossings","column","numbers","number"]:List Str).Nodup:=by decide+kernel
theorem xz:(["square","crossings","row","numbers","number","column","at","sign"]:List Str).Nodup:=by decide+kernel
theorem Dq:(["square","crossings","row","numbers","number"]:List Str).Nodup:=by decide+kernel
theorem CZ:(["square","crossings","line"]:List Str).Nodup:=by decide+kernel
theorem Dw:(["square","word","place"]:List Str).Nodup:=by decide+kernel
theorem C3:(["_law_bag_here","_law_n","_law_plain","_law_by","_law_rings","_law_crosses","_law_c","_law_d","_law_row"]:List Str).Nodup:=by decide+kernel
theorem C0:(["_law_cells","_law_names","_law_place","_law_cell_here","_law_other","_law_one","_law_two","_law_at"]:List Str).Nodup:=by decide+kernel
theorem Bv:(["_law_cells","_law_names","_law_place","_law_cell_here","_law_other","_law_one","_law_two","_law_name"]:List Str).Nodup:=by decide+kernel
theorem Cs:(["_law_bag_here","_law_six","_law_by","_law_up","_law_ways","_law_square_here","_law_n","_law_marks"]:List Str).Nodup:=by decide+kernel
theorem BX:(["_law_bag_here","_law_six","_law_by","_law_up","_law_ways","_law_square_here","_law_n","_law_marks","_law_c"]:List Str).Nodup:=by decide+kernel
theorem va:(["_law_script","_law_k","_law_bag_here","_law_way_here","_law_square_here","_law_found","_law_cells","_law_column","_law_row","_law_over"]:List Str).Nodup:=by decide+kernel
section
variable {P:Program}{w:World}{K:W.Frag}{mg:Str->Option Value}{base:Heap}{kx0 kx1 kx2 kx3 kx4 kx5 kx6 kx7 kx8 kx9:Addr}
abbrev bQ:Stmt:=jH 12
abbrev dS:Stmt:=jH 14
abbrev bL:Stmt:=jH 15
abbrev bT:Stmt:=jH 17
abbrev fc:Stmt:=jH 18
abbrev cR:Stmt:=jH 19
abbrev cq:Stmt:=jH 20
abbrev ft:Stmt:=jH 21
abbrev bO:Stmt:=jH 22
abbrev bN:Stmt:=jH 23
abbrev dq:Stmt:=jH 24
abbrev fw:Stmt:=jH 25
abbrev dU:Stmt:=jH 26
abbrev bK:Stmt:=jH 28
abbrev dh:Stmt:=jH 29
abbrev cQ:Stmt:=jH 30
abbrev dO:Stmt:=jH 32
abbrev eZ:Stmt:=jH 33
abbrev dP:Stmt:=jH 34
abbrev dl:Stmt:=jH 35
abbrev cM:Stmt:=jH 36
abbrev de:Stmt:=jH 37
abbrev eg:Stmt:=jH 38
abbrev cO:Stmt:=jH 39
abbrev cn:Stmt:=jH 40
abbrev eX:Stmt:=jH 41
abbrev eo:Stmt:=jH 42
abbrev dW:Stmt:=jH 43
abbrev cP:Stmt:=jH 44
abbrev dk:Stmt:=jH 45
abbrev jr:Stmt:=jH 46
theorem sc_order_rounds:FnScope ["order","rounds","start","places"] ["order"] (aj bQ):=⟨rfl,rfl,rfl,by decide+kernel,rfl,by decide+kernel,by decide+kernel⟩
def gq:FS:=
 aB (eI 1 (bS (ah)))
 (aB (fQ (cm (dc (aa (ak bD (aa (ai 0) (ah))) (ah)))) (gN 2) (aB (eI 3 (bS (aa (ai 2) (ah))))
 (aB (jv (bC (aq iD (aq bn (ai 0) (aq bn (dr 3) (iQ (az (.int 1))))) (ai 2))) (cr (aF 3 1 iP (cm (aa (aq bn (ai 0) (aq bn (dr 3) (iQ (az (.int 1))))) (ah))))) 64)
 (fH (bC (aq iE (ak nA (aa (dr 3) (ah))) (ai 2))) ((λρ=>(cr (aF 1 1 iP (cm (aa (ai 3) (ah))))) (uC 3 ρ))) (skip)))))
 (qG 1))
def bU:List D->Option D:=iJ .n 4 gq
theorem lG(B:Bt mg)(F:Df K mg "order_rounds" bQ ["order"])(ET:Et K mg kx0 kx1 kx2 kx3 kx4 kx5 kx6 kx7 kx8 kx9):Cl P w K mg base 1 "order_rounds" ["order"] (eW K .n 1 bU):=by
 refine bo (k:=0) F sc_order_rounds (by decide) rfl λ_ cdv A outer s H hid E hr=>?_
 exact(ao (gJ 1 sc_order_rounds.nd (dD ar))
  (ao (iV PassesOwn.never rfl (DIp.e (cK B.b_range (ag (aX aO dG B.b_len (aJ (af 0) bj) (hv:=by kernel_rfl)) ar))) (ax 2 sc_order_rounds.nd) (ao (gJ 3 sc_order_rounds.nd (dD (ag (af 2) ar)))
  (ao (i4 64 PassesOwn.never (br (gv hr.units) iT (aU aH aT (af 0) (aU aH aT (dC 3) (ib al) (λ_ _=>rfl)) (λ_ _=>rfl)) (af 2) (bh _)) (au (fy (ie 3 gP eY PySem.F.slot_list_append PySem.F.type_list_append (DA.gf (ag (aU aH aT (af 0) (aU aH aT (dC 3) (ib al) (λ_ _=>rfl)) (λ_ _=>rfl)) ar))))))
  (au (et (br (fJ hr.units) iw (aX (ut rfl) yo B.b_min (aJ (dC 3) bj) (hv:=by kernel_rfl)) (af 2) (bh _)) (au (A5 3 (fy (ie 1 gP eY PySem.F.slot_list_append PySem.F.type_list_append (DA.gf (ag (af 3) ar)))))) bH)))))
  (au (lh 1))))
theorem sc_lines_of:FnScope ["square","rings","crosses"] ["square"] (aj dS):=⟨rfl,rfl,rfl,by decide+kernel,rfl,by decide+kernel,by decide+kernel⟩
def jO:FS:=
 aB (eV (gT 2 (dN (gN 1) (dN (gN 2) (jo)))) (pu (ai 0)))
 (bp (ak (nF 1 bU) (aa (bu 1 (fN (ai 1)) (gN 3) (gz) (aq eE (ai 2) (ai 3))) (ah))))
def bt:List D->Option D:=iJ .n 3 jO
theorem rF(B:Bt mg)(F:Df K mg "lines_of" dS ["square"])(ET:Et K mg kx0 kx1 kx2 kx3 kx4 kx5 kx6 kx7 kx8 kx9)(cA:Cl P w K mg base 1 "order_rounds" ["order"] (eW K .n 1 bU)):Cl P w K mg base 2 "lines_of" ["square"] (eW K .n 1 bt):=by
 refine bo (k:=1) F sc_lines_of (by decide) rfl λ_ cdv A outer s H hid E hr=>?_
 exact(ao (iR (DP.ef (af 0)) (cX (n:=2) rfl (aG (ax 1 sc_lines_of.nd) (aG (ax 2 sc_lines_of.nd) cV))))
  (au (ba (bX cA (hr.mono (by decide)) (ag (DP.toS (gB (N':=["square","rings","crosses","ring"]) rfl (bW (Nat.le_of_ble_eq_true rfl)) (DIp.b (fO (af 1))) (λ_ _ _ _=>(ax 3 C8)) (λ_ _ _ _=>eM) (λ_ _ _ _=>(bY hr.units (af 2) (af 3))))) ar)))))
theorem kQ:FnScope ["square"] ["square"] (aj bL):=⟨rfl,rfl,rfl,by decide+kernel,rfl,by decide+kernel,by decide+kernel⟩
def dg:FX:=
 pk (xk (bC (aq iD (ak bD (aa (ak (nF 1 bt) (aa (ai 0) (ah))) (ah))) (az (.int 1)))) (zI ⟨"NotOne",0⟩ (aa (az (.str "the square has more lines than one")) (ah))) (yc skip))
 (yc (bp (az (.bl true))))
def cF:List D->Option (Except Ex D):=xh .s 1 dg
theorem mK(B:Bt mg)(F:Df K mg "vet_one_line" bL ["square"])(ET:Et K mg kx0 kx1 kx2 kx3 kx4 kx5 kx6 kx7 kx8 kx9)(fj:Cl P w K mg base 2 "lines_of" ["square"] (eW K .n 1 bt)):ClX P w K mg base 3 "vet_one_line" ["square"] (yS K .s 1 cF):=by
 refine mQ (k:=2) F kQ (by decide) rfl λ_ cdv A outer s H hid E hr=>?_
 exact(nG (zA (DT.nox (br (gv hr.units) iT (aX aO dG B.b_len (aJ (bX fj (hr.mono (by decide)) (ag (af 0) ar)) bj) (hv:=by kernel_rfl)) al (bh _))) (mF (ux (n:=0) (ET.t.row _ (List.Mem.tail _ (List.Mem.tail _ (List.Mem.tail _ (List.Mem.tail _ (List.Mem.tail _ (List.Mem.head _))))))).mg (ET.t.row _ (List.Mem.tail _ (List.Mem.tail _ (List.Mem.tail _ (List.Mem.tail _ (List.Mem.tail _ (List.Mem.head _))))))).ns ET.o_NotOne hr.hd (DA.nox (ag zE ar)))) vG)
  (nw (au (ba iz))))
theorem kT:FnScope ["at","one","other"] ["at","one","other"] (aj bT):=⟨rfl,rfl,rfl,by decide+kernel,rfl,by decide+kernel,by decide+kernel⟩
def mS:FS:=
 bp (za nX nX (ak jw (aa (ai 1) (aa (ai 2) (ah)))) (ai 0) (ak nk (aa (ai 1) (aa (ai 2) (ah)))))
def db:List D->Option D:=iJ .s 3 mS
theorem lq(B:Bt mg)(F:Df K mg "lies_between" bT ["at","one","other"])(ET:Et K mg kx0 kx1 kx2 kx3 kx4 kx5 kx6 kx7 kx8 kx9):Cl P w K mg base 1 "lies_between" ["at","one","other"] (eW K .s 3 db):=by
 refine bo (k:=0) F kT (by decide) rfl λ_ cdv A outer s H hid E hr=>?_
 exact(au (ba (y9 jx jx iy iy (aX (kj rfl) o9 B.b_min (aJ (af 1) (aJ (af 2) bj)) (hv:=by kernel_rfl)) (af 0) (aX (kg rfl) oq B.b_max (aJ (af 1) (aJ (af 2) bj)) (hv:=by kernel_rfl)))))
theorem sc_goes_up:FnScope ["square","column","rings","crosses"] ["square","column"] (aj fc):=⟨rfl,rfl,rfl,by decide+kernel,rfl,by decide+kernel,by decide+kernel⟩
def kc:FS:=
 aB (eV (gT 2 (dN (gN 2) (dN (gN 3) (jo)))) (pu (ai 0)))
 (bp (aq nX (aq bn (ai 3) (ai 1)) (aq bn (ai 2) (ai 1))))
def dA:List D->Option D:=iJ .s 4 kc
theorem uB(B:Bt mg)(F:Df K mg "goes_up" fc ["square","column"])(ET:Et K mg kx0 kx1 kx2 kx3 kx4 kx5 kx6 kx7 kx8 kx9):Cl P w K mg base 1 "goes_up" ["square","column"] (eW K .s 2 dA):=by
 refine bo (k:=0) F sc_goes_up (by decide) rfl λ_ cdv A outer s H hid E hr=>?_
 exact(ao (iR (DP.ef (af 0)) (cX (n:=2) rfl (aG (ax 2 sc_goes_up.nd) (aG (ax 3 sc_goes_up.nd) cV))))
  (au (ba (mj jx iy (aU aH aT (af 3) (af 1) (λ_ _=>rfl)) (aU aH aT (af 2) (af 1) (λ_ _=>rfl)) (bh _)))))
theorem sc_goes_right:FnScope ["square","row","rings","crosses"] ["square","row"] (aj cR):=⟨rfl,rfl,rfl,by decide+kernel,rfl,by decide+kernel,by decide+kernel⟩
def h8:FS:=
 aB (eV (gT 2 (dN (gN 2) (dN (gN 3) (jo)))) (pu (ai 0)))
 (bp (aq nX (aq eE (ai 2) (ai 1)) (aq eE (ai 3) (ai 1))))
def bI:List D->Option D:=iJ .s 4 h8
theorem oU(B:Bt mg)(F:Df K mg "goes_right" cR ["square","row"])(ET:Et K mg kx0 kx1 kx2 kx3 kx4 kx5 kx6 kx7 kx8 kx9):Cl P w K mg base 1 "goes_right" ["square","row"] (eW K .s 2 bI):=by
 refine bo (k:=0) F sc_goes_right (by decide) rfl λ_ cdv A outer s H hid E hr=>?_
 exact(ao (iR (DP.ef (af 0)) (cX (n:=2) rfl (aG (ax 2 sc_goes_right.nd) (aG (ax 3 sc_goes_right.nd) cV))))
  (au (ba (mj jx iy (bY hr.units (af 2) (af 1)) (bY hr.units (af 3) (af 1)) (bh _)))))
theorem sc_is_crossing:FnScope ["square","column","row","rings","crosses"] ["square","column","row"] (aj cq):=⟨rfl,rfl,rfl,by decide+kernel,rfl,by decide+kernel,by decide+kernel⟩
def gL:FS:=
 aB (eV (gT 2 (dN (gN 3) (dN (gN 4) (jo)))) (pu (ai 0)))
 (aB (fH (gU (eU (ak (nF 3 db) (aa (ai 2) (aa (aq bn (ai 3) (ai 1)) (aa (aq bn (ai 4) (ai 1)) (ah))))))) (bp (az (.bl false))) (skip))
 (bp (ak (nF 3 db) (aa (ai 1) (aa (aq eE (ai 3) (ai 2)) (aa (aq eE (ai 4) (ai 2)) (ah)))))))
def fB:List D->Option D:=iJ .s 5 gL
theorem m5(B:Bt mg)(F:Df K mg "is_crossing" cq ["square","column","row"])(ET:Et K mg kx0 kx1 kx2 kx3 kx4 kx5 kx6 kx7 kx8 kx9)(eO:Cl P w K mg base 1 "lies_between" ["at","one","other"] (eW K .s 3 db)):Cl P w K mg base 2 "is_crossing" ["square","column","row"] (eW K .s 3 fB):=by
 refine bo (k:=1) F sc_is_crossing (by decide) rfl λ_ cdv A outer s H hid E hr=>?_
 exact(ao (iR (DP.ef (af 0)) (cX (n:=2) rfl (aG (ax 3 sc_is_crossing.nd) (aG (ax 4 sc_is_crossing.nd) cV))))
  (ao (et (lX (ir (bX eO (hr.mono (by decide)) (ag (af 2) (ag (aU aH aT (af 3) (af 1) (λ_ _=>rfl)) (ag (aU aH aT (af 4) (af 1) (λ_ _=>rfl)) ar)))))) (au (ba iz)) bH)
  (au (ba (bX eO (hr.mono (by decide)) (ag (af 1) (ag (bY hr.units (af 3) (af 2)) (ag (bY hr.units (af 4) (af 2)) ar))))))))
theorem rG:FnScope ["square","column","row"] ["square","column","row"] (aj ft):=⟨rfl,rfl,rfl,by decide+kernel,rfl,by decide+kernel,by decide+kernel⟩
def kf:FS:=
 bp (u7 (bC (aq iD (ak (nF 2 dA) (aa (ai 0) (aa (ai 1) (ah)))) (ak (nF 2 bI) (aa (ai 0) (aa (ai 2) (ah)))))) (az (.int 1)) (iQ (az (.int 1))))
def jg:List D->Option D:=iJ .s 3 kf
theorem ub(B:Bt mg)(F:Df K mg "sign_at" ft ["square","column","row"])(ET:Et K mg kx0 kx1 kx2 kx3 kx4 kx5 kx6 kx7 kx8 kx9)(fW:Cl P w K mg base 1 "goes_up" ["square","column"] (eW K .s 2 dA))(dw:Cl P w K mg base 1 "goes_right" ["square","row"] (eW K .s 2 bI)):Cl P w K mg base 2 "sign_at" ["square","column","row"] (eW K .s 3 jg):=by
 refine bo (k:=1) F rG (by decide) rfl λ_ cdv A outer s H hid E hr=>?_
 exact(au (ba (yP (by decide) (br (gv hr.units) iT (bX fW (hr.mono (by decide)) (ag (af 0) (ag (af 1) ar))) (bX dw (hr.mono (by decide)) (ag (af 0) (ag (af 2) ar))) (bh _)) al (ib al))))
theorem sc_crossings_of:FnScope ["square","size"] ["square"] (aj bO):=⟨rfl,rfl,rfl,by decide+kernel,rfl,by decide+kernel,by decide+kernel⟩
def gd:FS:=
 aB (aS 1 (ak bD (aa (aq bn (ai 0) (az (.int 0))) (ah))))
 (bp (uR 2 (dc (aa (ai 1) (ah))) (gN 2) (gz) (dc (aa (ai 1) (ah))) (gN 3) (eU (ak (nF 3 fB) (aa (ai 0) (aa (ai 2) (aa (ai 3) (ah)))))) (cC (aa (ai 2) (aa (ai 3) (aa (ak (nF 3 jg) (aa (ai 0) (aa (ai 2) (aa (ai 3) (ah))))) (ah)))))))
def aQ:List D->Option D:=iJ .n 2 gd
theorem mP(B:Bt mg)(F:Df K mg "crossings_of" bO ["square"])(ET:Et K mg kx0 kx1 kx2 kx3 kx4 kx5 kx6 kx7 kx8 kx9)(kw:Cl P w K mg base 2 "sign_at" ["square","column","row"] (eW K .s 3 jg))(gM:Cl P w K mg base 2 "is_crossing" ["square","column","row"] (eW K .s 3 fB)):Cl P w K mg base 3 "crossings_of" ["square"] (eW K .n 1 aQ):=by
 refine bo (k:=2) F sc_crossings_of (by decide) rfl λ_ cdv A outer s H hid E hr=>?_
 exact(ao (aW 1 sc_crossings_of.nd (aX aO dG B.b_len (aJ (aU aH aT (af 0) al (λ_ _=>rfl)) bj) (hv:=by kernel_rfl)))
  (au (ba (wN (N':=["square","size","column","row"]) rfl 3 (bW (Nat.le_of_ble_eq_true rfl)) (Dh (Nat.le_of_ble_eq_true rfl)) (bW (Nat.le_of_ble_eq_true rfl)) (DIp.b (cK B.b_range (ag (af 1) ar))) (λ_ _ _ _=>(ax 2 BB)) (λ_ _ _ _=>eM) (λ_ _ _ _=>(cK B.b_range (ag (af 1) ar))) (λ_ _ _ _=>(ax 3 BB)) (λ_ _ _ _=>(li (ir (bX gM (hr.mono (by decide)) (ag (af 0) (ag (af 2) (ag (af 3) ar))))))) (λ_ _ _ _=>(fu (ag (af 2) (ag (af 3) (ag (bX kw (hr.mono (by decide)) (ag (af 0) (ag (af 2) (ag (af 3) ar)))) ar)))))))))
theorem sc_along_column:FnScope ["square","crossings","column","numbers"] ["square","crossings","column"] (aj bN):=⟨rfl,rfl,rfl,by decide+kernel,rfl,by decide+kernel,by decide+kernel⟩
def fZ:FS:=
 aB (eI 3 (bu 4 (pr (ai 1)) (gT 2 (dN (gN 4) (dN (gT 3 (dN (gN 5) (dN (gN 6) (dN (gN 7) (jo))))) (jo)))) (bC (aq iE (ai 5) (ai 2))) (ai 4)))
 (aB (fH (gU (eU (ak (nF 2 dA) (aa (ai 0) (aa (ai 2) (ah)))))) (cr (aF 3 0 rk (cm ah))) (skip))
 (bp (bu 1 (oZ (dr 3)) (gN 4) (gz) (cC (aa (ai 4) (aa (az (.bl true)) (ah)))))))
def di:List D->Option D:=iJ .n 4 fZ
theorem mH(B:Bt mg)(F:Df K mg "along_column" bN ["square","crossings","column"])(ET:Et K mg kx0 kx1 kx2 kx3 kx4 kx5 kx6 kx7 kx8 kx9)(fW:Cl P w K mg base 1 "goes_up" ["square","column"] (eW K .s 2 dA)):Cl P w K mg base 2 "along_column" ["square","crossings","column"] (eW K .n 3 di):=by
 refine bo (k:=1) F sc_along_column (by decide) rfl λ_ cdv A outer s H hid E hr=>?_
 exact(ao (o6 3 (N':=["square","crossings","column","numbers","number","at","row","sign"]) rfl sc_along_column.nd (lQ (bq (bW (Nat.le_of_ble_eq_true rfl)) (bq (lQ (bq (bW (Nat.le_of_ble_eq_true rfl)) (bq (bW (Nat.le_of_ble_eq_true rfl)) (bq (bW (Nat.le_of_ble_eq_true rfl)) gS)))) gS))) (DIp.b (kq (af 1) B.b_enumerate)) (λ_ _ _ _=>(cX (n:=2) rfl (aG (ax 4 xt) (aG (cX (n:=3) rfl (aG (ax 5 xt) (aG (ax 6 xt) (aG (ax 7 xt) cV)))) cV)))) (λ_ _ _ _=>(li (br (fJ hr.units) iw (af 5) (af 2) (bh _)))) (λ_ _ _ _=>(af 4)))
  (ao (et (lX (ir (bX fW (hr.mono (by decide)) (ag (af 0) (ag (af 2) ar))))) (au (fy (pO 3 lV mJ PySem.F.slot_list_reverse PySem.F.type_list_reverse))) bH)
  (au (ba (gB (N':=["square","crossings","column","numbers","number"]) rfl (bW (Nat.le_of_ble_eq_true rfl)) (pP (dC 3)) (λ_ _ _ _=>(ax 4 DX)) (λ_ _ _ _=>eM) (λ_ _ _ _=>(fu (ag (af 4) (ag iz ar)))))))))
theorem sc_along_row:FnScope ["square","crossings","row","numbers"] ["square","crossings","row"] (aj dq):=⟨rfl,rfl,rfl,by decide+kernel,rfl,by decide+kernel,by decide+kernel⟩
def iI:FS:=
 aB (eI 3 (bu 4 (pr (ai 1)) (gT 2 (dN (gN 4) (dN (gT 3 (dN (gN 5) (dN (gN 6) (dN (gN 7) (jo))))) (jo)))) (bC (aq iE (ai 6) (ai 2))) (ai 4)))
 (aB (fH (gU (eU (ak (nF 2 bI) (aa (ai 0) (aa (ai 2) (ah)))))) (cr (aF 3 0 rk (cm ah))) (skip))
 (bp (bu 1 (oZ (dr 3)) (gN 4) (gz) (cC (aa (ai 4) (aa (az (.bl false)) (ah)))))))
def fG:List D->Option D:=iJ .n 4 iI
theorem qv(B:Bt mg)(F:Df K mg "along_row" dq ["square","crossings","row"])(ET:Et K mg kx0 kx1 kx2 kx3 kx4 kx5 kx6 kx7 kx8 kx9)(dw:Cl P w K mg base 1 "goes_right" ["square","row"] (eW K .s 2 bI)):Cl P w K mg base 2 "along_row" ["square","crossings","row"] (eW K .n 3 fG):=by
 refine bo (k:=1) F sc_along_row (by decide) rfl λ_ cdv A outer s H hid E hr=>?_
 exact(ao (o6 3 (N':=["square","crossings","row","numbers","number","column","at","sign"]) rfl sc_along_row.nd (lQ (bq (bW (Nat.le_of_ble_eq_true rfl)) (bq (lQ (bq (bW (Nat.le_of_ble_eq_true rfl)) (bq (bW (Nat.le_of_ble_eq_true rfl)) (bq (bW (Nat.le_of_ble_eq_true rfl)) gS)))) gS))) (DIp.b (kq (af 1) B.b_enumerate)) (λ_ _ _ _=>(cX (n:=2) rfl (aG (ax 4 xz) (aG (cX (n:=3) rfl (aG (ax 5 xz) (aG (ax 6 xz) (aG (ax 7 xz) cV)))) cV)))) (λ_ _ _ _=>(li (br (fJ hr.units) iw (af 6) (af 2) (bh _)))) (λ_ _ _ _=>(af 4)))
  (ao (et (lX (ir (bX dw (hr.mono (by decide)) (ag (af 0) (ag (af 2) ar))))) (au (fy (pO 3 lV mJ PySem.F.slot_list_reverse PySem.F.type_list_reverse))) bH)
  (au (ba (gB (N':=["square","crossings","row","numbers","number"]) rfl (bW (Nat.le_of_ble_eq_true rfl)) (pP (dC 3)) (λ_ _ _ _=>(ax 4 Dq)) (λ_ _ _ _=>eM) (λ_ _ _ _=>(fu (ag (af 4) (ag iz ar)))))))))
theorem sc_word_of:FnScope ["square","crossings","line","rings","word","column"] ["square","crossings","line"] (aj fw):=⟨rfl,rfl,rfl,by decide+kernel,rfl,by decide+kernel,by decide+kernel⟩
def nR:FS:=
 aB (aS 3 (aq bn (ai 0) (az (.int 0))))
 (aB (eI 4 (bS (ah)))
 (aB (fQ (cm (fN (ai 2))) (gN 5) (aB (cr (oh 4 (ak (nF 3 di) (aa (ai 0) (aa (ai 1) (aa (ai 5) (ah)))))))
 (cr (oh 4 (ak (nF 3 fG) (aa (ai 0) (aa (ai 1) (aa (aq bn (ai 3) (ai 5)) (ah)))))))))
 (qG 4)))
def ji:List D->Option D:=iJ .n 6 nR
theorem uY(B:Bt mg)(F:Df K mg "word_of" fw ["square","crossings","line"])(ET:Et K mg kx0 kx1 kx2 kx3 kx4 kx5 kx6 kx7 kx8 kx9)(gr:Cl P w K mg base 2 "along_column" ["square","crossings","column"] (eW K .n 3 di))(iH:Cl P w K mg base 2 "along_row" ["square","crossings","row"] (eW K .n 3 fG)):Cl P w K mg base 3 "word_of" ["square","crossings","line"] (eW K .n 3 ji):=by
 refine bo (k:=2) F sc_word_of (by decide) rfl λ_ cdv A outer s H hid E hr=>?_
 exact(ao (aW 3 sc_word_of.nd (aU aH aT (af 0) al (λ_ _=>rfl)))
  (ao (gJ 4 sc_word_of.nd (dD ar))
  (ao (iV PassesOwn.never rfl (DIp.e (fO (af 2))) (ax 5 sc_word_of.nd) (ao (fy (t5 4 (bX gr (hr.mono (by decide)) (ag (af 0) (ag (af 1) (ag (af 5) ar))))))
  (au (fy (t5 4 (bX iH (hr.mono (by decide)) (ag (af 0) (ag (af 1) (ag (aU aH aT (af 3) (af 5) (λ_ _=>rfl)) ar)))))))))
  (au (lh 4)))))
theorem sc_words_of:FnScope ["square","crossings"] ["square"] (aj dU):=⟨rfl,rfl,rfl,by decide+kernel,rfl,by decide+kernel,by decide+kernel⟩
def mi:FS:=
 aB (aS 1 (ak (nF 1 aQ) (aa (ai 0) (ah))))
 (bp (bu 1 (fN (ak (nF 1 bt) (aa (ai 0) (ah)))) (gN 2) (gz) (ak (nF 3 ji) (aa (ai 0) (aa (ai 1) (aa (ai 2) (ah)))))))
def gc:List D->Option D:=iJ .n 2 mi
theorem sv(B:Bt mg)(F:Df K mg "words_of" dU ["square"])(ET:Et K mg kx0 kx1 kx2 kx3 kx4 kx5 kx6 kx7 kx8 kx9)(cG:Cl P w K mg base 3 "crossings_of" ["square"] (eW K .n 1 aQ))(kG:Cl P w K mg base 3 "word_of" ["square","crossings","line"] (eW K .n 3 ji))(fj:Cl P w K mg base 2 "lines_of" ["square"] (eW K .n 1 bt)):Cl P w K mg base 4 "words_of" ["square"] (eW K .n 1 gc):=by
 refine bo (k:=3) F sc_words_of (by decide) rfl λ_ cdv A outer s H hid E hr=>?_
 exact(ao (aW 1 sc_words_of.nd (DP.toS (bX cG (hr.mono (by decide)) (ag (af 0) ar))))
  (au (ba (gB (N':=["square","crossings","line"]) rfl (bW (Nat.le_of_ble_eq_true rfl)) (DIp.b (fO (DP.toS (bX fj (hr.mono (by decide)) (ag (af 0) ar))))) (λ_ _ _ _=>(ax 2 CZ)) (λ_ _ _ _=>eM) (λ_ _ _ _=>(DP.toS (bX kG (hr.mono (by decide)) (ag (af 0) (ag (af 1) (ag (af 2) ar))))))))))
theorem sc_place_behind:FnScope ["word","place","number","over"] ["word","place"] (aj bK):=⟨rfl,rfl,rfl,by decide+kernel,rfl,by decide+kernel,by decide+kernel⟩
def ge:FS:=
 aB (eV (gT 2 (dN (gN 2) (dN (gN 3) (jo)))) (pu (aq bn (ai 0) (ai 1))))
 (bp (aq bz (aq bx (aq qk (ai 0) (cC (aa (ai 2) (aa (xf (gU (bC (ai 3)))) (ah))))) (az (.int 1))) (ak bD (aa (ai 0) (ah)))))
def df:List D->Option D:=iJ .s 4 ge
theorem mM(B:Bt mg)(F:Df K mg "place_behind" bK ["word","place"])(ET:Et K mg kx0 kx1 kx2 kx3 kx4 kx5 kx6 kx7 kx8 kx9):Cl P w K mg base 1 "place_behind" ["word","place"] (eW K .s 2 df):=by
 refine bo (k:=0) F sc_place_behind (by decide) rfl λ_ cdv A outer s H hid E hr=>?_
 exact(ao (iR (DP.ef (aU aH aT (af 0) (af 1) (λ_ _=>rfl))) (cX (n:=2) rfl (aG (ax 2 sc_place_behind.nd) (aG (ax 3 sc_place_behind.nd) cV))))
  (au (ba (dZ (dX (kM hr.units (af 0) (fu (ag (af 2) (ag (wn (af 3)) ar)))) al) (aX aO dG B.b_len (aJ (af 0) bj) (hv:=by kernel_rfl))))))
theorem sc_rounds_of:FnScope ["square","word"] ["square"] (aj dh):=⟨rfl,rfl,rfl,by decide+kernel,rfl,by decide+kernel,by decide+kernel⟩
def eG:FX:=
 pk (pL (gY 1 cF (kC (aa (ai 0) (ah)))))
 (yc (aB (aS 1 (aq bn (ak (nF 1 gc) (aa (ai 0) (ah))) (az (.int 0))))
 (bp (u7 (eU (ai 1)) (ak (nF 1 bU) (aa (bu 1 (dc (aa (ak bD (aa (ai 1) (ah))) (ah))) (gN 2) (gz) (ak (nF 2 df) (aa (ai 1) (aa (ai 2) (ah))))) (ah))) (bS (aa (bS (ah)) (ah)))))))
def bA:List D->Option (Except Ex D):=xh .s 2 eG
theorem pD(B:Bt mg)(F:Df K mg "rounds_of" dh ["square"])(ET:Et K mg kx0 kx1 kx2 kx3 kx4 kx5 kx6 kx7 kx8 kx9)(gu:ClX P w K mg base 3 "vet_one_line" ["square"] (yS K .s 1 cF))(jK:Cl P w K mg base 4 "words_of" ["square"] (eW K .n 1 gc))(cA:Cl P w K mg base 1 "order_rounds" ["order"] (eW K .n 1 bU))(gm:Cl P w K mg base 1 "place_behind" ["word","place"] (eW K .s 2 df)):ClX P w K mg base 5 "rounds_of" ["square"] (yS K .s 1 bA):=by
 refine mQ (k:=4) F sc_rounds_of (by decide) rfl λ_ cdv A outer s H hid E hr=>?_
 exact(nG (wO (wQ gu (hr.mono (by decide)) (DA.rr (DA.nox (ag (af 0) ar)))))
  (nw (ao (aW 1 sc_rounds_of.nd (aU aH aT (bX jK (hr.mono (by decide)) (ag (af 0) ar)) al (λ_ _=>rfl)))
  (au (ba (yP (by decide) (ir (af 1)) (DP.toS (bX cA (hr.mono (by decide)) (ag (DP.toS (gB (N':=["square","word","place"]) rfl (bW (Nat.le_of_ble_eq_true rfl)) (DIp.b (cK B.b_range (ag (aX aO dG B.b_len (aJ (af 1) bj) (hv:=by kernel_rfl)) ar))) (λ_ _ _ _=>(ax 2 Dw)) (λ_ _ _ _=>eM) (λ_ _ _ _=>(bX gm (hr.mono (by decide)) (ag (af 1) (ag (af 2) ar)))))) ar))) (QP.dp (qX (aR (qX ip) ip zq)))))))))
theorem mU:FnScope ["square"] ["square"] (aj cQ):=⟨rfl,rfl,rfl,by decide+kernel,rfl,by decide+kernel,by decide+kernel⟩
def eP:FX:=
 pT (nW gC (nW bx (qN iF (ak bD (aa (ak (nF 1 aQ) (aa (ai 0) (ah))) (ah))) (jJ bD (gY 1 bA (kC (aa (ai 0) (ah)))))) (az (.int 1))) (az (.int 2)))
def cL:List D->Option (Except Ex D):=xh .s 1 eP
theorem oN(B:Bt mg)(F:Df K mg "of_surface" cQ ["square"])(ET:Et K mg kx0 kx1 kx2 kx3 kx4 kx5 kx6 kx7 kx8 kx9)(cG:Cl P w K mg base 3 "crossings_of" ["square"] (eW K .n 1 aQ))(iZ:ClX P w K mg base 5 "rounds_of" ["square"] (yS K .s 1 bA)):ClX P w K mg base 6 "of_surface" ["square"] (yS K .s 1 cL):=by
 refine mQ (k:=5) F mU (by decide) rfl λ_ cdv A outer s H hid E hr=>?_
 exact(mF (tD (wd pY sG (wd qL qr (Aq vk qr (DP.nox (aX aO dG B.b_len (aJ (bX cG (hr.mono (by decide)) (ag (af 0) ar)) bj) (hv:=by kernel_rfl))) (wA aO dG B.b_len (wQ iZ (hr.mono (by decide)) (DA.rr (DA.nox (ag (af 0) ar)))) (hv:=by kernel_rfl))) (DP.nox al)) (DP.nox al))))
theorem pR:FnScope ["_law_script","_law_k"] ["_law_script","_law_k"] (aj dO):=⟨rfl,rfl,rfl,by decide+kernel,rfl,by decide+kernel,by decide+kernel⟩
def sh:FS:=
 aB (fH (bC (aq nX (ai 1) (ak bD (aa (ai 0) (ah))))) (bp (aq bn (ai 0) (ai 1))) (skip))
 (bp (az (.int 0)))
def jN:List D->Option D:=iJ .s 2 sh
theorem q9(B:Bt mg)(F:Df K mg "_law_cell" dO ["_law_script","_law_k"])(ET:Et K mg kx0 kx1 kx2 kx3 kx4 kx5 kx6 kx7 kx8 kx9):Cl P w K mg base 1 "_law_cell" ["_law_script","_law_k"] (eW K .s 2 jN):=by
 refine bo (k:=0) F pR (by decide) rfl λ_ cdv A outer s H hid E hr=>?_
 exact(ao (et (br jx iy (af 1) (aX aO dG B.b_len (aJ (af 0) bj) (hv:=by kernel_rfl)) (bh _)) (au (ba (aU aH aT (af 0) (af 1) (λ_ _=>rfl)))) bH)
  (au (ba al)))
theorem sc_law_bag:FnScope ["_law_script","_law_at","_law_cell_here","_law_mix","_law_k"] ["_law_script","_law_at"] (aj eZ):=⟨rfl,rfl,rfl,by decide+kernel,rfl,by decide+kernel,by decide+kernel⟩
def uy:FS:=
 aB (aS 2 (aq bz (ak p5 (aa (ak (nF 2 jN) (aa (ai 0) (aa (ai 1) (ah)))) (ah))) (aq ee (aq ee (aq eQ (az (.int 10)) (az (.int 60))) (aq eQ (az (.int 10)) (az (.int 60)))) (aq eQ (az (.int 10)) (az (.int 60))))))
 (aB (fH (bC (aq CJ (ai 2) (aq eQ (az (.int 10)) (az (.int 18))))) (bp (bS (aa (ai 2) (aa (az (.int 0)) (ah))))) (skip))
 (aB (aS 3 (aq bz (aq bx (aq bx (ai 2) (aq ee (az (.int 7919)) (ai 1))) (az (.int 17))) (az (.int 2147483647))))
 (aB (fQ (cm (dc (aa (ak jw (aa (ak bD (aa (ai 0) (ah))) (aa (az (.int 9)) (ah)))) (ah)))) (gN 4) (aS 3 (aq bz (aq bx (aq bx (aq eQ (ai 3) (az (.int 5))) (aq bz (aq bn (ai 0) (ai 4)) (az (.int 2147483629)))) (aq ee (az (.int 31)) (ai 4))) (az (.int 2147483647)))))
 (bp (bS (aa (ai 3) (aa (az (.int 1)) (ah))))))))
def jb:List D->Option D:=iJ .n 5 uy
theorem uJ(B:Bt mg)(F:Df K mg "_law_bag" eZ ["_law_script","_law_at"])(ET:Et K mg kx0 kx1 kx2 kx3 kx4 kx5 kx6 kx7 kx8 kx9)(jM:Cl P w K mg base 1 "_law_cell" ["_law_script","_law_k"] (eW K .s 2 jN)):Cl P w K mg base 2 "_law_bag" ["_law_script","_law_at"] (eW K .n 2 jb):=by
 refine bo (k:=1) F sc_law_bag (by decide) rfl λ_ cdv A outer s H hid E hr=>?_
 exact(ao (aW 2 sc_law_bag.nd (dZ (aX ww Ax B.b_abs (aJ (bX jM (hr.mono (by decide)) (ag (af 0) (ag (af 1) ar))) bj) (hv:=by kernel_rfl)) (jF (jF (kl al al) (kl al al)) (kl al al))))
  (ao (et (br Bn iy (af 2) (kl al al) (bh _)) (au (ba (dD (ag (af 2) (ag al ar))))) bH)
  (ao (aW 3 sc_law_bag.nd (dZ (dX (dX (af 2) (jF al (af 1))) al) al))
  (ao (iV PassesOwn.never rfl (DIp.e (cK B.b_range (ag (aX (kj rfl) o9 B.b_min (aJ (aX aO dG B.b_len (aJ (af 0) bj) (hv:=by kernel_rfl)) (aJ al bj)) (hv:=by kernel_rfl)) ar))) (ax 4 sc_law_bag.nd) (au (aW 3 sc_law_bag.nd (dZ (dX (dX (kl (af 3) al) (dZ (aU aH aT (af 0) (af 4) (λ_ _=>rfl)) al)) (jF al (af 4))) al))))
  (au (ba (dD (ag (af 3) (ag al ar)))))))))
theorem sc_law_take:FnScope ["_law_bag_here","_law_many","_law_digit"] ["_law_bag_here","_law_many"] (aj dP):=⟨rfl,rfl,rfl,by decide+kernel,rfl,by decide+kernel,by decide+kernel⟩
def rX:FS:=
 aB (fH (bC (aq iE (aq bn (dr 0) (az (.int 1))) (az (.int 0)))) (aB (aS 2 (aq bz (aq bn (dr 0) (az (.int 0))) (ai 1)))
 (aB (eV (eR 0 (az (.int 0))) (pu (aq gC (aq bn (dr 0) (az (.int 0))) (ai 1))))
 (bp (ai 2)))) (skip))
 (aB (eV (eR 0 (az (.int 0))) (pu (aq bz (aq bx (aq bx (aq eQ (aq bn (dr 0) (az (.int 0))) (az (.int 5))) (aq ee (az (.int 48271)) (aq bn (dr 0) (az (.int 1))))) (az (.int 11))) (az (.int 2147483647)))))
 (aB (eV (eR 0 (az (.int 1))) (pu (aq bx (aq bn (dr 0) (az (.int 1))) (az (.int 1)))))
 (bp (aq bz (aq gC (aq bz (aq ee (aq bn (dr 0) (az (.int 0))) (az (.int 69621))) (az (.int 2147483629))) (az (.int 8))) (ai 1)))))
def aM:List D->List D->Option (D×List D):=qK .s 3 rX
theorem rW(B:Bt mg)(F:Df K mg "_law_take" dP ["_law_bag_here","_law_many"])(ET:Et K mg kx0 kx1 kx2 kx3 kx4 kx5 kx6 kx7 kx8 kx9):Cl P w K mg base 1 "_law_take" ["_law_bag_here","_law_many"] (qJ K .s 1 aM):=by
 refine oV (k:=0) F sc_law_take (by decide) rfl λ_ cdv A outer s H hid a E hr=>?_
 exact(ao (et (br (fJ hr.units) iw (aU aH aT (dC 0) al (λ_ _=>rfl)) al (bh _)) (ao (aW 2 sc_law_take.nd (dZ (aU aH aT (dC 0) al (λ_ _=>rfl)) (af 1)))
  (ao (n8 (DP.ef (nY (aU aH aT (dC 0) al (λ_ _=>rfl)) (af 1))) (jX 0 al))
  (au (ba (af 2))))) bH)
  (ao (n8 (DP.ef (dZ (dX (dX (kl (aU aH aT (dC 0) al (λ_ _=>rfl)) al) (jF al (aU aH aT (dC 0) al (λ_ _=>rfl)))) al) al)) (jX 0 al))
  (ao (n8 (DP.ef (dX (aU aH aT (dC 0) al (λ_ _=>rfl)) al)) (jX 0 al))
  (au (ba (dZ (nY (dZ (jF (aU aH aT (dC 0) al (λ_ _=>rfl)) al) al) al) (af 1)))))))
theorem sc_law_order:FnScope ["_law_bag_here","_law_n","_law_left","_law_found"] ["_law_bag_here","_law_n"] (aj dl):=⟨rfl,rfl,rfl,by decide+kernel,rfl,by decide+kernel,by decide+kernel⟩
def p9:FS:=
 aB (eI 2 (uO (ai 1)))
 (aB (eI 3 (bS (ah)))
 (aB (jv (bC (aq iD (dr 2) (bS (ah)))) (cr (aF 3 1 iP (cZ (aF 2 1 m8 (cZ (aF 0 1 aM (cm (aa (ak bD (aa (dr 2) (ah))) (ah)))) (cm (ah)))) (cm (ah))))) 16)
 (qG 3)))
def gI:List D->List D->Option (D×List D):=qK .n 4 p9
theorem qo(B:Bt mg)(F:Df K mg "_law_order" dl ["_law_bag_here","_law_n"])(ET:Et K mg kx0 kx1 kx2 kx3 kx4 kx5 kx6 kx7 kx8 kx9)(bb:Cl P w K mg base 1 "_law_take" ["_law_bag_here","_law_many"] (qJ K .s 1 aM)):Cl P w K mg base 2 "_law_order" ["_law_bag_here","_law_n"] (qJ K .n 1 gI):=by
 refine oV (k:=1) F sc_law_order (by decide) rfl λ_ cdv A outer s H hid a E hr=>?_
 exact(ao (gJ 2 sc_law_order.nd (fx rfl B.b_list B.b_range (af 1)))
  (ao (gJ 3 sc_law_order.nd (dD ar))
  (ao (i4 16 PassesOwn.never (br (gv hr.units) iT (dC 2) (dD ar) (bh _)) (au (fy (ie 3 gP eY PySem.F.slot_list_append PySem.F.type_list_append (jl (ie 2 Av wB PySem.F.slot_list_pop PySem.F.type_list_pop (jl (iu 0 bb (hr.mono (by decide)) (DA.gf (ag (aX aO dG B.b_len (aJ (dC 2) bj) (hv:=by kernel_rfl)) ar))) (DA.gf ar))) (DA.gf ar))))))
  (au (lh 3)))))
theorem sc_law_square:FnScope ["_law_bag_here","_law_n","_law_plain","_law_by","_law_rings","_law_crosses","_law_c","_law_d"] ["_law_bag_here","_law_n"] (aj cM):=⟨rfl,rfl,rfl,by decide+kernel,rfl,by decide+kernel,by decide+kernel⟩
def nV:FS:=
 aB (h9 2 (aF 0 1 aM (cm (aa (az (.int 4)) (ah)))))
 (aB (h9 3 (lB bx (pu (az (.int 1))) (aF 0 1 aM (cm (aa (aq iF (ai 1) (az (.int 1))) (ah))))))
 (aB (h9 4 (aF 0 1 gI (cm (aa (ai 1) (ah)))))
 (aB (rE 5 (aF 0 1 gI (cm (aa (ai 1) (ah)))))
 (aB (fH (bC (aq iE (ai 2) (az (.int 1)))) (aB (aS 4 (uO (ai 1)))
 (eI 5 (bu 1 (fN (ai 4)) (gN 8) (gz) (aq bz (aq bx (ai 8) (ai 3)) (ai 1))))) (skip))
 (aB (fQ (cm (dc (aa (ai 1) (ah)))) (gN 6) (aB (aS 7 (aq bz (aq bx (ai 6) (az (.int 1))) (ai 1)))
 (fH (bC (aq iE (aq bn (dr 5) (ai 6)) (aq bn (ai 4) (ai 6)))) (eV (gT 2 (dN (eR 5 (ai 6)) (dN (eR 5 (ai 7)) (jo)))) (pu (cC (aa (aq bn (dr 5) (ai 7)) (aa (aq bn (dr 5) (ai 6)) (ah)))))) (skip))))
 (bp (cC (aa (ak fb (aa (ai 4) (ah))) (aa (ak fb (aa (dr 5) (ah))) (ah))))))))))
def fL:List D->List D->Option (D×List D):=qK .s 8 nV
theorem oG(B:Bt mg)(F:Df K mg "_law_square" cM ["_law_bag_here","_law_n"])(ET:Et K mg kx0 kx1 kx2 kx3 kx4 kx5 kx6 kx7 kx8 kx9)(bb:Cl P w K mg base 1 "_law_take" ["_law_bag_here","_law_many"] (qJ K .s 1 aM))(gE:Cl P w K mg base 2 "_law_order" ["_law_bag_here","_law_n"] (qJ K .n 1 gI)):Cl P w K mg base 3 "_law_square" ["_law_bag_here","_law_n"] (qJ K .s 1 fL):=by
 refine oV (k:=2) F sc_law_square (by decide) rfl λ_ cdv A outer s H hid a E hr=>?_
 exact(ao (je 2 sc_law_square.nd (iu 0 bb (hr.mono (by decide)) (DA.gf (ag al ar))))
  (ao (je 3 sc_law_square.nd (vH (DP.ef al) (iu 0 bb (hr.mono (by decide)) (DA.gf (ag (oS (af 1) al) ar)))))
  (ao (je 4 sc_law_square.nd (DE.toS (iu 0 gE (hr.mono (by decide)) (DA.gf (ag (af 1) ar)))))
  (ao (yq 5 sc_law_square.nd (iu 0 gE (hr.mono (by decide)) (DA.gf (ag (af 1) ar))))
  (ao (et (br (fJ hr.units) iw (af 2) al (bh _)) (ao (aW 4 sc_law_square.nd (DP.toS (fx rfl B.b_list B.b_range (af 1))))
  (au (o6 5 (N':=["_law_bag_here","_law_n","_law_plain","_law_by","_law_rings","_law_crosses","_law_c","_law_d","_law_row"]) rfl sc_law_square.nd (bW (Nat.le_of_ble_eq_true rfl)) (DIp.b (fO (af 4))) (λ_ _ _ _=>(ax 8 C3)) (λ_ _ _ _=>eM) (λ_ _ _ _=>(dZ (dX (af 8) (af 3)) (af 1)))))) bH)
  (ao (iV PassesOwn.never rfl (DIp.e (cK B.b_range (ag (af 1) ar))) (ax 6 sc_law_square.nd) (ao (aW 7 sc_law_square.nd (dZ (dX (af 6) al) (af 1)))
  (au (et (br (fJ hr.units) iw (aU aH aT (dC 5) (af 6) (λ_ _=>rfl)) (aU aH aT (af 4) (af 6) (λ_ _=>rfl)) (bh _)) (au (n8 (DP.ef (fu (ag (aU aH aT (dC 5) (af 7) (λ_ _=>rfl)) (ag (aU aH aT (dC 5) (af 6) (λ_ _=>rfl)) ar)))) (xu (n:=2) rfl (qf (jX 5 (af 6)) (qf (jX 5 (af 7)) x6))))) bH))))
  (au (ba (fu (ag (fk fA jZ B.b_tuple (aJ (af 4) bj) (hv:=by kernel_rfl)) (ag (fk fA jZ B.b_tuple (aJ (dC 5) bj) (hv:=by kernel_rfl)) ar)))))))))))
theorem n5:FnScope ["_law_thing"] ["_law_thing"] (aj de):=⟨rfl,rfl,rfl,by decide+kernel,rfl,by decide+kernel,by decide+kernel⟩
def kN:FS:=
 bp (xf (ko (bC (xJ "int" (ai 0))) (bC (xf (gU (bC (xJ "bool" (ai 0))))))))
def eA:List D->Option D:=iJ .s 1 kN
theorem pB(B:Bt mg)(F:Df K mg "_law_whole" de ["_law_thing"])(ET:Et K mg kx0 kx1 kx2 kx3 kx4 kx5 kx6 kx7 kx8 kx9):Cl P w K mg base 1 "_law_whole" ["_law_thing"] (eW K .s 1 eA):=by
 refine bo (k:=0) F n5 (by decide) rfl λ_ cdv A outer s H hid E hr=>?_
 exact(au (ba (AV (wX "int" zy (af 0) B.b_isinstance B.b_int) (zM (wn (wX "bool" ya (af 0) B.b_isinstance B.b_bool))))))
theorem sc_law_kind:FnScope ["_law_e","_law_marks"] ["_law_e"] (aj eg):=⟨rfl,rfl,rfl,by decide+kernel,rfl,by decide+kernel,by decide+kernel⟩
def rn:FS:=
 aB (aS 1 (bS (aa (lC 0 wc ["NoSquare"]) (aa (lC 0 wc ["NoMove"]) (aa (lC 0 wc ["TooMany"]) (aa (lC 0 wc ["NoPart"]) (ah)))))))
 (aB (aS 1 (aq qa (ai 1) (bS (aa (lC 0 wc ["NotOne"]) (aa (lC 0 wc ["NoPaper"]) (aa (lC 0 wc ["NoText"]) (aa (lC 0 wc ["NoRow"]) (ah))))))))
 (aB (aS 1 (aq qa (ai 1) (bS (aa (lC 0 wc ["NoStep"]) (ah)))))
 (aB (fH (yp (bC (aq iD (aq vM (ai 1) (az (.bl true))) (az (.int 1)))) (gU (eU (Au 0 wc)))) (bp (iQ (az (.int 1)))) (skip))
 (bp (aq qk (ai 1) (az (.bl true)))))))
def g9:Ex->Option D:=DQ 2 rn
theorem rV(B:Bt mg)(F:Df K mg "_law_kind" eg ["_law_e"])(ET:Et K mg kx0 kx1 kx2 kx3 kx4 kx5 kx6 kx7 kx8 kx9):ClU P w K mg base 1 "_law_kind" ["_law_e"] (Co K .s g9):=by
 refine yz (k:=0) F sc_law_kind λ_ cdv A outer s H hid E hr=>?_
 exact(ao (aW 1 sc_law_kind.nd (DP.toS (dD (ag (fS ET.t 0 rfl (List.Mem.tail _ (List.Mem.head _)) B.b_isinstance) (ag (fS ET.t 0 rfl (List.Mem.tail _ (List.Mem.tail _ (List.Mem.head _))) B.b_isinstance) (ag (fS ET.t 0 rfl (List.Mem.tail _ (List.Mem.tail _ (List.Mem.tail _ (List.Mem.head _)))) B.b_isinstance) (ag (fS ET.t 0 rfl (List.Mem.tail _ (List.Mem.tail _ (List.Mem.tail _ (List.Mem.tail _ (List.Mem.head _))))) B.b_isinstance) ar)))))))
  (ao (aW 1 sc_law_kind.nd (DP.toS (sX (af 1) (dD (ag (fS ET.t 0 rfl (List.Mem.tail _ (List.Mem.tail _ (List.Mem.tail _ (List.Mem.tail _ (List.Mem.tail _ (List.Mem.head _)))))) B.b_isinstance) (ag (fS ET.t 0 rfl (List.Mem.tail _ (List.Mem.tail _ (List.Mem.tail _ (List.Mem.tail _ (List.Mem.tail _ (List.Mem.tail _ (List.Mem.head _))))))) B.b_isinstance) (ag (fS ET.t 0 rfl (List.Mem.tail _ (List.Mem.tail _ (List.Mem.tail _ (List.Mem.tail _ (List.Mem.tail _ (List.Mem.tail _ (List.Mem.tail _ (List.Mem.head _)))))))) B.b_isinstance) (ag (fS ET.t 0 rfl (List.Mem.tail _ (List.Mem.tail _ (List.Mem.tail _ (List.Mem.tail _ (List.Mem.tail _ (List.Mem.tail _ (List.Mem.tail _ (List.Mem.tail _ (List.Mem.head _))))))))) B.b_isinstance) ar))))))))
  (ao (aW 1 sc_law_kind.nd (DP.toS (sX (af 1) (dD (ag (fS ET.t 0 rfl (List.Mem.tail _ (List.Mem.tail _ (List.Mem.tail _ (List.Mem.tail _ (List.Mem.tail _ (List.Mem.tail _ (List.Mem.tail _ (List.Mem.tail _ (List.Mem.tail _ (List.Mem.head _)))))))))) B.b_isinstance) ar)))))
  (ao (et (DW.dt (vS (br (gv hr.units) iT (qD hr.units (af 1) iz) al (bh _)) (rj (lX (ir (x4 ET.t 0 rfl B.b_isinstance B.b_ValueError)))))) (au (ba (ib al))) bH)
  (au (ba (kM hr.units (af 1) iz)))))))
theorem sc_law_rounds:FnScope ["_law_square_here","_law_left","_law_many","_law_column"] ["_law_square_here"] (aj cO):=⟨rfl,rfl,rfl,by decide+kernel,rfl,by decide+kernel,by decide+kernel⟩
def ij:FS:=
 aB (eI 1 (uO (ak bD (aa (aq bn (ai 0) (az (.int 0))) (ah)))))
 (aB (aS 2 (az (.int 0)))
 (aB (jv (bC (aq iD (dr 1) (bS (ah)))) (aB (aS 2 (aq bx (ai 2) (az (.int 1))))
 (aB (aS 3 (aq bn (dr 1) (az (.int 0))))
 (jv (bC (aq (yO false) (ai 3) (dr 1))) (aB (cr (aF 1 1 uX (cm (aa (ai 3) (ah)))))
 (aS 3 (aq eE (aq bn (ai 0) (az (.int 1))) (aq bn (aq bn (ai 0) (az (.int 0))) (ai 3))))) 16))) 16)
 (bp (ai 2))))
def cb:List D->Option D:=iJ .s 4 ij
theorem oz(B:Bt mg)(F:Df K mg "_law_rounds" cO ["_law_square_here"])(ET:Et K mg kx0 kx1 kx2 kx3 kx4 kx5 kx6 kx7 kx8 kx9):Cl P w K mg base 1 "_law_rounds" ["_law_square_here"] (eW K .s 1 cb):=by
 refine bo (k:=0) F sc_law_rounds (by decide) rfl λ_ cdv A outer s H hid E hr=>?_
 exact(ao (gJ 1 sc_law_rounds.nd (fx rfl B.b_list B.b_range (aX aO dG B.b_len (aJ (aU aH aT (af 0) al (λ_ _=>rfl)) bj) (hv:=by kernel_rfl))))
  (ao (aW 2 sc_law_rounds.nd al)
  (ao (i4 16 PassesOwn.never (br (gv hr.units) iT (dC 1) (dD ar) (bh _)) (ao (aW 2 sc_law_rounds.nd (dX (af 2) al))
  (ao (aW 3 sc_law_rounds.nd (aU aH aT (dC 1) al (λ_ _=>rfl)))
  (au (i4 16 PassesOwn.never (br (AX hr.units) (Cp false) (af 3) (dC 1) (by with_unfolding_all rfl)) (ao (fy (ie 1 uN uh PySem.F.slot_list_remove PySem.F.type_list_remove (DA.gf (ag (af 3) ar))))
  (au (aW 3 sc_law_rounds.nd (bY hr.units (aU aH aT (af 0) al (λ_ _=>rfl)) (aU aH aT (aU aH aT (af 0) al (λ_ _=>rfl)) (af 3) (λ_ _=>rfl)))))))))))
  (au (ba (af 2))))))
theorem lU:FnScope ["_law_middle","_law_one","_law_other"] ["_law_middle","_law_one","_law_other"] (aj cn):=⟨rfl,rfl,rfl,by decide+kernel,rfl,by decide+kernel,by decide+kernel⟩
def mZ:FS:=
 bp (za nX nX (ak jw (aa (ai 1) (aa (ai 2) (ah)))) (ai 0) (ak nk (aa (ai 1) (aa (ai 2) (ah)))))
def bw:List D->Option D:=iJ .s 3 mZ
theorem mW(B:Bt mg)(F:Df K mg "_law_between" cn ["_law_middle","_law_one","_law_other"])(ET:Et K mg kx0 kx1 kx2 kx3 kx4 kx5 kx6 kx7 kx8 kx9):Cl P w K mg base 1 "_law_between" ["_law_middle","_law_one","_law_other"] (eW K .s 3 bw):=by
 refine bo (k:=0) F lU (by decide) rfl λ_ cdv A outer s H hid E hr=>?_
 exact(au (ba (y9 jx jx iy iy (aX (kj rfl) o9 B.b_min (aJ (af 1) (aJ (af 2) bj)) (hv:=by kernel_rfl)) (af 0) (aX (kg rfl) oq B.b_max (aJ (af 1) (aJ (af 2) bj)) (hv:=by kernel_rfl)))))
theorem sa:FnScope ["_law_begin","_law_end"] ["_law_begin","_law_end"] (aj eX):=⟨rfl,rfl,rfl,by decide+kernel,rfl,by decide+kernel,by decide+kernel⟩
def kr:FS:=
 bp (aq bn (bS (aa (CH (aq bx (ai 0) (az (.int 1))) (ai 1)) (aa (CI (aq iF (ai 0) (az (.int 1))) (ai 1) (iQ (az (.int 1)))) (ah)))) (ak oj (aa (aq nX (ai 1) (ai 0)) (ah))))
def dB:List D->Option D:=iJ .s 2 kr
theorem ue(B:Bt mg)(F:Df K mg "_law_way" eX ["_law_begin","_law_end"])(ET:Et K mg kx0 kx1 kx2 kx3 kx4 kx5 kx6 kx7 kx8 kx9):Cl P w K mg base 1 "_law_way" ["_law_begin","_law_end"] (eW K .s 2 dB):=by
 refine bo (k:=0) F sa (by decide) rfl λ_ cdv A outer s H hid E hr=>?_
 exact(au (ba (aU aH aT (dD (ag (DP.toS (mY rfl B.b_list B.b_range (dX (af 0) al) (af 1))) (ag (DP.toS (mV rfl B.b_list B.b_range (oS (af 0) al) (af 1) (ib al))) ar))) (fk ki qO B.b_int (aJ (mj jx iy (af 1) (af 0) (bh _)) bj) (hv:=by kernel_rfl)) (λ_ _=>rfl))))
theorem sc_law_word:FnScope ["_law_square_here","_law_rings","_law_crosses","_law_found","_law_column","_law_row","_law_far","_law_height","_law_other"] ["_law_square_here"] (aj eo):=⟨rfl,rfl,rfl,by decide+kernel,rfl,by decide+kernel,by decide+kernel⟩
def jD:FS:=
 aB (eV (gT 2 (dN (gN 1) (dN (gN 2) (jo)))) (pu (ai 0)))
 (aB (eI 3 (bS (ah)))
 (aB (aS 4 (az (.int 0)))
 (aB (jv (yp (bC (aq iE (dr 3) (bS (ah)))) (bC (aq iD (ai 4) (az (.int 0))))) (aB (aS 5 (aq bn (ai 1) (ai 4)))
 (aB (aS 6 (aq eE (ai 2) (ai 5)))
 (aB (fQ (cm (fN (ak (nF 2 dB) (aa (aq bn (ai 2) (ai 4)) (aa (ai 5) (ah)))))) (gN 7) (fH (eU (ak (nF 3 bw) (aa (ai 4) (aa (aq eE (ai 1) (ai 7)) (aa (aq eE (ai 2) (ai 7)) (ah)))))) (cr (aF 3 1 iP (cm (aa (cC (aa (ai 4) (aa (ai 7) (aa (az (.bl true)) (ah))))) (ah))))) (skip)))
 (aB (fQ (cm (fN (ak (nF 2 dB) (aa (ai 4) (aa (ai 6) (ah)))))) (gN 8) (fH (eU (ak (nF 3 bw) (aa (ai 5) (aa (aq bn (ai 1) (ai 8)) (aa (aq bn (ai 2) (ai 8)) (ah)))))) (cr (aF 3 1 iP (cm (aa (cC (aa (ai 8) (aa (ai 5) (aa (az (.bl false)) (ah))))) (ah))))) (skip)))
 (aB (aS 4 (ai 6))
 (fH (bC (aq iE (ai 4) (az (.int 0)))) (zw) (skip))))))) 16)
 (qG 3))))
def fo:List D->Option D:=iJ .n 9 jD
theorem rQ(B:Bt mg)(F:Df K mg "_law_word" eo ["_law_square_here"])(ET:Et K mg kx0 kx1 kx2 kx3 kx4 kx5 kx6 kx7 kx8 kx9)(i6:Cl P w K mg base 1 "_law_way" ["_law_begin","_law_end"] (eW K .s 2 dB))(fE:Cl P w K mg base 1 "_law_between" ["_law_middle","_law_one","_law_other"] (eW K .s 3 bw)):Cl P w K mg base 2 "_law_word" ["_law_square_here"] (eW K .n 1 fo):=by
 refine bo (k:=1) F sc_law_word (by decide) rfl λ_ cdv A outer s H hid E hr=>?_
 exact(ao (iR (DP.ef (af 0)) (cX (n:=2) rfl (aG (ax 1 sc_law_word.nd) (aG (ax 2 sc_law_word.nd) cV))))
  (ao (gJ 3 sc_law_word.nd (dD ar))
  (ao (aW 4 sc_law_word.nd al)
  (ao (i4 16 PassesOwn.never (DW.dt (vS (br (fJ hr.units) iw (dC 3) (dD ar) (bh _)) (rj (br (gv hr.units) iT (af 4) al (bh _))))) (ao (aW 5 sc_law_word.nd (aU aH aT (af 1) (af 4) (λ_ _=>rfl)))
  (ao (aW 6 sc_law_word.nd (bY hr.units (af 2) (af 5)))
  (ao (iV PassesOwn.never rfl (DIp.e (fO (bX i6 (hr.mono (by decide)) (ag (aU aH aT (af 2) (af 4) (λ_ _=>rfl)) (ag (af 5) ar))))) (ax 7 sc_law_word.nd) (au (et (ir (bX fE (hr.mono (by decide)) (ag (af 4) (ag (bY hr.units (af 1) (af 7)) (ag (bY hr.units (af 2) (af 7)) ar))))) (au (fy (ie 3 gP eY PySem.F.slot_list_append PySem.F.type_list_append (DA.gf (ag (fu (ag (af 4) (ag (af 7) (ag iz ar)))) ar iY))))) bH)))
  (ao (iV PassesOwn.never rfl (DIp.e (fO (bX i6 (hr.mono (by decide)) (ag (af 4) (ag (af 6) ar))))) (ax 8 sc_law_word.nd) (au (et (ir (bX fE (hr.mono (by decide)) (ag (af 5) (ag (aU aH aT (af 1) (af 8) (λ_ _=>rfl)) (ag (aU aH aT (af 2) (af 8) (λ_ _=>rfl)) ar))))) (au (fy (ie 3 gP eY PySem.F.slot_list_append PySem.F.type_list_append (DA.gf (ag (fu (ag (af 8) (ag (af 5) (ag iz ar)))) ar iY))))) bH)))
  (ao (aW 4 sc_law_word.nd (af 6))
  (au (et (br (fJ hr.units) iw (af 4) al (bh _)) (au u9) bH))))))))
  (au (lh 3))))))
theorem sc_law_said:FnScope ["_law_square_here","_law_e"] ["_law_square_here"] (aj dW):=⟨rfl,rfl,rfl,by decide+kernel,rfl,by decide+kernel,by decide+kernel⟩
def jI:FS:=
 rP 1 wc ["RookError"] (pT (gY 1 cL (kC (aa (ai 0) (ah))))) (bp (Ag 1 g9))
def cJ:List D->Option D:=iJ .s 2 jI
theorem rY(B:Bt mg)(F:Df K mg "_law_said" dW ["_law_square_here"])(ET:Et K mg kx0 kx1 kx2 kx3 kx4 kx5 kx6 kx7 kx8 kx9)(hX:ClX P w K mg base 6 "of_surface" ["square"] (yS K .s 1 cL))(jz:ClU P w K mg base 1 "_law_kind" ["_law_e"] (Co K .s g9)):Cl P w K mg base 7 "_law_said" ["_law_square_here"] (eW K .s 1 cJ):=by
 refine bo (k:=6) F sc_law_said (by decide) rfl λ_ cdv A outer s H hid E hr=>?_
 exact(au (vg 1 sc_law_said.nd ⟨rfl,rfl⟩ (λ_ _=>(mF (tD (wQ hX (hr.mono (by decide)) (DA.rr (DA.nox (ag (af 0) ar))))))) (xy ET.t rfl (List.Mem.head _)) (λ_=>(au (ba (zp 1 jz ((hr.u.mono (by decide)).mark _)))))))
theorem sc_law_pieces:FnScope ["_law_cells","_law_names","_law_place","_law_cell_here","_law_other","_law_one","_law_two"] ["_law_cells"] (aj cP):=⟨rfl,rfl,rfl,by decide+kernel,rfl,by decide+kernel,by decide+kernel⟩
def g8:FS:=
 aB (aS 1 (uO (ak bD (aa (ai 0) (ah)))))
 (aB (fQ (cm (pr (ai 0))) (gT 2 (dN (gN 2) (dN (gN 3) (jo)))) (aB (aS 4 (aq bn (bu 1 (dc (aa (ak bD (aa (ai 0) (ah))) (ah))) (gN 7) (ko (bC (aq iE (aq bn (ai 0) (ai 7)) (ai 3))) (bC (aq iD (ai 7) (ai 2)))) (ai 7)) (az (.int 0))))
 (aB (eV (gT 2 (dN (gN 5) (dN (gN 6) (jo)))) (pu (cC (aa (aq bn (ai 1) (ai 2)) (aa (aq bn (ai 1) (aq bz (aq bx (ai 4) (az (.int 1))) (ak bD (aa (ai 0) (ah))))) (ah))))))
 (aS 1 (bu 1 (fN (ai 1)) (gN 7) (gz) (aq bn (bS (aa (ai 7) (aa (ai 5) (ah)))) (ak oj (aa (aq iE (ai 7) (ai 6)) (ah)))))))))
 (bp (ak nk (aa (az (.int 1)) (aa (qB (ai 1)) (ah))))))
def dv:List D->Option D:=iJ .s 7 g8
theorem pg(B:Bt mg)(F:Df K mg "_law_pieces" cP ["_law_cells"])(ET:Et K mg kx0 kx1 kx2 kx3 kx4 kx5 kx6 kx7 kx8 kx9):Cl P w K mg base 1 "_law_pieces" ["_law_cells"] (eW K .s 1 dv):=by
 refine bo (k:=0) F sc_law_pieces (by decide) rfl λ_ cdv A outer s H hid E hr=>?_
 exact(ao (aW 1 sc_law_pieces.nd (DP.toS (fx rfl B.b_list B.b_range (aX aO dG B.b_len (aJ (af 0) bj) (hv:=by kernel_rfl)))))
  (ao (iV PassesOwn.never rfl (DIp.e (kq (af 0) B.b_enumerate)) (cX (n:=2) rfl (aG (ax 2 sc_law_pieces.nd) (aG (ax 3 sc_law_pieces.nd) cV))) (ao (aW 4 sc_law_pieces.nd (aU aH aT (gB (N':=["_law_cells","_law_names","_law_place","_law_cell_here","_law_other","_law_one","_law_two","_law_at"]) rfl (bW (Nat.le_of_ble_eq_true rfl)) (DIp.b (cK B.b_range (ag (aX aO dG B.b_len (aJ (af 0) bj) (hv:=by kernel_rfl)) ar))) (λ_ _ _ _=>(ax 7 C0)) (λ_ _ _ _=>(li (DW.dt (AU (br (fJ hr.units) iw (aU aH aT (af 0) (af 7) (λ_ _=>rfl)) (af 3) (bh _)) (xr (br (gv hr.units) iT (af 7) (af 2) (bh _))))))) (λ_ _ _ _=>(af 7))) al (λ_ _=>rfl)))
  (ao (iR (DP.ef (fu (ag (aU aH aT (af 1) (af 2) (λ_ _=>rfl)) (ag (aU aH aT (af 1) (dZ (dX (af 4) al) (aX aO dG B.b_len (aJ (af 0) bj) (hv:=by kernel_rfl))) (λ_ _=>rfl)) ar)))) (cX (n:=2) rfl (aG (ax 5 sc_law_pieces.nd) (aG (ax 6 sc_law_pieces.nd) cV))))
  (au (sJ 1 (N':=["_law_cells","_law_names","_law_place","_law_cell_here","_law_other","_law_one","_law_two","_law_name"]) rfl sc_law_pieces.nd (bW (Nat.le_of_ble_eq_true rfl)) (DIp.b (fO (af 1))) (λ_ _ _ _=>(ax 7 Bv)) (λ_ _ _ _=>eM) (λ_ _ _ _=>(aU aH aT (dD (ag (af 7) (ag (af 5) ar))) (fk ki qO B.b_int (aJ (mj (fJ hr.units) iw (af 7) (af 6) (bh _)) bj) (hv:=by kernel_rfl)) (λ_ _=>rfl))))))))
  (au (ba (aX (kg rfl) oq B.b_max (aJ al (aJ (uo rfl B.b_len B.b_set (af 1)) bj)) (hv:=by kernel_rfl))))))
theorem sc_law_known:FnScope ["_law_bag_here","_law_six","_law_by","_law_up","_law_ways","_law_square_here","_law_n"] ["_law_bag_here","_law_six"] (aj dk):=⟨rfl,rfl,rfl,by decide+kernel,rfl,by decide+kernel,by decide+kernel⟩
def iO:FS:=
 aB (eV (gT 3 (dN (gN 2) (dN (gN 3) (dN (gN 4) (jo))))) (ur (cZ (aF 0 1 aM (cm (aa (az (.int 6)) (ah)))) (cZ (aF 0 1 aM (cm (aa (az (.int 6)) (ah)))) (cZ (aF 0 1 aM (cm (aa (az (.int 4)) (ah)))) (cm (ah)))))))
 (aB (aS 5 (aq bn (bS (aa (cC (aa (cC (aa (az (.int 0)) (aa (az (.int 1)) (aa (az (.int 2)) (aa (az (.int 3)) (aa (az (.int 4)) (ah))))))) (aa (cC (aa (az (.int 2)) (aa (az (.int 3)) (aa (az (.int 4)) (aa (az (.int 0)) (aa (az (.int 1)) (ah))))))) (ah)))) (aa (cC (aa (cC (aa (az (.int 4)) (aa (az (.int 3)) (aa (az (.int 1)) (aa (az (.int 2)) (aa (az (.int 5)) (aa (az (.int 0)) (ah)))))))) (aa (cC (aa (az (.int 2)) (aa (az (.int 5)) (aa (az (.int 4)) (aa (az (.int 0)) (aa (az (.int 1)) (aa (az (.int 3)) (ah)))))))) (ah)))) (ah)))) (ak oj (aa (ai 1) (ah)))))
 (aB (aS 6 (ak bD (aa (aq bn (ai 5) (az (.int 0))) (ah))))
 (aB (fH (bC (aq iE (aq bz (ai 4) (az (.int 2))) (az (.int 1)))) (aS 5 (cC (aa (uj (aq bn (ai 5) (az (.int 0))) (Bg (iQ (az (.int 1))))) (aa (uj (aq bn (ai 5) (az (.int 1))) (Bg (iQ (az (.int 1))))) (ah))))) (skip))
 (aB (fH (bC (aq Ee (ai 4) (az (.int 1)))) (aS 5 (cC (aa (aq bn (ai 5) (az (.int 1))) (aa (aq bn (ai 5) (az (.int 0))) (ah))))) (skip))
 (bp (ak fb (aa (bu 1 (fN (ai 5)) (gN 7) (gz) (ak fb (aa (bu 1 (dc (aa (ai 6) (ah))) (gN 8) (gz) (aq bz (aq bx (aq bn (ai 7) (aq bz (aq iF (ai 8) (ai 2)) (ai 6))) (ai 3)) (ai 6))) (ah)))) (ah))))))))
def fF:List D->List D->Option (D×List D):=qK .s 7 iO
theorem pI(B:Bt mg)(F:Df K mg "_law_known" dk ["_law_bag_here","_law_six"])(ET:Et K mg kx0 kx1 kx2 kx3 kx4 kx5 kx6 kx7 kx8 kx9)(bb:Cl P w K mg base 1 "_law_take" ["_law_bag_here","_law_many"] (qJ K .s 1 aM)):Cl P w K mg base 2 "_law_known" ["_law_bag_here","_law_six"] (qJ K .s 1 fF):=by
 refine oV (k:=1) F sc_law_known (by decide) rfl λ_ cdv A outer s H hid a E hr=>?_
 exact(by refine ao ?_ ?_;(exact(iR (Aa (jl (iu 0 bb (hr.mono (by decide)) (DA.gf (ag al ar))) (jl (iu 0 bb (hr.mono (by decide)) (DA.gf (ag al ar))) (jl (iu 0 bb (hr.mono (by decide)) (DA.gf (ag al ar))) (DA.gf ar))))) (cX (n:=3) rfl (aG (ax 2 sc_law_known.nd) (aG (ax 3 sc_law_known.nd) (aG (ax 4 sc_law_known.nd) cV))))));exact
  (by refine ao ?_ ?_;(exact(by refine QS.ds ?_;refine xw 5 sc_law_known.nd ?_ (hs:= ?_);(exact(B6 (qX (aR (kB (aR (kB (aR (QP.of al) (aR (QP.of al) (aR (QP.of al) (aR (QP.of al) (aR (QP.of al) ip)))))) (aR (kB (aR (QP.of al) (aR (QP.of al) (aR (QP.of al) (aR (QP.of al) (aR (QP.of al) ip)))))) ip iY) iY)) (aR (kB (aR (kB (aR (QP.of al) (aR (QP.of al) (aR (QP.of al) (aR (QP.of al) (aR (QP.of al) (aR (QP.of al) ip))))))) (aR (kB (aR (QP.of al) (aR (QP.of al) (aR (QP.of al) (aR (QP.of al) (aR (QP.of al) (aR (QP.of al) ip))))))) ip iY) iY)) ip iY) iY)) (QP.of (fk ki qO B.b_int (aJ (af 1) bj) (hv:=by kernel_rfl))) (λ_ _=>rfl)));kernel_rfl));exact
  (ao (aW 6 sc_law_known.nd (aX aO dG B.b_len (aJ (aU aH aT (af 5) al (λ_ _=>rfl)) bj) (hv:=by kernel_rfl)))
  (ao (et (br (fJ hr.units) iw (dZ (af 4) al) al (bh _)) (au (aW 5 sc_law_known.nd (fu (ag (tT (aU aH aT (af 5) al (λ_ _=>rfl)) (sR (ib al))) (ag (tT (aU aH aT (af 5) al (λ_ _=>rfl)) (sR (ib al))) ar))))) bH)
  (ao (et (br Ck iy (af 4) al (bh _)) (au (aW 5 sc_law_known.nd (fu (ag (aU aH aT (af 5) al (λ_ _=>rfl)) (ag (aU aH aT (af 5) al (λ_ _=>rfl)) ar))))) bH)
  (au (ba (fk fA jZ B.b_tuple (aJ (gB (N':=["_law_bag_here","_law_six","_law_by","_law_up","_law_ways","_law_square_here","_law_n","_law_marks"]) rfl (bW (Nat.le_of_ble_eq_true rfl)) (DIp.b (fO (af 5))) (λ_ _ _ _=>(ax 7 Cs)) (λ_ _ _ _=>eM) (λ_ _ _ _=>(fk fA jZ B.b_tuple (aJ (gB (N':=["_law_bag_here","_law_six","_law_by","_law_up","_law_ways","_law_square_here","_law_n","_law_marks","_law_c"]) rfl (bW (Nat.le_of_ble_eq_true rfl)) (DIp.b (cK B.b_range (ag (af 6) ar))) (λ_ _ _ _=>(ax 8 BX)) (λ_ _ _ _=>eM) (λ_ _ _ _=>(dZ (dX (aU aH aT (af 7) (dZ (oS (af 8) (af 2)) (af 6)) (λ_ _=>rfl)) (af 3)) (af 6)))) bj) (hv:=by kernel_rfl)))) bj) (hv:=by kernel_rfl)))))))))
theorem sc_law:FnScope ["_law_script","_law_k","_law_bag_here","_law_way_here","_law_square_here","_law_found","_law_cells"] ["_law_script"] (aj jr):=⟨rfl,rfl,rfl,by decide+kernel,rfl,by decide+kernel,by decide+kernel⟩
def vn:FS:=
 aB (fQ (cm (dc (aa (az (.int 4)) (ah)))) (gN 1) (aB (eI 2 (ak (nF 2 jb) (aa (ai 0) (aa (ai 1) (ah)))))
 (aB (h9 3 (aF 2 1 aM (cm (aa (az (.int 6)) (ah)))))
 (aB (h9 4 (aF 2 1 fL (cZ (lB bx (pu (az (.int 2))) (aF 2 1 aM (cm (aa (az (.int 5)) (ah))))) (cm (ah)))))
 (aB (fH (bC (aq nX (ai 3) (az (.int 2)))) (h9 4 (aF 2 1 fF (cm (aa (aq iE (ai 3) (az (.int 1))) (ah))))) (skip))
 (aB (aS 5 (ak (nF 1 cJ) (aa (ai 4) (ah))))
 (fH (bC (aq iD (ak (nF 1 cb) (aa (ai 4) (ah))) (az (.int 1)))) (fH (bC (aq iD (ai 5) (az (.int 4)))) (bp (az (.bl false))) (skip)) (aB (aS 6 (bu 3 (fN (ak (nF 1 fo) (aa (ai 4) (ah)))) (gT 3 (dN (gN 7) (dN (gN 8) (dN (gN 9) (jo))))) (gz) (cC (aa (ai 7) (aa (ai 8) (ah))))))
 (aB (fH (yp (gU (eU (ak (nF 1 eA) (aa (ai 5) (ah))))) (bC (aq nX (ai 5) (az (.int 0))))) (bp (az (.bl false))) (skip))
 (fH (bC (aq iD (aq ee (az (.int 2)) (ai 5)) (aq bx (aq iF (aq gC (ak bD (aa (ai 6) (ah))) (az (.int 2))) (ak (nF 1 dv) (aa (ai 6) (ah)))) (az (.int 1))))) (bp (az (.bl false))) (skip)))))))))))
 (bp (az (.bl true)))
def zb:List D->Option D:=iJ .s 7 vn
theorem Aw {f:Addr}{fd:FuncData}(B:Bt mg)(F:Fun K "law" "law" jr f fd)(ET:Et K mg kx0 kx1 kx2 kx3 kx4 kx5 kx6 kx7 kx8 kx9)(kE:Cl P w K mg base 2 "_law_bag" ["_law_script","_law_at"] (eW K .n 2 jb))(bb:Cl P w K mg base 1 "_law_take" ["_law_bag_here","_law_many"] (qJ K .s 1 aM))(ig:Cl P w K mg base 3 "_law_square" ["_law_bag_here","_law_n"] (qJ K .s 1 fL))(jL:Cl P w K mg base 7 "_law_said" ["_law_square_here"] (eW K .s 1 cJ))(iX:Cl P w K mg base 2 "_law_known" ["_law_bag_here","_law_six"] (qJ K .s 1 fF))(ic:Cl P w K mg base 1 "_law_rounds" ["_law_square_here"] (eW K .s 1 cb))(jC:Cl P w K mg base 2 "_law_word" ["_law_square_here"] (eW K .n 1 fo))(iW:Cl P w K mg base 1 "_law_whole" ["_law_thing"] (eW K .s 1 eA))(hV:Cl P w K mg base 1 "_law_pieces" ["_law_cells"] (eW K .s 1 dv)):FnOk P w K mg base nM 8 f fd ["_law_script"] (eW K .s 1 zb):=by
 refine t4 (k:=7) F sc_law (by decide) λcdv A outer s H hid E hr=>?_
 exact(ao (iV PassesOwn.never rfl (DIp.e (cK B.b_range (ag al ar))) (ax 1 sc_law.nd) (ao (gJ 2 sc_law.nd (bX kE (hr.mono (by decide)) (ag (af 0) (ag (af 1) ar))))
  (ao (je 3 sc_law.nd (iu 2 bb (hr.mono (by decide)) (DA.gf (ag al ar))))
  (ao (je 4 sc_law.nd (iu 2 ig (hr.mono (by decide)) (jl (vH (DP.ef al) (iu 2 bb (hr.mono (by decide)) (DA.gf (ag al ar)))) (DA.gf ar))))
  (ao (et (br jx iy (af 3) al (bh _)) (au (je 4 sc_law.nd (iu 2 iX (hr.mono (by decide)) (DA.gf (ag (mj (fJ hr.units) iw (af 3) al (bh _)) ar))))) bH)
  (ao (aW 5 sc_law.nd (bX jL (hr.mono (by decide)) (ag (af 4) ar)))
  (au (et (br (gv hr.units) iT (bX ic (hr.mono (by decide)) (ag (af 4) ar)) al (bh _)) (au (et (br (gv hr.units) iT (af 5) al (bh _)) (au (ba iz)) bH)) (ao (sJ 6 (N':=["_law_script","_law_k","_law_bag_here","_law_way_here","_law_square_here","_law_found","_law_cells","_law_column","_law_row","_law_over"]) rfl sc_law.nd (lQ (bq (bW (Nat.le_of_ble_eq_true rfl)) (bq (bW (Nat.le_of_ble_eq_true rfl)) (bq (bW (Nat.le_of_ble_eq_true rfl)) gS)))) (DIp.b (fO (DP.toS (bX jC (hr.mono (by decide)) (ag (af 4) ar))))) (λ_ _ _ _=>(cX (n:=3) rfl (aG (ax 7 va) (aG (ax 8 va) (aG (ax 9 va) cV))))) (λ_ _ _ _=>eM) (λ_ _ _ _=>(fu (ag (af 7) (ag (af 8) ar)))))
  (ao (et (DW.dt (vS (lX (ir (bX iW (hr.mono (by decide)) (ag (af 5) ar)))) (rj (br jx iy (af 5) al (bh _))))) (au (ba iz)) bH)
  (au (et (br (gv hr.units) iT (jF al (af 5)) (dX (oS (nY (aX aO dG B.b_len (aJ (af 6) bj) (hv:=by kernel_rfl)) al) (bX hV (hr.mono (by decide)) (ag (af 6) ar))) al) (bh _)) (au (ba iz)) bH))))))))))))
  (au (ba iz)))
end
theorem vJ(v:Nat): ∀l:List Nat,v∈l-> ∃j,(l.map nI).findIdx? (λd=>cu d (nI v))=some j/\j<l.length/\l.getD j 0=v
 | [],h=>absurd h List.not_mem_nil
 |y::l,h=>by
  rw[List.map_cons,List.findIdx?_cons,gZ]
  by_cases e:y=v
  ·exact⟨0,by simp[e],by simp,by simpa using e⟩
  ·obtain⟨j,h1,h2,h3⟩:=vJ v l ((List.mem_cons.mp h).resolve_left (Ne.symm e))
   refine⟨j+1,by simp[e,h1],by simp[h2],by simpa using h3⟩
structure Sg(n:Nat)(r x:List Nat)(S:Nat->Nat):Prop where
 ev: ∀y,y<n->eE (bi x) (nI (r.getD y 0))=some (nI (S y))
 lt: ∀y,y<n->S y<n
 inj: ∀y z,y<n->z<n->S y=S z->y=z
theorem fY {n:Nat}{l:List Nat}(nd:l.Nodup)(h: ∀z∈l,z<n):l.length<=n:=by
 have p:l.Perm ((List.range n).filter λz=>decide (z∈l)):=(List.perm_ext_iff_of_nodup nd (List.Pairwise.filter _ List.nodup_range)).mpr λz=>by
  rw[List.mem_filter,List.mem_range,decide_eq_true_eq];exact⟨λq=>⟨h z q,q⟩,λq=>q.2⟩
 rw[p.length_eq];exact Nat.le_trans (List.length_filter_le _ _) (by simp)
def eN(S:Nat->Nat):Nat->Nat->Nat
 |0,s=>s
 |k+1,s=>S (eN S k s)
def gA(S:Nat->Nat)(s z:Nat):Prop:= ∃k,eN S k s=z
theorem cz(S:Nat->Nat)(s:Nat):gA S s s:=⟨0,rfl⟩
theorem cD {S:Nat->Nat}{s z:Nat}(h:gA S s z):gA S s (S z):=let⟨k,e⟩:=h;⟨k+1,by show S (eN S k s)=_;rw[e]⟩
theorem jS(S:Nat->Nat)(s m:Nat): ∀k,eN S k (eN S m s)=eN S (k+m) s
 |0=>by rw[Nat.zero_add];rfl
 |k+1=>by rw[Nat.succ_add];show S _=S _;rw[jS S s m k]
theorem aZ {S:Nat->Nat}{a b c:Nat}(h1:gA S a b)(h2:gA S b c):gA S a c:=by
 obtain⟨m,rfl⟩:=h1
 obtain⟨k,rfl⟩:=h2
 exact⟨k+m,(jS S a m k).symm⟩
structure Wlk(n:Nat)(S:Nat->Nat)(s:Nat)(W:List Nat)(t:Nat):Prop where
 nd:W.Nodup
 lt: ∀z∈W,z<n
 hs:s∈W
 ht:t∈W
 pre: ∀z∈W,z≠s-> ∃y∈W,y≠t/\S y=z
 nxt: ∀z∈W,z≠t->S z∈W
 on: ∀z∈W,gA S s z
 back: ∀z∈W,gA S z t
structure Cyc(n:Nat)(S:Nat->Nat)(s:Nat)(W:List Nat):Prop where
 lt: ∀z∈W,z<n
 mem: ∀z,z∈W↔gA S s z
 back: ∀z,z∈W->gA S z s
section
variable {n:Nat}{r x:List Nat}{S:Nat->Nat}(H:Sg n r x S)
theorem Wlk.start {s:Nat}(hs:s<n):Wlk n S s [s] s:=
 ⟨by simp,λz hz=>by rw[List.mem_singleton] at hz;rw[hz];exact hs,by simp,by simp,λz hz hn=>absurd (List.mem_singleton.mp hz) hn,λz hz hn=>absurd (List.mem_singleton.mp hz) hn,λz hz=>by rw[List.mem_singleton] at hz;rw[hz];exact cz S s,λz hz=>by rw[List.mem_singleton] at hz;rw[hz];exact cz S s⟩
include H
theorem Wlk.notin {s t:Nat}{W:List Nat}(w:Wlk n S s W t)(h:S t≠s):S t∉W:=λhm=>by
 obtain⟨y,y1,y2,y3⟩:=w.pre _ hm h
 exact y2 (H.inj _ _ (w.lt _ y1) (w.lt _ w.ht) y3)
theorem Wlk.next {s t:Nat}{W:List Nat}(w:Wlk n S s W t)(h:S t≠s):Wlk n S s (W++[S t]) (S t):=by
 have hm:=w.notin H h
 have cs: ∀ {P:Nat->Prop},(∀z∈W,P z)->P (S t)-> ∀z∈W++[S t],P z:=λh1 h2 z hz=>(List.mem_append.mp hz).elim (h1 z) λq=>by rw[List.mem_singleton] at q;rw[q];exact h2
 refine⟨List.nodup_append.mpr ⟨w.nd,by simp,λu hu v hv=>by rw[List.mem_singleton] at hv;subst hv;exact λe=>hm (e▸hu)⟩,cs w.lt (H.lt _ (w.lt _ w.ht)),List.mem_append_left _ w.hs,by simp,cs (λz hz hn=>?_) (λ_=>⟨t,List.mem_append_left _ w.ht,λe=>hm (e▸w.ht),rfl⟩),cs (λz hz hn=>?_) (λq=>absurd rfl q),cs w.on (cD (w.on _ w.ht)),cs (λz hz=>cD (w.back z hz)) (cz S _)⟩
 ·obtain⟨y,y1,_,y3⟩:=w.pre z hz hn
  exact⟨y,List.mem_append_left _ y1,λe=>hm (e▸y1),y3⟩
 ·by_cases e:z=t
  ·subst e;simp
  ·exact List.mem_append_left _ (w.nxt z hz e)
omit H in
theorem Wlk.done {s t:Nat}{W:List Nat}(w:Wlk n S s W t)(h:S t=s):Cyc n S s W:=by
 refine⟨w.lt,λz=>⟨w.on z,?_⟩,λz hz=>h▸cD (w.back z hz)⟩
 rintro⟨k,rfl⟩
 induction k with
 |zero=>exact w.hs
 |succ k ih=>
  show S (eN S k s)∈W
  by_cases e:eN S k s=t
  ·rw[e,h];exact w.hs
  ·exact w.nxt _ ih e
theorem wj {s:Nat}(hs:s<n): ∃W,Cyc n S s W:=by
 have go: ∀(f:Nat) (W:List Nat) (t:Nat),n<f+W.length->Wlk n S s W t-> ∃W,Cyc n S s W:=by
  intro f
  induction f with
  |zero=>intro W t h w;exact absurd (fY w.nd w.lt) (by omega)
  |succ f ih=>
   intro W t h w
   by_cases e:S t=s
   ·exact⟨W,w.done e⟩
   ·exact ih (W++[S t]) (S t) (by rw[List.length_append,List.length_singleton];omega) (w.next H e)
 exact go (n+1) [s] s (by omega) (Wlk.start hs)
theorem bc {s z:Nat}(hs:s<n)(h:gA S s z):gA S z s:=by
 obtain⟨W,c⟩:=wj H hs
 exact c.back z ((c.mem z).mpr h)
end
def led(S:Nat->Nat)(s:Nat):Prop:= ∀z,gA S s z->s<=z
noncomputable def du(S:Nat->Nat)(s:Nat):Bool:= @decide (led S s) (Classical.propDecidable _)
theorem ledB_iff {S:Nat->Nat}{s:Nat}:du S s=true↔led S s:=by unfold du;exact @decide_eq_true_iff _ (Classical.propDecidable _)
theorem vz {n:Nat}{r x:List Nat}{S:Nat->Nat}(H:Sg n r x S){c:Nat}{l W:List Nat}(hl:(c::l).Pairwise (·< ·))(lt: ∀z∈c::l,z<n)(cl: ∀z∈c::l,S z∈c::l)(C:Cyc n S c W):
 ((c::l).filter (du S)).length=(((c::l).filter λz=>decide (z∉W)).filter (du S)).length+1
 /\(∀z∈(c::l).filter (λz=>decide (z∉W)),S z∈(c::l).filter (λz=>decide (z∉W)))
 /\((c::l).filter λz=>decide (z∉W)).length<=l.length:=by
 have hc:c<n:=lt c (List.mem_cons_self ..)
 have rl: ∀z,gA S c z->z∈c::l:=by
  rintro z ⟨k,rfl⟩
  induction k with
  |zero=>exact List.mem_cons_self ..
  |succ k ih=>exact cl _ ih
 have cW:c∈W:=(C.mem c).mpr (cz S c)
 have p:=List.pairwise_cons.mp hl
 have lc:led S c:=λz hz=>(List.mem_cons.mp (rl z hz)).elim (λe=>by omega) λq=>by have:=p.1 z q;omega
 have e1:(c::l).filter (λz=>decide (z∉W))=l.filter λz=>decide (z∉W):=List.filter_cons_of_neg (by simpa using cW)
 refine⟨?_,λz hz=>?_,?_⟩
 ·rw[e1,List.filter_cons_of_pos (ledB_iff.mpr lc),List.length_cons,List.filter_filter]
  congr 1
  refine congrArg List.length (List.filter_congr λz hz=>?_)
  cases e:du S z
  ·rfl
  ·rw[Bool.true_and]
   symm
   rw[decide_eq_true_eq];intro zW;have h1:=ledB_iff.mp e c (C.back z zW)
   have:=p.1 z hz
   omega
 ·rw[List.mem_filter,decide_eq_true_eq] at hz⊢
  refine⟨cl z hz.1,λq=>hz.2 ?_⟩
  rw[C.mem] at q⊢;exact aZ q (bc H (lt z hz.1) ⟨1,rfl⟩)
 ·rw[e1];exact List.length_filter_le _ _
theorem C5 {c:Nat}: ∀ {l:List Nat},c∈l->l.Nodup->uX (l.map nI) [nI c]=some (.non,(l.filter λz=>decide (z≠c)).map nI):=by
 have intq: ∀l:List Nat,gl (l.map nI)=some (l.map λ(z:Nat)=>(z:Int)):=by
  intro l
  induction l with
  |nil=>rfl
  |cons z l ih=>rw[List.map_cons];show(gl (l.map nI)).map _=_;rw[ih];rfl
 have go: ∀l:List Nat,c∈l->l.Nodup-> ∃j,(l.map λ(z:Nat)=>(z:Int)).findIdx? (λm=>m==(c:Int))=some j/\(l.map nI).eraseIdx j=(l.filter λz=>decide (z≠c)).map nI:=by
  intro l
  induction l with
  |nil=>intro h;exact absurd h List.not_mem_nil
  |cons y l ih=>
   intro h nd;rw[List.nodup_cons] at nd
   by_cases e:y=c
   ·subst e
    refine⟨0,by rw[List.map_cons,List.findIdx?_cons];simp,?_⟩
    rw[List.map_cons,List.eraseIdx_cons_zero,List.filter_cons_of_neg (by simp)]
    rw[List.filter_eq_self.mpr];intro z hz;rw[decide_eq_true_eq];exact λe=>nd.1 (e▸hz)
   ·obtain⟨j,h1,h2⟩:=ih ((List.mem_cons.mp h).resolve_left (Ne.symm e)) nd.2
    refine⟨j+1,?_,?_⟩
    ·rw[List.map_cons,List.findIdx?_cons,h1,if_neg (by simpa using λq:(y:Int)=c=>e (by omega))];rfl
    ·rw[List.map_cons,List.eraseIdx_cons_succ,h2,List.filter_cons_of_pos (by simpa using e),List.map_cons]
 intro l h nd;obtain⟨j,h1,h2⟩:=go l h nd
 show(match gl (l.map nI) with
  |some ns=>(ns.findIdx? (λm=>m==(c:Int))).map λj=>(D.non,(l.map nI).eraseIdx j)
  |none=>none)=_
 rw[intq];dsimp only;rw[h1,Option.map_some,h2]
def BN:FT:=bC (aq iD (aq bn (ai 0) (aq bn (dr 3) (iQ (az (.int 1))))) (ai 2))
def Bz:FS:=cr (aF 3 1 iP (cm (aa (aq bn (ai 0) (aq bn (dr 3) (iQ (az (.int 1))))) (ah))))
def Dr:FS:=fH (bC (aq iE (ak nA (aa (dr 3) (ah))) (ai 2))) ((λρ=>(cr (aF 1 1 iP (cm (aa (ai 3) (ah))))) (uC 3 ρ))) (skip)
structure Wl(n:Nat)(S:Nat->Nat)(s:Nat)(W:List Nat)(t:Nat):Prop where
 w:Wlk n S s W t
 last:W.getLast?=some t
 eq:W=(List.range W.length).map λi=>eN S i s
structure Cy(n:Nat)(S:Nat->Nat)(s:Nat)(W:List Nat):Prop where
 c:Cyc n S s W
 eq:W=(List.range W.length).map λi=>eN S i s
 per:eN S W.length s=s
 nd:W.Nodup
 pos:0<W.length
structure Sh(n:Nat)(S:Nat->Nat):Prop where
 lt: ∀y,y<n->S y<n
 inj: ∀y z,y<n->z<n->S y=S z->y=z
theorem Sh.sg {n:Nat}{S:Nat->Nat}(H:Sh n S):Sg n ((List.range n).map S) (List.range n) S:=by
 refine⟨λy hy=>?_,H.lt,H.inj⟩
 have e:((List.range n).map S).getD y 0=S y:=by simp[List.getD,hy]
 rw[e];obtain⟨j,h1,h2,h3⟩:=vJ (S y) (List.range n) (List.mem_range.mpr (H.lt y hy))
 have:j=S y:=by
  rw[List.length_range] at h2;simpa [List.getD,h2] using h3
 subst this;show(if ck ((List.range n).map nI)<=32 then(jp ((List.range n).map nI) (nI (S y))).map (λj=>D.int j) else none)=_
 rw[if_pos (by rw[lA];omega)]
 unfold jp;rw[h1];rfl
theorem Wl.start {n:Nat}{S:Nat->Nat}{s:Nat}(hs:s<n):Wl n S s [s] s:=⟨Wlk.start hs,rfl,rfl⟩
theorem Wl.tt {n:Nat}{S:Nat->Nat}{s t:Nat}{W:List Nat}(w:Wl n S s W t):S t=eN S W.length s:=by
 have h:=w.last
 have e:=w.eq
 have hp:0<W.length:=by
  cases W with
  |nil=>cases h
  |cons=>simp
 rw[List.getLast?_eq_getElem?] at h;have e2:W[W.length-1]? =some (eN S (W.length-1) s):=by
  have q: ∀k,k<W.length->((List.range W.length).map λi=>eN S i s)[k]? =some (eN S k s):=λk hk=>by rw[List.getElem?_map,List.getElem?_range hk];rfl
  have q2:=q (W.length-1) (by omega)
  rw[<-e] at q2;exact q2
 have e3:=h.symm.trans e2
 injection e3 with e3
 have:W.length=(W.length-1)+1:=by omega
 rw[this];show S t=S (eN S (W.length-1) s);rw[<-e3]
theorem Wl.next {n:Nat}{S:Nat->Nat}(H:Sh n S){s t:Nat}{W:List Nat}(w:Wl n S s W t)(h:S t≠s):Wl n S s (W++[S t]) (S t):=by
 refine⟨w.w.next H.sg h,by simp,?_⟩
 rw[List.length_append,List.length_singleton,List.range_succ,List.map_append,<-w.eq,w.tt];rfl
theorem Wl.done {n:Nat}{S:Nat->Nat}{s t:Nat}{W:List Nat}(w:Wl n S s W t)(h:S t=s):Cy n S s W:=by
 refine⟨w.w.done h,w.eq,by rw[<-w.tt];exact h,w.w.nd,?_⟩
 have:=w.last
 cases W with
 |nil=>cases this
 |cons=>simp
theorem Cy.uniq {n:Nat}{S:Nat->Nat}{s:Nat}{W W':List Nat}(a:Cy n S s W)(b:Cy n S s W'):W=W':=by
 have key: ∀ {W W':List Nat},Cy n S s W->Cy n S s W'-> ¬W.length<W'.length:=λ{W W'} a b h=>by
  have e0:W'[0]? =some s:=by rw[b.eq];simp[b.pos];rfl
  have e1:W'[W.length]? =some s:=by rw[b.eq];simp[h];exact a.per
  have:=(List.getElem?_inj (by exact b.pos) b.nd).mp (e0.trans e1.symm)
  have:=a.pos
  omega
 have:W.length=W'.length:=by have h1:=key a b;have h2:=key b a;omega
 rw[a.eq,b.eq,this]
section
variable {n:Nat}{S:Nat->Nat}(H:Sh n S)(hn:n<=14)
abbrev xg(n:Nat)(S:Nat->Nat)(F:List D)(s:Nat)(W:List Nat):aC:=[.v (.lst (((List.range n).map S).map nI)),.own F,.v (nI s),.own (W.map nI)]
theorem xH {W:List Nat}{t:Nat}(h:W.getLast?=some t):bn (.lst (W.map nI)) (.int (-1))=some (nI t):=by
 show nJ (W.map nI) (-1)=_;have hp:0<W.length:=by
  cases W with
  |nil=>cases h
  |cons=>simp
 unfold nJ qy;rw[if_neg (by omega),if_pos (by rw[List.length_map];omega),Option.bind_some]
 have:(-1+((W.map nI).length:Int)).toNat=W.length-1:=by rw[List.length_map];omega
 rw[this,List.getElem?_map,<-List.getLast?_eq_getElem?,h];rfl
theorem AS(ρ:aC):iQ (az (.int 1)) ρ=some (.int (-1)):=rfl
include H in
theorem wy {F:List D}{s t:Nat}{W:List Nat}(w:Wl n S s W t):aq bn (ai 0) (aq bn (dr 3) (iQ (az (.int 1)))) (xg n S F s W)=some (nI (S t)):=by
 refine(av (x:=.lst (((List.range n).map S).map nI)) (y:=nI t) rfl ((av (x:=.lst (W.map nI)) rfl (AS _)).trans (xH w.last))).trans ?_
 have ht:=w.w.lt _ w.w.ht
 refine(mE (by simp[ht])).trans ?_
 congr 2
 simp[List.getD,ht]
theorem si: ∀l:List Nat,gl (l.map nI)=some (l.map λ(z:Nat)=>(z:Int))
 | []=>rfl
 |z::l=>by rw[List.map_cons];show(gl (l.map nI)).map _=_;rw[si l];rfl
theorem BQ {l:List Nat}{s:Nat}(h:s∈l): ∃v:Int,nA [.lst (l.map nI)]=some (.int v)/\(v=s↔ ∀z∈l,s<=z):=by
 refine⟨ky (l.map λ(z:Nat)=>(z:Int)),?_,?_⟩
 ·show((gl (l.map nI)).bind λns=>if ns.isEmpty=true then none else some (D.int (ky ns)))=_
  rw[si];cases l with
  |nil=>exact absurd h List.not_mem_nil
  |cons=>rfl
 ·cases l with
  |nil=>exact absurd h List.not_mem_nil
  |cons a l=>
   obtain⟨m1,m2⟩:=p8 (l.map λ(z:Nat)=>(z:Int)) (a:Int)
   have m1:ky ((a::l).map λ(z:Nat)=>(z:Int))∈(a::l).map λ(z:Nat)=>(z:Int):=m1
   have m2: ∀x∈(a::l).map (λ(z:Nat)=>(z:Int)),ky ((a::l).map λ(z:Nat)=>(z:Int))<=x:=m2
   constructor
   ·intro e z hz
    have:=m2 z (List.mem_map.mpr ⟨z,hz,rfl⟩)
    omega
   ·intro q
    have h1:=m2 s (List.mem_map.mpr ⟨s,h,rfl⟩)
    obtain⟨z,hz,e⟩:=List.mem_map.mp m1
    have h2:=q z hz
    omega
end
theorem ul(r:List Nat):r=(List.range r.length).map λy=>r.getD y 0:=by
 apply List.ext_getElem (by simp)
 intro i h1 h2;simp[List.getD,h1]
theorem jW {n:Nat}{o:List Nat}(O:Ord n o){v:Nat}(hv:v<n):o.idxOf v<n/\o.getD (o.idxOf v) 0=v:=by
 have hi:=List.idxOf_lt_length_of_mem (O.has hv)
 refine⟨by rw[<-O.len];exact hi,?_⟩
 rw[List.getD_eq_getElem?_getD,List.getElem?_eq_getElem hi,List.getElem_idxOf];rfl
theorem rq {n:Nat}{o:List Nat}(O:Ord n o){c:Nat}(hc:c<n):o.idxOf (o.getD c 0)=c:=O.inj (jW O (O.get hc)).1 hc (jW O (O.get hc)).2
def fK:FS:=
 bp (za nX nX (ak jw (aa (ai 1) (aa (ai 2) (ah)))) (ai 0) (ak nk (aa (ai 1) (aa (ai 2) (ah)))))
def kW:List D->Option D:=iJ .s 3 fK
theorem tZ {t u:FX}{ρ ρ':aC}(h:t ρ=.ok (.nx ρ')):pk t u ρ=u ρ':=by unfold pk;rw[h]
theorem sV {t u:FX}{ρ:aC}{z:Ex×aC}(h:t ρ=.error z):pk t u ρ=.error z:=by unfold pk;rw[h]
theorem zH {t:FS}{ρ:aC}{o:Out}(h:t ρ=o):yc t ρ=.ok o:=by unfold yc;rw[h]
theorem Bu {p:FT}{t u:FX}{ρ:aC}(h:p ρ=some true):xk p t u ρ=t ρ:=by unfold xk;rw[h]
theorem Cg {p:FT}{t u:FX}{ρ:aC}(h:p ρ=some false):xk p t u ρ=u ρ:=by unfold xk;rw[h]
theorem Ba {p:FT}{t:FX}{ρ:aC}(h:p ρ=some false):xk p t (yc skip) ρ=.ok (.nx ρ):=(Cg h).trans rfl
theorem sZ {f:RE}{ρ:aC}{d:D}(h:f ρ=some (.ok d)):pT f ρ=.ok (.rt d ρ):=by unfold pT;rw[h]
theorem tG {f:RE}{ρ:aC}{z:Ex}(h:f ρ=some (.error z)):pT f ρ=.error (z,ρ):=by unfold pT;rw[h]
theorem qW {kd:Kd}{n:Nat}{t:FX}{ds:List D}{ρ:aC}{d:D}(h:t (cY n ds)=.ok (.rt d ρ)):xh kd n t ds=some (.ok d):=by unfold xh;rw[h]
theorem zm {kd:Kd}{n:Nat}{t:FX}{ds:List D}{z:Ex×aC}(h:t (cY n ds)=.error z):xh kd n t ds=some (.error z.1):=by unfold xh;rw[h]
theorem qM {kd:Kd}{n:Nat}{t:FX}{ds:List D}{z:Ex}(h: ∃ρ,t (cY n ds)=.error (z,ρ)):xh kd n t ds=some (.error z):=by obtain⟨ρ,h⟩:=h;exact zm h
theorem gQ {n:Nat}{P:List D->Option (Except Ex D)}{fs:RA}{ρ:aC}{ds:List D}(h:fs ρ=some (.ok ds))(hl:ds.length=n):gY n P fs ρ=P ds:=by unfold gY;rw[h];exact if_pos hl
theorem i9 {f:FA}{ρ:aC}{ds:List D}(h:f ρ=some ds):kC f ρ=some (.ok ds):=by unfold kC;rw[h];rfl
theorem hZ {p:FT}{t:FS}{ρ:aC}(h:p ρ=some false):fH p t skip ρ=.nx ρ:=(sP h).trans rfl
theorem AI {F G:D->D->Option D}{f g h:FE}{ρ:aC}{x y z:D}{p q:Bool}(h1:f ρ=some x)(h2:g ρ=some y)(h3:F x y=some (.bl p))(h4:h ρ=some z)(h5:G y z=some (.bl q)):za F G f g h ρ=some (.bl (p&&q)):=by
 unfold za;rw[h1,Option.bind_some,h2,Option.bind_some,h3];show(if p=true then _ else _)=_
 cases p with
 |true=>rw[if_pos rfl,h4];exact h5
 |false=>rfl
theorem Ca {p:FT}{f g:FE}{ρ:aC}(h:p ρ=some true):u7 p f g ρ=f ρ:=by unfold u7;rw[h];rfl
theorem BW {p:FT}{f g:FE}{ρ:aC}(h:p ρ=some false):u7 p f g ρ=g ρ:=by unfold u7;rw[h];rfl
theorem wo {f:FE}{ρ:aC}{ds:List D}(h:f ρ=some (.tup ds)):fN f ρ=some ds:=by unfold fN;rw[h];rfl
theorem ku {f:FE}{ρ:aC}{ds:List D}(h:f ρ=some (.lst ds)):fN f ρ=some ds:=by unfold fN;rw[h];rfl
structure Gd(n:Nat)(r x:List Nat):Prop where
 R:Ord n r
 X:Ord n x
 lo:2<=n
 hi:n<=6
def jU(v a b:Nat):Bool:=decide (min a b<v)&&decide (v<max a b)
theorem oJ(v a b:Nat):kW [nI v,nI a,nI b]=some (.bl (jU v a b)):=by
 apply cj (kd:=.s) (n:=3) (t:=fK)
 unfold fK;refine ci (AI (x:=nI (min a b)) (y:=nI v) (z:=nI (max a b)) ?_ rfl ?_ ?_ ?_)
 ·refine(cS (ds:=[nI a,nI b]) rfl).trans ?_
  show some (D.int _)=some (D.int _);congr 2
  split<;>omega
 ·show some (D.bl (decide (((min a b:Nat):Int)<v)))=_
  congr 2
  rw[Bool.eq_iff_iff,decide_eq_true_eq,decide_eq_true_eq];omega
 ·refine(cS (ds:=[nI a,nI b]) rfl).trans ?_
  show some (D.int _)=some (D.int _);congr 2
  split<;>omega
 ·show some (D.bl (decide ((v:Int)<((max a b:Nat):Int))))=_
  congr 2
  rw[Bool.eq_iff_iff,decide_eq_true_eq,decide_eq_true_eq];omega
theorem zx {S:Nat->Nat}{a b c:Nat}(h1:gA S a b)(h2:gA S b c):gA S a c:=by
 obtain⟨i,rfl⟩:=h1
 obtain⟨j,rfl⟩:=h2
 exact⟨j+i,(jS S a i j).symm⟩
def eD(r x:List Nat)(y:Nat):Nat:=x.idxOf (r.getD y 0)
theorem sq {n:Nat}{r x:List Nat}(R:Ord n r)(X:Ord n x){y:Nat}(hy:y<n):eD r x y<n/\x.getD (eD r x y) 0=r.getD y 0:=jW X (R.get hy)
theorem ka {n:Nat}{r x:List Nat}(R:Ord n r)(X:Ord n x):Sh n (eD r x):=⟨λy hy=>(sq R X hy).1,λy z hy hz e=>by
 have h1:=(sq R X hy).2
 have h2:=(sq R X hz).2
 rw[e] at h1;exact R.inj hy hz (h1.symm.trans h2)⟩
set_option maxHeartbeats 1000000
def ng:FS:=
 aB (h9 2 (aF 0 1 dM (cm (aa (az (.int 4)) (ah)))))
 (aB (h9 3 (lB bx (pu (az (.int 1))) (aF 0 1 dM (cm (aa (aq iF (ai 1) (az (.int 1))) (ah))))))
 (aB (h9 4 (aF 0 1 gV (cm (aa (ai 1) (ah)))))
 (aB (rE 5 (aF 0 1 gV (cm (aa (ai 1) (ah)))))
 (aB (fH (bC (aq iE (ai 2) (az (.int 1)))) (aB (aS 4 (uO (ai 1)))
 (eI 5 (bu 1 (fN (ai 4)) (gN 8) (gz) (aq bz (aq bx (ai 8) (ai 3)) (ai 1))))) (skip))
 (aB (fQ (cm (dc (aa (ai 1) (ah)))) (gN 6) (aB (aS 7 (aq bz (aq bx (ai 6) (az (.int 1))) (ai 1)))
 (fH (bC (aq iE (aq bn (dr 5) (ai 6)) (aq bn (ai 4) (ai 6)))) (eV (gT 2 (dN (eR 5 (ai 6)) (dN (eR 5 (ai 7)) (jo)))) (pu (cC (aa (aq bn (dr 5) (ai 7)) (aa (aq bn (dr 5) (ai 6)) (ah)))))) (skip))))
 (bp (cC (aa (ak fb (aa (ai 4) (ah))) (aa (ak fb (aa (dr 5) (ah))) (ah))))))))))
def nB:List D->List D->Option (D×List D):=qK .s 8 ng
theorem sk {N:Nat}{a b:Int}(B:Bag N a b){n:Nat}(h2:2<=n)(h6:n<=6)(hN:N<=800000000): ∃(r x:List Nat) (a' b':Int),nB (aP a b) [nI n]=some (be r x,aP a' b')/\Sq n r x/\Bag (N+2*n+2) a' b':=by
 obtain⟨p,a1,b1,e1,B1,p0,p1⟩:=gF (m:=4) B (by omega) (by decide) (by decide)
 obtain⟨q,a2,b2,e2,B2,q0,q1⟩:=gF (m:=(n:Int) -1) B1 (by omega) (by omega) (Nat.lt_of_lt_of_le (show((n:Int) -1).natAbs<10^10 by omega) (by decide))
 obtain⟨r,a3,b3,e3,or,B3⟩:=pS B2 (n:=n) (by omega) (by omega)
 obtain⟨x,a4,b4,e4,ox,B4⟩:=pS B3 (n:=n) (by omega) (by omega)
 obtain⟨q',rfl⟩: ∃j:Nat,q=(j:Int):=⟨q.toNat,by omega⟩
 have r0:kS 8 (aP a b) [nI n]=[.arg (aP a b),.v (nI n),.no,.no,.no,.no,.no,.no]:=rfl
 have s1:h9 2 (aF 0 1 dM (cm (aa (az (.int 4)) (ah)))) [.arg (aP a b),.v (nI n),.no,.no,.no,.no,.no,.no]=.nx [.arg (aP a1 b1),.v (nI n),.v (.int p),.no,.no,.no,.no,.no]:=
  (jd (bB (i:=0) (n:=1) (b0:=aP a b) (ds:=[.int 4]) rfl (bG rfl) rfl rfl e1)).trans rfl
 have s2:h9 3 (lB bx (pu (az (.int 1))) (aF 0 1 dM (cm (aa (aq iF (ai 1) (az (.int 1))) (ah))))) [.arg (aP a1 b1),.v (nI n),.v (.int p),.no,.no,.no,.no,.no]=.nx [.arg (aP a2 b2),.v (nI n),.v (.int p),.v (nI (q'+1)),.no,.no,.no,.no]:=
  (jd (tq (jy rfl) (bB (i:=0) (n:=1) (b0:=aP a1 b1) (ds:=[.int ((n:Int) -1)]) rfl (bG rfl) rfl rfl e2) (show bx (.int 1) (nI q')=some (nI (q'+1)) by rw[cB];simp;omega))).trans rfl
 have s3:h9 4 (aF 0 1 gV (cm (aa (ai 1) (ah)))) [.arg (aP a2 b2),.v (nI n),.v (.int p),.v (nI (q'+1)),.no,.no,.no,.no]=.nx [.arg (aP a3 b3),.v (nI n),.v (.int p),.v (nI (q'+1)),.v (.lst (r.map nI)),.no,.no,.no]:=
  (jd (bB (i:=0) (n:=1) (b0:=aP a2 b2) (ds:=[nI n]) rfl (bG rfl) rfl rfl e3)).trans rfl
 have s4:rE 5 (aF 0 1 gV (cm (aa (ai 1) (ah)))) [.arg (aP a3 b3),.v (nI n),.v (.int p),.v (nI (q'+1)),.v (.lst (r.map nI)),.no,.no,.no]=.nx [.arg (aP a4 b4),.v (nI n),.v (.int p),.v (nI (q'+1)),.v (.lst (r.map nI)),.own (x.map nI),.no,.no]:=
  (xq (bB (i:=0) (n:=1) (b0:=aP a3 b3) (ds:=[nI n]) rfl (bG rfl) rfl rfl e4)).trans rfl
 have s5: ∃(r' x':List Nat),fH (bC (aq iE (ai 2) (az (.int 1)))) (aB (aS 4 (uO (ai 1)))
  (eI 5 (bu 1 (fN (ai 4)) (gN 8) (gz) (aq bz (aq bx (ai 8) (ai 3)) (ai 1))))) (skip) [.arg (aP a4 b4),.v (nI n),.v (.int p),.v (nI (q'+1)),.v (.lst (r.map nI)),.own (x.map nI),.no,.no]=.nx [.arg (aP a4 b4),.v (nI n),.v (.int p),.v (nI (q'+1)),.v (.lst (r'.map nI)),.own (x'.map nI),.no,.no]/\Ord n r'/\Ord n x':=by
  unfold fH bC;rw[av (x:=.int p) (y:=.int 1) rfl rfl,ii (by rw[eS];omega),g6]
  by_cases hp:p=1
  ·refine⟨List.range n,(List.range n).map λi=>(i+(q'+1)) % n,?_,⟨.refl _⟩,xG n h2 h6 (q'+1) (by omega) (by omega)⟩
   rw[decide_eq_true hp];simp only[qc];rw[aA ((bZ (sF (n:=n) (by omega) (ai 1) _ rfl)).trans rfl)]
   refine(gD (cx (ds:=(List.range n).map nI) (ys:=(List.range n).map λi=>nI ((i+(q'+1)) % n)) rfl (by simp;omega) (cE _ λi hi=>⟨_,rfl,?_⟩))).trans ?_
   ·exact(av ((av (x:=nI i) (y:=nI (q'+1)) rfl rfl).trans (Dz _ _)) (y:=nI n) rfl).trans (wU (by omega))
   ·rw[List.map_map];rfl
  ·refine⟨r,x,?_,or,ox⟩
   rw[decide_eq_false hp];simp only[qc,skip]
 obtain⟨r',x',s5,or',ox'⟩:=s5
 obtain⟨x2,t6,t7,lp,ox2,hne⟩:=yY (aP a4 b4) (.int p) (nI (q'+1)) or' h2 n 0 x' .no .no (by omega) ox' (λi h=>absurd h (Nat.not_lt_zero _))
 have s6:fQ (cm (dc (aa (ai 1) (ah)))) (gN 6) tY [.arg (aP a4 b4),.v (nI n),.v (.int p),.v (nI (q'+1)),.v (.lst (r'.map nI)),.own (x'.map nI),.no,.no]=.nx [.arg (aP a4 b4),.v (nI n),.v (.int p),.v (nI (q'+1)),.v (.lst (r'.map nI)),.own (x2.map nI),t6,t7]:=by
  unfold fQ;rw[bG (fI (n:=n) rfl (by omega))]
  dsimp only;rw[List.range_eq_range'];exact lp
 refine⟨r',x2,a4,b4,?_,⟨or',ox2,hne⟩,by rw[show N+2*n+2=N+1+1+n+n by omega];exact B4⟩
 unfold nB qK ng;rw[r0,aA s1,aA s2,aA s3,aA s4,aA s5];rw[aA s6];have s7:bp (cC (aa (ak fb (aa (ai 4) (ah))) (aa (ak fb (aa (dr 5) (ah))) (ah)))) [.arg (aP a4 b4),.v (nI n),.v (.int p),.v (nI (q'+1)),.v (.lst (r'.map nI)),.own (x2.map nI),t6,t7]=.rt (be r' x2) [.arg (aP a4 b4),.v (nI n),.v (.int p),.v (nI (q'+1)),.v (.lst (r'.map nI)),.own (x2.map nI),t6,t7]:=by
  unfold bp;rw[fC (ds:=[bi r',bi x2]) rfl (by simp)]
 rw[s7];rfl
theorem A0 {kd:Kd}{n:Nat}{t:FS}{bs ds b':List D}{d:D}{ρ:aC}(h:t (kS n bs ds)=.rt d ρ)(h2:lZ ρ=some b'):qK kd n t bs ds=some (d,b'):=by unfold qK;rw[h];dsimp only;rw[h2];rfl
set_option maxHeartbeats 4000000
theorem xR {i:Nat}{ns ys:List Str}{t:FX}{u:FS}{ρ:aC}{o:Out}(h:t ρ=.ok o):rP i ns ys t u ρ=o:=by unfold rP;rw[h]
theorem yH {i:Nat}{ns ys:List Str}{t:FX}{u:FS}{ρ ρ' ρ2:aC}{z:Ex}{d:D}(h:t ρ=.error (z,ρ'))(h1:ns.contains z.x=true)(h2:(ys.any λy=>mv z.x y)=true)(h3:u (ρ'.set i (.ob (.exc z.x z.n)))=.rt d ρ2):rP i ns ys t u ρ=.rt d ρ2:=by
 unfold rP;rw[h];dsimp only;rw[if_pos ⟨h1,h2⟩,h3]
set_option maxHeartbeats 1000000
theorem fV {n:Nat}{o:List Nat}(O:Ord n o){v:Nat}(hv:v<n):eE (bi o) (nI v)=some (nI (o.idxOf v)):=by
 obtain⟨j,h1,h2,h3⟩:=vJ v o (O.has hv)
 show(if ck (o.map nI)<=32 then(jp (o.map nI) (nI v)).map (λj=>D.int j) else none)=_
 rw[if_pos (by rw[lA];omega)]
 unfold jp;rw[h1];have:j=o.idxOf v:=by
  have:=rq O (c:=j) (by rw[<-O.len];exact h2)
  rw[h3] at this;exact this.symm
 rw[<-this];rfl
theorem iq {p:Nat->Bool}{j:Nat}: ∀ {n:Nat},j<n->(∀i,i<n->(p i=true↔i=j))->(List.range n).filter p=[j]
 |0,h,_=>absurd h (Nat.not_lt_zero _)
 |n+1,hj,h=>by
  rw[List.range_succ,List.filter_append]
  by_cases e:j=n
  ·subst e
   have e1:(List.range j).filter p=[]:=List.filter_eq_nil_iff.mpr λa ha q=>by
    rw[List.mem_range] at ha;have:=(h a (by omega)).mp q
    omega
   rw[e1,List.filter_cons_of_pos ((h j (by omega)).mpr rfl)];rfl
  ·rw[iq (n:=n) (by omega) λi hi=>h i (by omega),List.filter_cons_of_neg λq=>e ((h n (by omega)).mp q).symm];rfl
theorem oM(a b:Nat):iE (nI a) (nI b)=some (.bl (decide (a=b))):=by rw[ii (by rw[eS];omega),gZ]
theorem As(a b:Nat):qd (a:Int) ((b:Int) -a).toNat=(List.range' a (b-a)).map nI:=by
 unfold qd;rw[show((b:Int) -a).toNat=b-a by omega,List.range_eq_range',List.range'_eq_map_range,List.range'_eq_map_range,List.map_map,List.map_map]
 refine List.map_congr_left λi _=>?_
 show D.int _=D.int _;congr 1
 simp
theorem xB(v a b:Nat):jU v a b=jU v b a:=by unfold jU;rw[Nat.min_comm,Nat.max_comm]
theorem xU {n a k:Nat}(h:a+k<=n):(List.range n).filter (λv=>decide (a<=v)&&decide (v<a+k))=List.range' a k:=by
 obtain⟨m,rfl⟩:=Nat.exists_eq_add_of_le h
 rw[List.range_eq_range',show a+k+m=a+(k+m) by omega,<-List.range'_append_1,<-List.range'_append_1 (s:=0+a),List.filter_append,List.filter_append]
 rw[List.filter_eq_nil_iff.mpr,List.filter_eq_self.mpr,List.filter_eq_nil_iff.mpr]
 ·simp
 ·intro v hv
  rw[List.mem_range'_1] at hv;simp;omega
 ·intro v hv
  rw[List.mem_range'_1] at hv;simp;omega
 ·intro v hv
  rw[List.mem_range'_1] at hv;simp;omega
theorem vm {n a b:Nat}(ha:a<n)(hb:b<n):List.range' (min a b+1) (max a b- (min a b+1))=(List.range n).filter λv=>jU v a b:=by
 rw[<-xU (n:=n) (by omega)]
 refine List.filter_congr λv _=>?_
 unfold jU;rw[Bool.eq_iff_iff];simp only[Bool.and_eq_true,decide_eq_true_eq];omega
def gO(r x:List Nat)(c y:Nat):Bool:=jU y (r.getD c 0) (x.getD c 0)&&jU c (r.idxOf y) (x.idxOf y)
def y8(r x:List Nat)(c y:Nat):Int:=if decide (x.getD c 0<r.getD c 0)=decide (r.idxOf y<x.idxOf y) then -1 else 1
def zB(n:Nat)(r x:List Nat):List (List Int):=(List.range n).flatMap λc=>((List.range n).filter (gO r x c)).map λ(y:Nat)=>[(c:Int),(y:Int),y8 r x c y]
theorem xV(n:Nat)(r x:List Nat)(hn:n<=6):(zB n r x).length<=36:=by
 have: ∀(l:List Nat),(l.flatMap λc=>((List.range n).filter (gO r x c)).map λ(y:Nat)=>[(c:Int),(y:Int),y8 r x c y]).length<=l.length*6:=by
  intro l
  induction l with
  |nil=>simp
  |cons c l ih=>
   rw[List.flatMap_cons,List.length_append,List.length_cons,List.length_map];have:=List.length_filter_le (gO r x c) (List.range n)
   rw[List.length_range] at this;omega
 have h:=this (List.range n)
 rw[List.length_range] at h;unfold zB;omega
set_option maxHeartbeats 4000000
set_option maxHeartbeats 1000000
set_option maxHeartbeats 4000000
theorem oO {n:Nat}{r x:List Nat}{S:Nat->Nat}(H:Sg n r x S){y:Nat}(hy:y<n): ∃m,m<n/\led S m/\gA S y m:=by
 obtain⟨W,C⟩:=wj H hy
 have ex: ∀(l:List Nat),l≠[]-> ∃m∈l,∀z∈l,m<=z:=by
  intro l
  induction l with
  |nil=>intro h;exact absurd rfl h
  |cons a l ih=>
   intro _
   by_cases e:l=[]
   ·subst e;exact⟨a,by simp,λz hz=>by rw[List.mem_singleton] at hz;omega⟩
   ·obtain⟨m,hm,h⟩:=ih e
    by_cases am:a<=m
    ·exact⟨a,by simp,λz hz=>(List.mem_cons.mp hz).elim (λe=>by omega) λq=>by have:=h z q;omega⟩
    ·exact⟨m,by simp[hm],λz hz=>(List.mem_cons.mp hz).elim (λe=>by omega) λq=>h z q⟩
 obtain⟨m,hm,h⟩:=ex W (List.ne_nil_of_mem ((C.mem y).mpr (cz S y)))
 exact⟨m,C.lt m hm,λz hz=>h z ((C.mem z).mpr (aZ ((C.mem m).mp hm) hz)),(C.mem m).mp hm⟩
set_option maxHeartbeats 1000000
set_option maxHeartbeats 4000000
theorem mT {f g:FE}{ρ:aC}{a b:Nat}(h1:f ρ=some (nI a))(h2:g ρ=some (nI b)):bC (aq iD f g) ρ=some (!decide (a=b)):=dE ((av h1 h2).trans (by rw[jA (by rw[eS];omega),gZ]))
set_option maxHeartbeats 1000000
structure Lns(n:Nat)(S:Nat->Nat)(LL:List (List Nat)):Prop where
 cov: ∀c,c<n-> ∃k,k<LL.length/\c∈LL.getD k []
 uni: ∀k l c,k<LL.length->l<LL.length->c∈LL.getD k []->c∈LL.getD l []->k=l
 lt: ∀k,k<LL.length-> ∀c∈LL.getD k [],c<n
 cl: ∀k,k<LL.length-> ∀c∈LL.getD k [],S c∈LL.getD k []
 len:LL.length<=n
 ll: ∀L∈LL,L.length<=n
theorem wT {n:Nat}{r x:List Nat}(R:Ord n r)(X:Ord n x){C:Nat->List Nat}(hC: ∀s,s<n->Cy n (eD r x) s (C s)):Lns n (eD r x) (((List.range n).filter (du (eD r x))).map C):=by
 have H:=(ka R X).sg
 generalize hLs:(List.range n).filter (du (eD r x))=Ls
 have mem: ∀s,s∈Ls↔s<n/\led (eD r x) s:=λs=>by rw[<-hLs,List.mem_filter,List.mem_range,ledB_iff]
 have nd:Ls.Nodup:=by rw[<-hLs];exact List.nodup_range.sublist List.filter_sublist
 have get: ∀k,k<Ls.length->(Ls.map C).getD k []=C (Ls.getD k 0)/\Ls.getD k 0∈Ls:=λk hk=>by
  rw[List.getD_eq_getElem?_getD,List.getElem?_map,List.getElem?_eq_getElem hk,List.getD_eq_getElem?_getD,List.getElem?_eq_getElem hk];exact⟨rfl,List.getElem_mem hk⟩
 refine⟨λc hc=>?_,λk l c hk hl m1 m2=>?_,λk hk c hm=>?_,λk hk c hm=>?_,?_,λL hL=>?_⟩
 ·obtain⟨m,hm1,hm2,hm3⟩:=oO H hc
  have hb:=bc H hc hm3
  obtain⟨k,hk,e⟩:=List.mem_iff_getElem.mp ((mem m).mpr ⟨hm1,hm2⟩)
  refine⟨k,by rw[List.length_map];exact hk,?_⟩
  rw[(get k hk).1];have:Ls.getD k 0=m:=by rw[List.getD_eq_getElem?_getD,List.getElem?_eq_getElem hk];exact e
  rw[this];exact((hC m hm1).c.mem c).mpr hb
 ·rw[List.length_map] at hk hl
  obtain⟨g1,g2⟩:=get k hk
  obtain⟨g3,g4⟩:=get l hl
  rw[g1] at m1;rw[g3] at m2;obtain⟨a1,a2⟩:=(mem _).mp g2
  obtain⟨b1,b2⟩:=(mem _).mp g4
  have p1:=((hC _ a1).c.mem c).mp m1
  have p2:=(hC _ a1).c.back c m1
  have q1:=((hC _ b1).c.mem c).mp m2
  have q2:=(hC _ b1).c.back c m2
  have e1:=a2 _ (aZ p1 q2)
  have e2:=b2 _ (aZ q1 p2)
  exact oC nd hk hl (by omega)
 ·rw[List.length_map] at hk
  obtain⟨g1,g2⟩:=get k hk
  rw[g1] at hm;exact(hC _ ((mem _).mp g2).1).c.lt c hm
 ·rw[List.length_map] at hk
  obtain⟨g1,g2⟩:=get k hk
  rw[g1] at hm⊢;have hs:=((mem _).mp g2).1
  exact((hC _ hs).c.mem _).mpr (aZ (((hC _ hs).c.mem c).mp hm) ⟨1,rfl⟩)
 ·rw[List.length_map,<-hLs]
  exact Nat.le_trans (List.length_filter_le _ _) (by simp)
 ·obtain⟨s,hs,rfl⟩:=List.mem_map.mp hL
  have hs:=((mem _).mp hs).1
  have:=fY (hC s hs).nd (hC s hs).c.lt
  exact this
def dL(n:Nat)(r x:List Nat):List (Nat×Nat):=(List.range n).flatMap λc=>((List.range n).filter (gO r x c)).map λy=>(c,y)
theorem y4(n:Nat)(r x:List Nat):zB n r x=(dL n r x).map λp=>[(p.1:Int),(p.2:Int),y8 r x p.1 p.2]:=by
 unfold zB dL;rw[List.map_flatMap];congr 1
 funext c;rw[List.map_map];rfl
def DL(r x:List Nat)(p:Nat×Nat):Int:=y8 r x p.1 p.2
structure Lnr(S:Nat->Nat)(LL:List (List Nat)):Prop where
 ne: ∀k,k<LL.length-> ∃c,c∈LL.getD k []
 re: ∀k,k<LL.length-> ∀c d,c∈LL.getD k []->d∈LL.getD k []->gA S c d
theorem AQ {n:Nat}{r x:List Nat}(R:Ord n r)(X:Ord n x){C:Nat->List Nat}(hC: ∀s,s<n->Cy n (eD r x) s (C s)):Lnr (eD r x) (((List.range n).filter (du (eD r x))).map C):=by
 have H:=(ka R X).sg
 generalize hLs:(List.range n).filter (du (eD r x))=Ls
 have mem: ∀s,s∈Ls->s<n:=λs h=>by rw[<-hLs,List.mem_filter,List.mem_range] at h;exact h.1
 have get: ∀k,k<Ls.length->(Ls.map C).getD k []=C (Ls.getD k 0)/\Ls.getD k 0∈Ls:=λk hk=>by
  rw[List.getD_eq_getElem?_getD,List.getElem?_map,List.getElem?_eq_getElem hk,List.getD_eq_getElem?_getD,List.getElem?_eq_getElem hk];exact⟨rfl,List.getElem_mem hk⟩
 refine⟨λk hk=>?_,λk hk c d h1 h2=>?_⟩
 ·rw[List.length_map] at hk
  obtain⟨g1,g2⟩:=get k hk
  exact⟨Ls.getD k 0,by rw[g1];exact((hC _ (mem _ g2)).c.mem _).mpr ⟨0,rfl⟩⟩
 ·rw[List.length_map] at hk
  obtain⟨g1,g2⟩:=get k hk
  rw[g1] at h1 h2;have lt:=mem _ g2
  exact zx (bc H lt (((hC _ lt).c.mem c).mp h1)) (((hC _ lt).c.mem d).mp h2)
theorem lL {α:Type} [BEq α] [LawfulBEq α]{l:List α}(nd:l.Nodup)(q:α->Bool)(d:α):(List.range l.length).filter (λi=>q (l.getD i d))=(l.filter q).map λa=>l.idxOf a:=by
 have hl:(List.range l.length).map (λi=>l.getD i d)=l:=rM l d
 have e:l.filter q=((List.range l.length).filter (λi=>q (l.getD i d))).map λi=>l.getD i d:=by
  conv=>lhs;rw[<-hl]
  rw[List.filter_map];rfl
 rw[e,List.map_map];have: ∀i∈(List.range l.length).filter (λi=>q (l.getD i d)),((λa=>l.idxOf a)∘λi=>l.getD i d) i=id i:=λi hi=>by
  have lt:=List.mem_range.mp (List.mem_filter.mp hi).1
  show l.idxOf (l.getD i d)=i;rw[List.getD_eq_getElem?_getD,List.getElem?_eq_getElem lt];exact nd.idxOf_getElem i lt
 rw[List.map_congr_left this,List.map_id]
theorem tQ {α:Type}{c:Nat}(f:Nat->List α): ∀ {n:Nat},c<n->((List.range n).flatMap λi=>if i=c then f i else [])=f c
 |n+1,h=>by
  rw[List.range_succ,List.flatMap_append,List.flatMap_singleton]
  by_cases e:c=n
  ·subst e
   rw[if_pos rfl];have:((List.range c).flatMap λi=>if i=c then f i else [])=[]:=by
    rw[List.flatMap_eq_nil_iff];intro i hi;rw[if_neg (by have:=List.mem_range.mp hi;omega)]
   rw[this,List.nil_append]
  ·rw[tQ f (by omega:c<n),if_neg (λz=>e z.symm),List.append_nil]
section
variable {n:Nat}{r x:List Nat}
theorem mem_crP' {p:Nat×Nat}:p∈dL n r x↔(p.1<n/\p.2<n)/\gO r x p.1 p.2=true:=by
 unfold dL;rw[List.mem_flatMap];constructor
 ·rintro⟨c,hc,h⟩
  obtain⟨y,hy,rfl⟩:=List.mem_map.mp h
  obtain⟨h1,h2⟩:=List.mem_filter.mp hy
  exact⟨⟨List.mem_range.mp hc,List.mem_range.mp h1⟩,h2⟩
 ·rintro⟨⟨h1,h2⟩,h3⟩
  exact⟨p.1,List.mem_range.mpr h1,List.mem_map.mpr ⟨p.2,List.mem_filter.mpr ⟨List.mem_range.mpr h2,h3⟩,rfl⟩⟩
theorem crP_nd:(dL n r x).Nodup:=by
 unfold dL;refine List.pairwise_flatMap.mpr ⟨λc _=>?_,?_⟩
 ·refine List.Pairwise.map _ ?_ (List.nodup_range.sublist List.filter_sublist)
  rintro y z ne e
  exact ne (congrArg Prod.snd e)
 ·refine List.Pairwise.imp ?_ (List.nodup_range (n:=n))
  rintro c d ne p hp q hq e
  obtain⟨y,_,rfl⟩:=List.mem_map.mp hp
  obtain⟨z,_,rfl⟩:=List.mem_map.mp hq
  exact ne (congrArg Prod.fst e)
theorem pb {c:Nat}(hc:c<n):(dL n r x).filter (λp=>decide (p.1=c))=((List.range n).filter (gO r x c)).map λy=>(c,y):=by
 unfold dL;rw[List.filter_flatMap,<-tQ (λc=>((List.range n).filter (gO r x c)).map λy=>(c,y)) hc]
 congr 1
 funext d
 by_cases e:d=c
 ·rw[if_pos e,List.filter_eq_self.mpr]
  intro p hp;obtain⟨y,_,rfl⟩:=List.mem_map.mp hp
  exact decide_eq_true e
 ·rw[if_neg e,List.filter_eq_nil_iff]
  intro p hp;obtain⟨y,_,rfl⟩:=List.mem_map.mp hp
  simpa using e
theorem jT {y:Nat}(hy:y<n):(dL n r x).filter (λp=>decide (p.2=y))=((List.range n).filter (λc=>gO r x c y)).map λc=>(c,y):=by
 unfold dL;rw[List.filter_flatMap];have e: ∀c,(((List.range n).filter (gO r x c)).map λy=>(c,y)).filter (λp=>decide (p.2=y))=if gO r x c y=true then [(c,y)] else []:=λc=>by
  rw[List.filter_map,List.filter_filter]
  by_cases h:gO r x c y=true
  ·rw[if_pos h,iq hy λi hi=>?_]
   ·rfl
   ·show(decide (i=y)&&gO r x c i)=true↔i=y
    rw[Bool.and_eq_true,decide_eq_true_eq];exact⟨λz=>z.1,λz=>⟨z,by rw[z];exact h⟩⟩
  ·rw[if_neg h,List.map_eq_nil_iff,List.filter_eq_nil_iff]
   intro i hi z;have z:(decide (i=y)&&gO r x c i)=true:=z
   rw[Bool.and_eq_true,decide_eq_true_eq] at z;rw[z.1] at z;exact h z.2
 simp only[e]
 generalize List.range n=l
 induction l with
 |nil=>rfl
 |cons c l ih=>
  rw[List.flatMap_cons,ih]
  by_cases h:gO r x c y=true
  ·rw[if_pos h,List.filter_cons_of_pos (p:=λc=>gO r x c y) h];rfl
  ·rw[if_neg h,List.filter_cons_of_neg (p:=λc=>gO r x c y) h];rfl
end
def gp(q t:Nat):List Nat:=if q<t then List.range' (q+1) (t-q-1) else(List.range' (t+1) (q-t-1)).reverse
theorem qu {n q t:Nat}(hq:q<n)(ht:t<n){P:Nat->Bool}(h: ∀y,P y=true->jU y q t=true):(gp q t).filter P=if q<t then(List.range n).filter P else((List.range n).filter P).reverse:=by
 have e:(List.range n).filter P=(List.range' (min q t+1) (max q t- (min q t+1))).filter P:=by
  rw[vm hq ht,List.filter_filter];refine List.filter_congr λy _=>?_
  cases hp:P y with
  |true=>rw[h y hp];rfl
  |false=>rfl
 rw[e];unfold gp
 by_cases lt:q<t
 ·rw[if_pos lt,if_pos lt,Nat.min_eq_left (by omega),Nat.max_eq_right (by omega),show t- (q+1)=t-q-1 by omega]
 ·rw[if_neg lt,if_neg lt,Nat.min_eq_right (by omega),Nat.max_eq_left (by omega),show q- (t+1)=q-t-1 by omega,List.filter_reverse]
def CL(n:Nat)(r x:List Nat)(p:Nat×Nat):Bool:=decide (p∈dL n r x)
def wC(n:Nat)(r x:List Nat)(c:Nat):List (Nat×Nat):=((gp (x.getD c 0) (r.getD c 0)).map λy=>(c,y)).filter (CL n r x)
def wR(n:Nat)(r x:List Nat)(c:Nat):List (Nat×Nat):=((gp c (eD r x c)).map λd=>(d,r.getD c 0)).filter (CL n r x)
section
variable {n:Nat}{r x:List Nat}(R:Ord n r)(X:Ord n x)
include R X
theorem p7 {c:Nat}(hc:c<n):wC n r x c=if x.getD c 0<r.getD c 0 then((List.range n).filter (gO r x c)).map (λy=>(c,y)) else(((List.range n).filter (gO r x c)).map λy=>(c,y)).reverse:=by
 unfold wC;rw[List.filter_map];have e: ∀l:List Nat,(∀y∈l,y<n)->l.filter (CL n r x∘λy=>(c,y))=l.filter (gO r x c):=λl hl=>List.filter_congr λy hy=>by
  show decide ((c,y)∈dL n r x)=_;rw[Bool.eq_iff_iff,decide_eq_true_eq,mem_crP'];exact⟨λz=>z.2,λz=>⟨⟨hc,hl y hy⟩,z⟩⟩
 have hq:=X.get hc
 have ht:=R.get hc
 rw[e _ λy hy=>?_,qu hq ht λy hy=>?_]
 ·split
  ·rfl
  ·rw[List.map_reverse]
 ·unfold gO at hy
  rw[Bool.and_eq_true] at hy;rw[xB];exact hy.1
 ·unfold gp at hy
  split at hy
  ·have:=List.mem_range'_1.mp hy;omega
  ·have:=List.mem_range'_1.mp (List.mem_reverse.mp hy);omega
theorem nz {c:Nat}(hc:c<n):wR n r x c=if r.idxOf (r.getD c 0)<x.idxOf (r.getD c 0) then((List.range n).filter (λd=>gO r x d (r.getD c 0))).map (λd=>(d,r.getD c 0)) else(((List.range n).filter (λd=>gO r x d (r.getD c 0))).map λd=>(d,r.getD c 0)).reverse:=by
 unfold wR;rw[List.filter_map];have hy:=R.get hc
 have ht:=(jW X hy).1
 have e: ∀l:List Nat,(∀d∈l,d<n)->l.filter (CL n r x∘λd=>(d,r.getD c 0))=l.filter (λd=>gO r x d (r.getD c 0)):=λl hl=>List.filter_congr λd hd=>by
  show decide ((d,r.getD c 0)∈dL n r x)=_;rw[Bool.eq_iff_iff,decide_eq_true_eq,mem_crP'];exact⟨λz=>z.2,λz=>⟨⟨hl d hd,hy⟩,z⟩⟩
 have e2:eD r x c=x.idxOf (r.getD c 0):=rfl
 have e3:r.idxOf (r.getD c 0)=c:=rq R hc
 rw[e2,e3,e _ λy hy=>?_,qu hc ht λd hd=>?_]
 ·split
  ·rfl
  ·rw[List.map_reverse]
 ·unfold gO at hd
  rw[Bool.and_eq_true,e3] at hd;exact hd.2
 ·unfold gp at hy
  split at hy
  ·have:=List.mem_range'_1.mp hy;omega
  ·have:=List.mem_range'_1.mp (List.mem_reverse.mp hy);omega
theorem lD(hn:n<=6):(dL n r x).length<=24:=by
 unfold dL;have h: ∀c∈List.range n,(((List.range n).filter (gO r x c)).map λy=>(c,y)).length<=n-2:=λc hc=>by
  have hc:=List.mem_range.mp hc
  rw[List.length_map];have hq:=X.get hc
  have ht:=R.get hc
  have:((List.range n).filter (gO r x c)).length<=((List.range n).filter λy=>jU y (r.getD c 0) (x.getD c 0)).length:=by
   have e:(List.range n).filter (gO r x c)=((List.range n).filter λy=>jU y (r.getD c 0) (x.getD c 0)).filter (gO r x c):=by
    rw[List.filter_filter];refine List.filter_congr λy _=>?_
    unfold gO;cases jU y (r.getD c 0) (x.getD c 0)<;>simp
   rw[e];exact List.length_filter_le _ _
  rw[<-vm ht hq,List.length_range'] at this;omega
 have g: ∀l:List Nat,(∀c∈l,(((List.range n).filter (gO r x c)).map λy=>(c,y)).length<=n-2)->(l.flatMap λc=>((List.range n).filter (gO r x c)).map λy=>(c,y)).length<=l.length*(n-2):=by
  intro l
  induction l with
  |nil=>intro _;simp
  |cons c l ih=>
   intro hl;rw[List.flatMap_cons,List.length_append,List.length_cons,Nat.add_mul];have h1:=hl c List.mem_cons_self
   have h2:=ih λd hd=>hl d (List.mem_cons_of_mem _ hd)
   omega
 have:=g (List.range n) h
 rw[List.length_range] at this;have m:n*(n-2)<=6*4:=Nat.mul_le_mul hn (by omega)
 exact Nat.le_trans this m
theorem zK:((List.range n).flatMap (wC n r x)).Perm (dL n r x):=by
 unfold dL;have g: ∀l:List Nat,(∀c∈l,c<n)->(l.flatMap (wC n r x)).Perm (l.flatMap λc=>((List.range n).filter (gO r x c)).map λy=>(c,y)):=by
  intro l
  induction l with
  |nil=>intro _;exact List.Perm.refl _
  |cons c l ih=>
   intro hl;rw[List.flatMap_cons,List.flatMap_cons];refine List.Perm.append ?_ (ih λd hd=>hl d (List.mem_cons_of_mem _ hd))
   rw[p7 R X (hl c List.mem_cons_self)];split
   ·exact List.Perm.refl _
   ·exact List.reverse_perm _
 exact g _ λc hc=>List.mem_range.mp hc
theorem oo {c:Nat}(hc:c<n){p:Nat×Nat}:p∈wR n r x c↔p∈dL n r x/\p.2=r.getD c 0:=by
 have e:p∈wR n r x c↔p∈((List.range n).filter (λd=>gO r x d (r.getD c 0))).map (λd=>(d,r.getD c 0)):=by
  rw[nz R X hc];split
  ·exact Iff.rfl
  ·exact List.mem_reverse
 rw[e,<-jT (R.get hc),List.mem_filter,decide_eq_true_eq]
theorem A2:((List.range n).flatMap (wR n r x)).Perm (dL n r x):=by
 refine(List.perm_ext_iff_of_nodup ?_ crP_nd).mpr λp=>?_
 ·refine List.pairwise_flatMap.mpr ⟨λc hc=>?_,?_⟩
  ·have hc:=List.mem_range.mp hc
   have nd:(((List.range n).filter (λd=>gO r x d (r.getD c 0))).map (λd=>(d,r.getD c 0))).Nodup:=by
    rw[<-jT (R.get hc)];exact crP_nd.sublist List.filter_sublist
   show(wR n r x c).Nodup;rw[nz R X hc];split
   ·exact nd
   ·exact(List.reverse_perm _).nodup_iff.mpr nd
  ·refine List.Pairwise.imp ?_ (List.Pairwise.and_mem.mp (List.nodup_range (n:=n)))
   rintro c d ⟨hc,hd,ne⟩ p hp q hq e
   subst e;have h1:=((oo R X (List.mem_range.mp hc)).mp hp).2
   have h2:=((oo R X (List.mem_range.mp hd)).mp hq).2
   exact ne (R.inj (List.mem_range.mp hc) (List.mem_range.mp hd) (h1.symm.trans h2))
 ·rw[List.mem_flatMap]
  constructor
  ·rintro⟨c,hc,h⟩
   exact((oo R X (List.mem_range.mp hc)).mp h).1
  ·intro h
   have hy:=(mem_crP'.mp h).1.2
   obtain⟨h1,h2⟩:=jW R hy
   exact⟨r.idxOf p.2,List.mem_range.mpr h1,(oo R X h1).mpr ⟨h,h2.symm⟩⟩
end
def kR(n:Nat)(r x:List Nat)(c:Nat):List (Int×Bool):=(wC n r x c).map (λp=>((((dL n r x).idxOf p:Nat):Int),true))++(wR n r x c).map (λp=>((((dL n r x).idxOf p:Nat):Int),false))
theorem qm {α β:Type}(f g:α->List β): ∀l:List α,(l.flatMap λa=>f a++g a).Perm (l.flatMap f++l.flatMap g)
 | []=>List.Perm.refl _
 |a::l=>by
  rw[List.flatMap_cons,List.flatMap_cons,List.flatMap_cons];have h:=qm f g l
  refine(h.append_left (f a++g a)).trans ?_
  rw[List.append_assoc,List.append_assoc];refine List.Perm.append_left (f a) ?_
  rw[<-List.append_assoc,<-List.append_assoc];exact(List.perm_append_comm (l₁:=g a) (l₂:=l.flatMap f)).append_right _
theorem qU {n:Nat}{r x:List Nat}(R:Ord n r)(X:Ord n x){C:Nat->List Nat}(hC: ∀s,s<n->Cy n (eD r x) s (C s)):((((List.range n).filter (du (eD r x))).map C).flatten).Perm (List.range n):=by
 have L:=wT R X hC
 have K:=AQ R X hC
 refine(List.perm_ext_iff_of_nodup ?_ List.nodup_range).mpr λc=>?_
 ·rw[<-List.flatMap_id,List.flatMap_map]
  refine List.pairwise_flatMap.mpr ⟨λs hs=>?_,?_⟩
  ·exact(hC s (List.mem_range.mp (List.mem_filter.mp hs).1)).nd
  ·refine List.Pairwise.imp ?_ (List.Pairwise.and_mem.mp ((List.nodup_range (n:=n)).sublist (List.filter_sublist (p:=du (eD r x)))))
   rintro s t ⟨hs,ht,ne⟩ u hu v hv e
   subst e;obtain⟨s1,s2⟩:=List.mem_filter.mp hs
   obtain⟨t1,t2⟩:=List.mem_filter.mp ht
   have s1:=List.mem_range.mp s1
   have t1:=List.mem_range.mp t1
   have H:=(ka R X).sg
   obtain⟨i,hi,ei⟩:=List.mem_iff_getElem.mp hs
   obtain⟨j,hj,ej⟩:=List.mem_iff_getElem.mp ht
   have hi':i<(((List.range n).filter (du (eD r x))).map C).length:=by rw[List.length_map];exact hi
   have hj':j<(((List.range n).filter (du (eD r x))).map C).length:=by rw[List.length_map];exact hj
   have gi:(((List.range n).filter (du (eD r x))).map C).getD i []=C s:=by
    rw[List.getD_eq_getElem?_getD,List.getElem?_eq_getElem hi',List.getElem_map,ei];rfl
   have gj:(((List.range n).filter (du (eD r x))).map C).getD j []=C t:=by
    rw[List.getD_eq_getElem?_getD,List.getElem?_eq_getElem hj',List.getElem_map,ej];rfl
   have:=L.uni i j u hi' hj' (by rw[gi];exact hu) (by rw[gj];exact hv)
   subst this;exact ne (ei.symm.trans ej)
 ·rw[List.mem_range,List.mem_flatten]
  constructor
  ·rintro⟨l,hl,hc⟩
   obtain⟨s,hs,rfl⟩:=List.mem_map.mp hl
   exact(hC s (List.mem_range.mp (List.mem_filter.mp hs).1)).c.lt c hc
  ·intro hc
   obtain⟨k,hk,h⟩:=L.cov c hc
   refine⟨_,?_,h⟩
   rw[List.getD_eq_getElem?_getD,List.getElem?_eq_getElem hk];exact List.getElem_mem hk
abbrev Pc:=(Nat×Nat)×Bool
def kY(n:Nat)(r x:List Nat)(L:List Nat):List Pc:=L.flatMap λc=>(wC n r x c).map (λp=>(p,true))++(wR n r x c).map λp=>(p,false)
theorem tO(n:Nat)(r x:List Nat)(L:List Nat):L.flatMap (kR n r x)=(kY n r x L).map λz=>((((dL n r x).idxOf z.1:Nat):Int),z.2):=by
 unfold kY;rw[List.map_flatMap];congr 1
 funext c;unfold kR;rw[List.map_append,List.map_map,List.map_map];rfl
theorem qC {n:Nat}{r x:List Nat}(R:Ord n r)(X:Ord n x){L:List Nat}(h:L.Perm (List.range n)):(kY n r x L).Perm ((dL n r x).map (λp=>(p,true))++(dL n r x).map λp=>(p,false)):=by
 unfold kY;refine(h.flatMap_right _).trans ?_
 refine(qm _ _ _).trans ?_
 rw[<-List.map_flatMap,<-List.map_flatMap];exact((zK R X).map _).append ((A2 R X).map _)
structure Tw(W:List Pc):Prop where
 nd:W.Nodup
 ot: ∀z∈W,(z.1, !z.2)∈W
theorem wJ {n:Nat}{r x:List Nat}(R:Ord n r)(X:Ord n x){L:List Nat}(h:L.Perm (List.range n)):Tw (kY n r x L)/\(∀z∈kY n r x L,z.1∈dL n r x)/\(kY n r x L).length=(dL n r x).length+(dL n r x).length:=by
 have pm:=qC R X h
 have mem: ∀z:Pc,z∈kY n r x L↔z.1∈dL n r x:=λz=>by
  rw[pm.mem_iff,List.mem_append,List.mem_map,List.mem_map];constructor
  ·rintro(⟨p,hp,rfl⟩|⟨p,hp,rfl⟩)<;>exact hp
  ·intro hp
   obtain⟨p,b⟩:=z
   cases b with
   |true=>exact .inl ⟨p,hp,rfl⟩
   |false=>exact .inr ⟨p,hp,rfl⟩
 refine⟨⟨?_,λz hz=>(mem _).mpr ((mem z).mp hz)⟩,λz hz=>(mem z).mp hz,by rw[pm.length_eq];simp⟩
 rw[pm.nodup_iff,List.nodup_append];refine⟨?_,?_,?_⟩
 ·exact List.Pairwise.map _ (λa b ne e=>ne (congrArg Prod.fst e)) crP_nd
 ·exact List.Pairwise.map _ (λa b ne e=>ne (congrArg Prod.fst e)) crP_nd
 ·intro a ha b hb e
  obtain⟨p,_,rfl⟩:=List.mem_map.mp ha
  obtain⟨q,_,rfl⟩:=List.mem_map.mp hb
  cases congrArg Prod.snd e
def eK(W:List Pc)(k:Nat):Pc:=W.getD k ((0,0),false)
def kO(W:List Pc)(k:Nat):Nat:=W.idxOf ((eK W k).1, !(eK W k).2)
def sW(W:List Pc)(k:Nat):Nat:=(kO W k+1) % W.length
section
variable {W:List Pc}(T:Tw W)
theorem lg {k:Nat}(hk:k<W.length):eK W k∈W:=by
 unfold eK;rw[List.getD_eq_getElem?_getD,List.getElem?_eq_getElem hk];exact List.getElem_mem hk
include T
theorem td {k:Nat}(hk:k<W.length):W.idxOf (eK W k)=k:=by
 unfold eK;rw[List.getD_eq_getElem?_getD,List.getElem?_eq_getElem hk];exact T.nd.idxOf_getElem k hk
theorem j5 {j k:Nat}(hj:j<W.length)(hk:k<W.length)(e:eK W j=eK W k):j=k:=by
 rw[<-td T hj,e,td T hk]
theorem lO {k:Nat}(hk:k<W.length):kO W k<W.length:=List.idxOf_lt_length_of_mem (T.ot _ (lg hk))
theorem n4 {k:Nat}(hk:k<W.length):eK W (kO W k)=((eK W k).1, !(eK W k).2):=by
 have lt:=lO T hk
 conv=>lhs;unfold eK
 rw[List.getD_eq_getElem?_getD,List.getElem?_eq_getElem lt];exact List.getElem_idxOf lt
theorem yy {k i:Nat}(hk:k<W.length)(hi:i<W.length):((eK W i).1=(eK W k).1/\i≠k)↔i=kO W k:=by
 have og:=n4 T hk
 have ol:=lO T hk
 constructor
 ·rintro⟨h1,h2⟩
  refine j5 T hi ol ?_
  rw[og]
  by_cases hb:(eK W i).2=(eK W k).2
  ·exact absurd (j5 T hi hk (Prod.ext h1 hb)) h2
  ·refine Prod.ext h1 ?_
   cases h3:(eK W i).2<;>cases h4:(eK W k).2<;>simp_all
 ·rintro rfl
  refine⟨by rw[og],λz=>?_⟩
  rw[z] at og;have h5:(eK W k).2= !(eK W k).2:=congrArg Prod.snd og
  clear og
  generalize (eK W k).2=b at h5
  cases b<;>cases h5
theorem sY:Sh W.length (sW W):=by
 refine⟨λy hy=>Nat.mod_lt _ (by omega),λy z hy hz e=>?_⟩
 have l1:=lO T hy
 have l2:=lO T hz
 unfold sW at e;have key:kO W y=kO W z:=by
  by_cases h1:kO W y+1=W.length
  ·rw[h1,Nat.mod_self] at e
   by_cases h2:kO W z+1=W.length
   ·omega
   ·rw[Nat.mod_eq_of_lt (by omega)] at e;omega
  ·rw[Nat.mod_eq_of_lt (show kO W y+1<W.length by omega)] at e
   by_cases h2:kO W z+1=W.length
   ·rw[h2,Nat.mod_self] at e;omega
   ·rw[Nat.mod_eq_of_lt (by omega)] at e;omega
 have g1:=n4 T hy
 rw[key,n4 T hz] at g1;refine j5 T hy hz (Prod.ext (congrArg Prod.fst g1).symm ?_)
 have:=congrArg Prod.snd g1
 cases h3:(eK W y).2<;>cases h4:(eK W z).2<;>simp_all
end
theorem sL {α:Type} [BEq α] [LawfulBEq α]{f:α->D}{z:α}: ∀(W:List α),(∀a∈W,cu (f a) (f z)=(a==z))->z∈W->jp (W.map f) (f z)=some (W.idxOf z)
 | [],_,h=>absurd h List.not_mem_nil
 |a::W,he,h=>by
  have e0:=he a List.mem_cons_self
  unfold jp;rw[List.map_cons,List.findIdx?_cons,e0,List.idxOf_cons];cases ha:a==z with
  |true=>rfl
  |false=>
   have hz:z∈W:=by
    rcases List.mem_cons.mp h with rfl|h
    ·simp at ha
    ·exact h
   have:=sL W (λb hb=>he b (List.mem_cons_of_mem _ hb)) hz
   unfold jp at this;simp only[Bool.false_eq_true,if_false,cond_false];rw[this];rfl
theorem zX {n:Nat}{r x:List Nat}(R:Ord n r)(X:Ord n x){c:Nat}(hc:c<n):wC n r x c=((gp (x.getD c 0) (r.getD c 0)).filter λh=>jU c (r.idxOf h) (x.idxOf h)).map λh=>(c,h):=by
 have hq:=X.get hc
 have ht:=R.get hc
 unfold wC;rw[List.filter_map];congr 1
 refine List.filter_congr λy hy=>?_
 have hy':y<n/\jU y (r.getD c 0) (x.getD c 0)=true:=by
  unfold gp at hy;unfold jU;split at hy
  ·have:=List.mem_range'_1.mp hy
   rw[Bool.and_eq_true,decide_eq_true_eq,decide_eq_true_eq];omega
  ·have:=List.mem_range'_1.mp (List.mem_reverse.mp hy)
   rw[Bool.and_eq_true,decide_eq_true_eq,decide_eq_true_eq];omega
 show decide ((c,y)∈dL n r x)=_;rw[Bool.eq_iff_iff,decide_eq_true_eq,mem_crP'];unfold gO;dsimp only;rw[hy'.2,Bool.true_and];exact⟨λz=>z.2,λz=>⟨⟨hc,hy'.1⟩,z⟩⟩
theorem zr {n:Nat}{r x:List Nat}(R:Ord n r)(X:Ord n x){c:Nat}(hc:c<n):wR n r x c=((gp c (eD r x c)).filter λd=>jU (r.getD c 0) (r.getD d 0) (x.getD d 0)).map λd=>(d,r.getD c 0):=by
 have hy:=R.get hc
 have ht:=(ka R X).lt c hc
 unfold wR;rw[List.filter_map];congr 1
 refine List.filter_congr λd hd=>?_
 have hd':d<n/\jU d (r.idxOf (r.getD c 0)) (x.idxOf (r.getD c 0))=true:=by
  have e3:r.idxOf (r.getD c 0)=c:=rq R hc
  have e4:x.idxOf (r.getD c 0)=eD r x c:=rfl
  rw[e3,e4];unfold gp at hd;unfold jU;split at hd
  ·have:=List.mem_range'_1.mp hd
   rw[Bool.and_eq_true,decide_eq_true_eq,decide_eq_true_eq];omega
  ·have:=List.mem_range'_1.mp (List.mem_reverse.mp hd)
   rw[Bool.and_eq_true,decide_eq_true_eq,decide_eq_true_eq];omega
 show decide ((d,r.getD c 0)∈dL n r x)=_;rw[Bool.eq_iff_iff,decide_eq_true_eq,mem_crP'];unfold gO;dsimp only;rw[hd'.2,Bool.and_true];exact⟨λz=>z.2,λz=>⟨⟨hd'.1,hy⟩,z⟩⟩
def sw(a b y:Nat):Nat:=if y=a then b else if y=b then a else y
def iB(S:Nat->Nat)(a b:Nat):Nat->Nat:=λy=>S (sw a b y)
theorem qx(a b:Nat):sw a b a=b:=if_pos rfl
theorem rg(a b:Nat):sw a b b=a:=by unfold sw;split<;>simp_all
theorem qe {a b y:Nat}(h1:y≠a)(h2:y≠b):sw a b y=y:=by unfold sw;rw[if_neg h1,if_neg h2]
theorem wq(a b y:Nat):sw a b (sw a b y)=y:=by
 by_cases h1:y=a
 ·subst h1;rw[qx,rg]
 ·by_cases h2:y=b
  ·subst h2;rw[rg,qx]
  ·rw[qe h1 h2,qe h1 h2]
theorem Bm(a b y:Nat):sw a b y=sw b a y:=by
 by_cases h1:y=a
 ·subst h1;rw[qx,rg]
 ·by_cases h2:y=b
  ·subst h2;rw[rg,qx]
  ·rw[qe h1 h2,qe h2 h1]
theorem v3 {n a b y:Nat}(ha:a<n)(hb:b<n)(hy:y<n):sw a b y<n:=by unfold sw;split<;>(try split)<;>omega
theorem qP {n:Nat}{S:Nat->Nat}(H:Sh n S){a b:Nat}(ha:a<n)(hb:b<n):Sh n (iB S a b):=by
 refine⟨λy hy=>H.lt _ (v3 ha hb hy),λy z hy hz e=>?_⟩
 have:=H.inj _ _ (v3 ha hb hy) (v3 ha hb hz) e
 rw[<-wq a b y,this,wq]
theorem yj(S:Nat->Nat)(a b:Nat):iB (iB S a b) a b=S:=by
 funext y;unfold iB;rw[wq]
theorem z9(S:Nat->Nat)(a b:Nat):iB S a b=iB S b a:=by
 funext y;unfold iB;rw[Bm]
theorem Ah {P:Nat->Prop}: ∀k,P k-> ∃m,P m/\ ∀j,j<m-> ¬P j:=by
 intro k
 induction k using Nat.strongRecOn with
 |ind k ih=>
  intro hk
  by_cases h: ∃j,j<k/\P j
  ·obtain⟨j,h1,h2⟩:=h;exact ih j h1 h2
  ·exact⟨k,hk,λj hj hp=>h ⟨j,hj,hp⟩⟩
theorem vj {S:Nat->Nat}{s k:Nat}(hk:0<k)(e:eN S k s=s): ∀m,eN S m s=eN S (m % k) s:=by
 intro m
 induction m using Nat.strongRecOn with
 |ind m ih=>
  by_cases h:m<k
  ·rw[Nat.mod_eq_of_lt h]
  ·have:=ih (m-k) (by omega)
   rw[Nat.mod_eq_sub_mod (by omega),<-this]
   have h2:eN S ((m-k)+k) s=eN S (m-k) s:=by rw[<-jS,e]
   rw[<-h2];congr 1;omega
section
variable {n:Nat}{S:Nat->Nat}(H:Sh n S){a b:Nat}(ha:a<n)(hb:b<n)(ab:a≠b)
include H hb
theorem zZ: ∃p,0<p/\eN S p b=b:=by
 obtain⟨k,e⟩:=bc H.sg hb (cD (cz S b))
 exact⟨k+1,by omega,by rw[<-jS];exact e⟩
theorem nn(a:Nat): ∃k,0<k/\(eN S k b=a\/eN S k b=b)/\(∀i,0<i->i<k->eN S i b≠a/\eN S i b≠b)/\ ∀i,0<i->i<=k->eN (iB S a b) i a=eN S i b:=by
 obtain⟨p,p0,pe⟩:=zZ H hb
 obtain⟨k,⟨k0,kh⟩,km⟩:=Ah (P:=λk=>0<k/\(eN S k b=a\/eN S k b=b)) p ⟨p0,.inr pe⟩
 have mn: ∀i,0<i->i<k->eN S i b≠a/\eN S i b≠b:=λi i0 ik=>⟨λz=>km i ik ⟨i0,.inl z⟩,λz=>km i ik ⟨i0,.inr z⟩⟩
 refine⟨k,k0,kh,mn,λi=>?_⟩
 induction i with
 |zero=>intro h;omega
 |succ i ih=>
  intro _ hi
  by_cases h:i=0
  ·subst h
   show S (sw a b a)=S b;rw[qx]
  ·have e:=ih (by omega) (by omega)
   obtain⟨n1,n2⟩:=mn i (by omega) (by omega)
   show S (sw a b (eN (iB S a b) i a))=S (eN S i b);rw[e,qe n1 n2]
include ha ab
theorem Cd(h: ¬gA S a b):gA (iB S a b) a b:=by
 obtain⟨k,k0,kh,_,ke⟩:=nn H hb a
 rcases kh with e|e
 ·exact absurd (bc H.sg hb ⟨k,e⟩) h
 ·exact⟨k,(ke k k0 (Nat.le_refl _)).trans e⟩
theorem wt(h:gA S a b): ¬gA (iB S a b) a b:=by
 obtain⟨k,k0,kh,km,ke⟩:=nn H hb a
 have hba:=bc H.sg ha h
 have e:eN S k b=a:=by
  rcases kh with e|e
  ·exact e
  ·obtain⟨m,hm⟩:=hba
   rw[vj k0 e] at hm
   by_cases z:m % k=0
   ·rw[z] at hm;exact absurd hm.symm ab
   ·exact absurd hm (km _ (by omega) (Nat.mod_lt _ k0)).1
 rintro⟨m,hm⟩
 rw[vj k0 ((ke k k0 (Nat.le_refl _)).trans e)] at hm
 by_cases z:m % k=0
 ·rw[z] at hm;exact ab hm
 ·have lt:=Nat.mod_lt m k0
  rw[ke _ (by omega) (by omega)] at hm
  exact(km _ (by omega) lt).2 hm
end
theorem oB {n:Nat}{S:Nat->Nat}(H:Sh n S){y z:Nat}(hy:y<n)(ly:led S y)(lz:led S z)(h:gA S y z):y=z:=by
 have h1:=ly z h
 have h2:=lz y (bc H.sg hy h)
 omega
noncomputable def eJ(n:Nat)(S:Nat->Nat):Nat:=((List.range n).filter (du S)).length
theorem pE {n:Nat}{S:Nat->Nat}(H:Sh n S){a b:Nat}(ha:a<n)(hb:b<n)(ab:a≠b)(h: ¬gA S a b){ma mb:Nat}(hma:ma<n)(hmb:mb<n)(la:led S ma)(lb:led S mb)(ra:gA S a ma)(rb:gA S b mb)(lt:ma<mb):eJ n (iB S a b)+1=eJ n S:=by
 have H':=qP H ha hb
 have jn:=Cd H ha hb ab h
 have jn':=bc H'.sg ha jn
 have up: ∀y,y<n-> ∀k,gA (iB S a b) y (eN S k y):=λy hy k=>by
  induction k with
  |zero=>exact cz _ y
  |succ k ih=>
   show gA (iB S a b) y (S (eN S k y))
   generalize eN S k y=w at ih
   by_cases h1:w=a
   ·subst h1
    have:=cD (aZ ih jn)
    rw[show iB S w b b=S w from congrArg S (rg w b)] at this;exact this
   ·by_cases h2:w=b
    ·subst h2
     have:=cD (aZ ih jn')
     rw[show iB S a w a=S w from congrArg S (qx a w)] at this;exact this
    ·have:=cD ih
     rw[show iB S a b w=S w from congrArg S (qe h1 h2)] at this;exact this
 have up': ∀y z,y<n->gA S y z->gA (iB S a b) y z:=λy z hy ⟨k,e⟩=>e▸up y hy k
 have dn: ∀y,y<n-> ∀k,gA S y (eN (iB S a b) k y)\/((gA S a y\/gA S b y)/\(gA S a (eN (iB S a b) k y)\/gA S b (eN (iB S a b) k y))):=λy hy k=>by
  induction k with
  |zero=>exact .inl (cz _ y)
  |succ k ih=>
   show gA S y (iB S a b (eN (iB S a b) k y))\/((gA S a y\/gA S b y)/\(gA S a (iB S a b (eN (iB S a b) k y))\/gA S b (iB S a b (eN (iB S a b) k y))))
   generalize eN (iB S a b) k y=w at ih
   by_cases h1:w=a
   ·subst h1
    rw[show iB S w b w=S b from congrArg S (qx w b)];refine .inr ⟨?_,.inr (cD (cz S b))⟩
    rcases ih with i|i
    ·exact .inl (bc H.sg hy i)
    ·exact i.1
   ·by_cases h2:w=b
    ·subst h2
     rw[show iB S a w w=S a from congrArg S (rg a w)];refine .inr ⟨?_,.inl (cD (cz S a))⟩
     rcases ih with i|i
     ·exact .inr (bc H.sg hy i)
     ·exact i.1
    ·rw[show iB S a b w=S w from congrArg S (qe h1 h2)]
     rcases ih with i|⟨i,j⟩
     ·exact .inl (cD i)
     ·exact .inr ⟨i,j.elim (λq=>.inl (cD q)) λq=>.inr (cD q)⟩
 have key: ∀y,y<n->(led (iB S a b) y↔led S y/\y≠mb):=λy hy=>by
  constructor
  ·intro l
   refine⟨λz hz=>l z (up' y z hy hz),λe=>?_⟩
   subst e;have:=l ma (aZ (up' y b hmb (bc H.sg hb rb)) (aZ jn' (up' a ma ha ra)))
   omega
  ·rintro⟨l,ne⟩ z ⟨k,rfl⟩
   rcases dn y hy k with i|⟨i,j⟩
   ·exact l _ i
   ·have ey:y=ma:=by
     rcases i with i|i
     ·exact oB H hy l la (aZ (bc H.sg ha i) ra)
     ·exact absurd (oB H hy l lb (aZ (bc H.sg hb i) rb)) ne
    subst ey;rcases j with j|j
    ·exact l _ (aZ (bc H.sg ha ra) j)
    ·have:=lb _ (aZ (bc H.sg hb rb) j)
     omega
 have pm:((List.range n).filter (du S)).Perm (mb::(List.range n).filter (du (iB S a b))):=by
  refine(List.perm_ext_iff_of_nodup (List.Pairwise.filter _ List.nodup_range) (List.nodup_cons.mpr ⟨λz=>?_,List.Pairwise.filter _ List.nodup_range⟩)).mpr λy=>?_
  ·exact((key mb hmb).mp (ledB_iff.mp (List.mem_filter.mp z).2)).2 rfl
  ·rw[List.mem_cons,List.mem_filter,List.mem_filter,List.mem_range,ledB_iff,ledB_iff]
   constructor
   ·rintro⟨h1,h2⟩
    by_cases e:y=mb
    ·exact .inl e
    ·exact .inr ⟨h1,(key y h1).mpr ⟨h2,e⟩⟩
   ·rintro(rfl|⟨h1,h2⟩)
    ·exact⟨hmb,lb⟩
    ·exact⟨h1,((key y h1).mp h2).1⟩
 unfold eJ;rw[pm.length_eq,List.length_cons]
theorem yT {n:Nat}{S:Nat->Nat}(H:Sh n S){a b:Nat}(ha:a<n)(hb:b<n)(ab:a≠b)(h: ¬gA S a b):eJ n (iB S a b)+1=eJ n S:=by
 obtain⟨ma,h1,la,ra⟩:=oO H.sg ha
 obtain⟨mb,h2,lb,rb⟩:=oO H.sg hb
 rcases Nat.lt_trichotomy ma mb with l|l|l
 ·exact pE H ha hb ab h h1 h2 la lb ra rb l
 ·subst l
  exact absurd (aZ ra (bc H.sg hb rb)) h
 ·rw[z9]
  exact pE H hb ha ab.symm (λz=>h (bc H.sg hb z)) h2 h1 lb la rb ra l
theorem vI {n:Nat}{S:Nat->Nat}(H:Sh n S){a b:Nat}(ha:a<n)(hb:b<n)(ab:a≠b):eJ n (iB S a b)+1=eJ n S\/eJ n (iB S a b)=eJ n S+1:=by
 by_cases h:gA S a b
 ·have:=yT (qP H ha hb) ha hb ab (wt H ha hb ab h)
  rw[yj] at this;exact .inr this.symm
 ·exact .inl (yT H ha hb ab h)
def nO(N y:Nat):Nat:=(y+1) % N
theorem wk {N:Nat}(h:0<N):Sh N (nO N):=by
 refine⟨λy hy=>Nat.mod_lt _ h,λy z hy hz e=>?_⟩
 unfold nO at e
 by_cases h1:y+1=N
 ·rw[h1,Nat.mod_self] at e
  by_cases h2:z+1=N
  ·omega
  ·rw[Nat.mod_eq_of_lt (by omega)] at e;omega
 ·rw[Nat.mod_eq_of_lt (show y+1<N by omega)] at e
  by_cases h2:z+1=N
  ·rw[h2,Nat.mod_self] at e;omega
  ·rw[Nat.mod_eq_of_lt (by omega)] at e;omega
theorem vR {N:Nat}: ∀k,k<N->eN (nO N) k 0=k
 |0,_=>rfl
 |k+1,h=>by
  show nO N (eN (nO N) k 0)=k+1;rw[vR k (by omega)]
  exact Nat.mod_eq_of_lt h
theorem yI {N:Nat}(h:0<N):eJ N (nO N)=1:=by
 unfold eJ;rw[iq (j:=0) h λi hi=>?_]
 ·rfl
 ·rw[ledB_iff]
  constructor
  ·intro l
   have:=l 0 (bc (wk h).sg h ⟨i,vR i hi⟩)
   omega
  ·rintro rfl;exact λz _=>Nat.zero_le z
section
variable {W:List Pc}{P:List (Nat×Nat)}(T:Tw W)(hP: ∀z:Pc,z∈W↔z.1∈P)(nP:P.Nodup)(h0:0<W.length)
def iC(W:List Pc)(P:List (Nat×Nat))(j y:Nat):Nat:=if P.idxOf (eK W y).1<j then kO W y else y
include T hP nP h0
theorem tm: ∀j,j<=P.length->Sh W.length (λy=>nO W.length (iC W P j y))/\eJ W.length (λy=>nO W.length (iC W P j y))<=j+1/\(eJ W.length (λy=>nO W.length (iC W P j y))+j) % 2=1
 |0,_=>by
  have e:(λy=>nO W.length (iC W P 0 y))=nO W.length:=by funext y;unfold iC;rw[if_neg (by omega)]
  rw[e,yI h0];exact⟨wk h0,by omega,by omega⟩
 |j+1,hj=>by
  obtain⟨h1,h2,h3⟩:=tm j (by omega)
  have hm:P[j]'(by omega)∈P:=List.getElem_mem _
  have pj:P.idxOf (P[j]'(by omega))=j:=nP.idxOf_getElem j (by omega)
  generalize P[j]'(by omega)=p at hm pj
  have mt:(p,true)∈W:=(hP _).mpr hm
  have mf:(p,false)∈W:=(hP _).mpr hm
  let a:=W.idxOf (p,true)
  let b:=W.idxOf (p,false)
  have ha:a<W.length:=List.idxOf_lt_length_of_mem mt
  have hb:b<W.length:=List.idxOf_lt_length_of_mem mf
  have ga:eK W a=(p,true):=by
   unfold eK;rw[List.getD_eq_getElem?_getD,List.getElem?_eq_getElem ha];exact List.getElem_idxOf ha
  have gb:eK W b=(p,false):=by
   unfold eK;rw[List.getD_eq_getElem?_getD,List.getElem?_eq_getElem hb];exact List.getElem_idxOf hb
  have ab:a≠b:=λe=>by rw[e,gb] at ga;cases congrArg Prod.snd ga
  have oa:kO W a=b:=by unfold kO;rw[ga];rfl
  have ob:kO W b=a:=by unfold kO;rw[gb];rfl
  have st: ∀y,y<W.length->iC W P (j+1) y=iC W P j (sw a b y):=λy hy=>by
   by_cases e1:y=a
   ·rw[e1,qx]
    unfold iC;rw[ga,gb];dsimp only;rw[pj,if_pos (by omega),if_neg (by omega)];exact oa
   ·by_cases e2:y=b
    ·rw[e2,rg]
     unfold iC;rw[ga,gb];dsimp only;rw[pj,if_pos (by omega),if_neg (by omega)];exact ob
    ·rw[qe e1 e2]
     unfold iC;have ne:P.idxOf (eK W y).1≠j:=λe=>by
      have my:(eK W y).1∈P:=(hP _).mp (lg hy)
      have l1:=List.idxOf_lt_length_of_mem my
      have l2:=List.idxOf_lt_length_of_mem hm
      have g1:P[P.idxOf (eK W y).1]'l1=(eK W y).1:=List.getElem_idxOf l1
      have g2:P[P.idxOf p]'l2=p:=List.getElem_idxOf l2
      have ep:(eK W y).1=p:=by
       rw[<-g1,<-g2];congr 1;omega
      cases hb2:(eK W y).2 with
      |true=>exact e1 (j5 T hy ha (by rw[ga];exact Prod.ext ep hb2))
      |false=>exact e2 (j5 T hy hb (by rw[gb];exact Prod.ext ep hb2))
     by_cases e3:P.idxOf (eK W y).1<j
     ·rw[if_pos e3,if_pos (by omega)]
     ·rw[if_neg e3,if_neg (by omega)]
  have cg: ∀ {U V:Nat->Nat},(∀y,y<W.length->U y=V y)->Sh W.length V->Sh W.length U/\eJ W.length U=eJ W.length V:=λ{U V} e HV=>by
   have HU:Sh W.length U:=⟨λy hy=>by rw[e y hy];exact HV.lt y hy,λy z hy hz q=>by rw[e y hy,e z hz] at q;exact HV.inj y z hy hz q⟩
   have it: ∀y,y<W.length-> ∀k,eN U k y=eN V k y/\eN V k y<W.length:=λy hy k=>by
    induction k with
    |zero=>exact⟨rfl,hy⟩
    |succ k ih=>exact⟨by show U (eN U k y)=V (eN V k y);rw[ih.1,e _ ih.2],HV.lt _ ih.2⟩
   refine⟨HU,?_⟩
   unfold eJ;congr 1
   refine List.filter_congr λy hy=>?_
   have hy:=List.mem_range.mp hy
   rw[Bool.eq_iff_iff,ledB_iff,ledB_iff];exact⟨λl z ⟨k,q⟩=>l z ⟨k,by rw[(it y hy k).1];exact q⟩,λl z ⟨k,q⟩=>l z ⟨k,by rw[<-(it y hy k).1];exact q⟩⟩
  obtain⟨c1,c2⟩:=cg (U:=λy=>nO W.length (iC W P (j+1) y)) (V:=iB (λy=>nO W.length (iC W P j y)) a b) (λy hy=>by show nO _ _=nO _ _;rw[st y hy]) (qP h1 ha hb)
  rw[c2];refine⟨c1,?_⟩
  rcases vI h1 ha hb ab with q|q<;>constructor<;>omega
theorem wx:eJ W.length (sW W)<=P.length+1/\(eJ W.length (sW W)+P.length) % 2=1:=by
 obtain⟨h1,h2,h3⟩:=tm T hP nP h0 P.length (Nat.le_refl _)
 have e: ∀y,y<W.length->(λy=>nO W.length (iC W P P.length y)) y=sW W y:=λy hy=>by
  show nO W.length (iC W P P.length y)=sW W y;unfold iC;rw[if_pos (List.idxOf_lt_length_of_mem ((hP _).mp (lg hy)))];rfl
 have HV:=sY T
 have it: ∀y,y<W.length-> ∀k,eN (λy=>nO W.length (iC W P P.length y)) k y=eN (sW W) k y/\eN (sW W) k y<W.length:=λy hy k=>by
  induction k with
  |zero=>exact⟨rfl,hy⟩
  |succ k ih=>exact⟨by show(λy=>nO W.length (iC W P P.length y)) (eN _ k y)=sW W (eN (sW W) k y);rw[ih.1,e _ ih.2],HV.lt _ ih.2⟩
 have en:eJ W.length (λy=>nO W.length (iC W P P.length y))=eJ W.length (sW W):=by
  unfold eJ;congr 1
  refine List.filter_congr λy hy=>?_
  have hy:=List.mem_range.mp hy
  rw[Bool.eq_iff_iff,ledB_iff,ledB_iff];exact⟨λl z ⟨k,q⟩=>l z ⟨k,by rw[(it y hy k).1];exact q⟩,λl z ⟨k,q⟩=>l z ⟨k,by rw[<-(it y hy k).1];exact q⟩⟩
 rw[<-en];exact⟨h2,h3⟩
end
section
variable {n:Nat}{r x:List Nat}(R:Ord n r)(X:Ord n x)(hn:n<=6)
include R X
theorem vQ {c:Nat}(hc:c<n):dA [be r x,nI c]=some (.bl (decide (x.getD c 0<r.getD c 0))):=by
 apply cj (kd:=.s) (n:=4) (t:=kc)
 unfold kc;refine(aA (ρ':=[.v (be r x),.v (nI c),.v (bi r),.v (bi x)]) (iK (jy rfl) rfl)).trans (ci ((av ((av (x:=bi x) (y:=nI c) rfl rfl).trans (iM (by rw[X.len];exact hc))) ((av (x:=bi r) (y:=nI c) rfl rfl).trans (iM (by rw[R.len];exact hc)))).trans ?_))
 show some (D.bl (decide (((x.getD c 0:Nat):Int)<((r.getD c 0:Nat):Int))))=_;congr 2
 simp
theorem qp {y:Nat}(hy:y<n):bI [be r x,nI y]=some (.bl (decide (r.idxOf y<x.idxOf y))):=by
 apply cj (kd:=.s) (n:=4) (t:=h8)
 unfold h8;refine(aA (ρ':=[.v (be r x),.v (nI y),.v (bi r),.v (bi x)]) (iK (jy rfl) rfl)).trans (ci ((av ((av (x:=bi r) (y:=nI y) rfl rfl).trans (fV R hy)) ((av (x:=bi x) (y:=nI y) rfl rfl).trans (fV X hy))).trans ?_))
 show some (D.bl (decide (((r.idxOf y:Nat):Int)<((x.idxOf y:Nat):Int))))=_;congr 2
 simp
theorem xn {c y:Nat}(hc:c<n)(hy:y<n):fB [be r x,nI c,nI y]=some (.bl (gO r x c y)):=by
 refine mx (kd:=.s) (n:=5) (t:=gL) ?_
 unfold gL;have t1:eU (ak (nF 3 db) (aa (ai 2) (aa (aq bn (ai 3) (ai 1)) (aa (aq bn (ai 4) (ai 1)) (ah))))) [.v (be r x),.v (nI c),.v (nI y),.v (bi r),.v (bi x)]=some (jU y (r.getD c 0) (x.getD c 0)):=
  jB ((bJ (ds:=[nI y,nI (r.getD c 0),nI (x.getD c 0)]) (ay rfl (ay ((av (x:=bi r) (y:=nI c) rfl rfl).trans (iM (by rw[R.len];exact hc))) (ay ((av (x:=bi x) (y:=nI c) rfl rfl).trans (iM (by rw[X.len];exact hc))) rfl))) rfl).trans (oJ _ _ _))
 refine⟨[.v (be r x),.v (nI c),.v (nI y),.v (bi r),.v (bi x)],(aA (ρ':=[.v (be r x),.v (nI c),.v (nI y),.v (bi r),.v (bi x)]) (iK (jy rfl) rfl)).trans ?_⟩
 unfold gO;cases e:jU y (r.getD c 0) (x.getD c 0) with
 |false=>
  rw[e] at t1;unfold aB;rw[j6 (kz t1)];rfl
 |true=>
  rw[e] at t1;refine(aA (ρ':=[.v (be r x),.v (nI c),.v (nI y),.v (bi r),.v (bi x)]) (sP (kz t1))).trans ?_
  rw[Bool.true_and];exact ci ((bJ (ds:=[nI c,nI (r.idxOf y),nI (x.idxOf y)]) (ay rfl (ay ((av (x:=bi r) (y:=nI y) rfl rfl).trans (fV R hy)) (ay ((av (x:=bi x) (y:=nI y) rfl rfl).trans (fV X hy)) rfl))) rfl).trans (oJ _ _ _))
theorem yi {c y:Nat}(hc:c<n)(hy:y<n):jg [be r x,nI c,nI y]=some (.int (y8 r x c y)):=by
 apply cj (kd:=.s) (n:=3) (t:=kf)
 unfold kf;refine ci ?_
 have t1:bC (aq iD (ak (nF 2 dA) (aa (ai 0) (aa (ai 1) (ah)))) (ak (nF 2 bI) (aa (ai 0) (aa (ai 2) (ah))))) (cY 3 [be r x,nI c,nI y])=some (!(decide (x.getD c 0<r.getD c 0)==decide (r.idxOf y<x.idxOf y))):=by
  refine dE ((av ((bJ (ds:=[be r x,nI c]) rfl rfl).trans (vQ R X hc)) ((bJ (ds:=[be r x,nI y]) rfl rfl).trans (qp R X hy))).trans ?_)
  rw[jA (by unfold dY;omega)]
  unfold cu;rfl
 unfold y8
 by_cases e:decide (x.getD c 0<r.getD c 0)=decide (r.idxOf y<x.idxOf y)
 ·rw[if_pos e]
  rw[e,beq_self_eq_true] at t1;exact(BW t1).trans rfl
 ·rw[if_neg e]
  rw[beq_eq_false_iff_ne.mpr e] at t1;exact(Ca t1).trans rfl
include hn
theorem qg:aQ [be r x]=some (.lst ((zB n r x).map B0)):=by
 apply cj (kd:=.n) (n:=2) (t:=gd)
 unfold gd;refine(aA (ρ':=[.v (be r x),.v (nI n)]) ((bZ (d:=nI n) ((pQ r _ _ ((av (x:=be r x) (y:=.int 0) rfl rfl).trans rfl)).trans (by rw[R.len]))).trans rfl)).trans ?_
 refine ci (xP (ds:=(List.range n).map nI) (fI (n:=n) (ay rfl rfl) (by omega)) ?_ (by rw[List.length_map];have:=xV n r x hn;omega))
 refine(o7 (h:=nI) (q:=λ_=>true) (o:=λ(c:Nat)=>((List.range n).filter (gO r x c)).map λ(y:Nat)=>B0 [(c:Int),(y:Int),y8 r x c y]) (List.range n) λc hc=>⟨_,rfl,rfl,λ_=>?_⟩).trans ?_
 ·have hc:=List.mem_range.mp hc
  refine Ad (ds:=(List.range n).map nI) (fI (n:=n) (ay rfl rfl) (by omega)) ?_
  refine(o7 (h:=nI) (q:=gO r x c) (o:=λ(y:Nat)=>[B0 [(c:Int),(y:Int),y8 r x c y]]) (List.range n) λy hy=>⟨_,rfl,?_,λ_=>?_⟩).trans ?_
  ·exact jB ((bJ (ds:=[be r x,nI c,nI y]) rfl rfl).trans (xn R X hc (List.mem_range.mp hy)))
  ·exact x9 (fC (ay rfl (ay rfl (ay ((bJ (ds:=[be r x,nI c,nI y]) rfl rfl).trans (yi R X hc (List.mem_range.mp hy))) rfl))) (by simp))
  ·rw[pz]
 ·rw[List.filter_eq_self.mpr (λ_ _=>rfl)]
  unfold zB;rw[List.map_flatMap];congr 2
  funext c;rw[List.map_map];rfl
end
section
variable {n:Nat}{S:Nat->Nat}(H:Sh n S)(hn:n<=60)
include H hn in
theorem lW(F:List D)(s:Nat): ∀(f:Nat) (W:List Nat) (t:Nat),n<f+W.length->Wl n S s W t->
 ∃L,jv BN Bz f (xg n S F s W)=.nx (xg n S F s L)/\Cy n S s L
 |0,W,t,h,w=>absurd (fY w.w.nd w.w.lt) (by omega)
 |f+1,W,t,h,w=>by
  unfold jv;have tt:BN (xg n S F s W)=some (!decide (S t=s)):=by
   unfold BN;refine dE ((av (x:=nI (S t)) (y:=nI s) (wy H w) rfl).trans ?_)
   rw[jA (by rw[eS];omega),gZ]
  rw[tt]
  by_cases e:S t=s
  ·rw[show(!decide (S t=s))=false by simp[e]]
   exact⟨W,rfl,w.done e⟩
  ·rw[show(!decide (S t=s))=true by simp[e]]
   have ll:=fY w.w.nd w.w.lt
   have b:Bz (xg n S F s W)=.nx (xg n S F s (W++[S t])):=by
    unfold Bz;refine(o5 (i:=3) (bs:=W.map nI) (d:=nI (S t)) rfl (bG (ay (wy H w) rfl)) rfl (by rw[List.length_map];omega)).trans ?_
    unfold xg;rw[List.map_append];rfl
   obtain⟨L,h1,h2⟩:=lW F s f (W++[S t]) (S t) (by rw[List.length_append,List.length_singleton];omega) (w.next H e)
   refine⟨L,?_,h2⟩
   dsimp only;rw[b];exact h1
include H hn in
theorem lK: ∃C:Nat->List Nat,(∀s,s<n->Cy n S s (C s))/\
 bU [.lst (((List.range n).map S).map nI)]=some (.lst (((List.range n).filter (du S)).map λs=>.lst ((C s).map nI))):=by
 have hC: ∀s,∃L,s<n->Cy n S s L:=λs=>by
  by_cases hs:s<n
  ·obtain⟨L,_,h⟩:=lW H hn [] s 64 [s] s (by simp;omega) (Wl.start hs)
   exact⟨L,λ_=>h⟩
  ·exact⟨[],λh=>absurd h hs⟩
 obtain⟨C,hC⟩:=Classical.skolem.mp hC
 refine⟨C,hC,?_⟩
 have lp: ∀(l:List Nat),(∀s∈l,s<n)-> ∀(F:List D) (s2 s3:Sl),F.length+l.length<=900-> ∃s2' s3',fM (gN 2) (aB (eI 3 (bS (aa (ai 2) (ah)))) (aB (jv BN Bz 64) Dr)) (l.map nI) [.v (.lst (((List.range n).map S).map nI)),.own F,s2,s3]
  =.nx [.v (.lst (((List.range n).map S).map nI)),.own (F++(l.filter (du S)).map λs=>.lst ((C s).map nI)),s2',s3']:=by
  intro l
  induction l with
  |nil=>intro _ F s2 s3 _;exact⟨s2,s3,by simp[fM]⟩
  |cons s l ih=>
   intro hl F s2 s3 hF;rw[List.length_cons] at hF;have hs:=hl s (List.mem_cons_self ..)
   obtain⟨L,hL,K⟩:=lW H hn F s 64 [s] s (by simp;omega) (Wl.start hs)
   cases K.uniq (hC s hs)
   have b1:(aB (eI 3 (bS (aa (ai 2) (ah)))) (aB (jv BN Bz 64) Dr)) [.v (.lst (((List.range n).map S).map nI)),.own F,.v (nI s),s3]=Dr (xg n S F s (C s)):=
    (aA (ρ':=xg n S F s [s]) ((gD (ia (ds:=[nI s]) rfl (by simp))).trans rfl)).trans (aA hL)
   obtain⟨v,hv,hv2⟩:=BQ ((K.c.mem s).mpr (cz S s))
   have hv3:v=s↔du S s=true:=hv2.trans ((Iff.intro (λq z hz=>q z ((K.c.mem z).mpr hz)) λq z hz=>q z ((K.c.mem z).mp hz)).trans ledB_iff.symm)
   have ih':=ih λz hz=>hl z (List.mem_cons_of_mem _ hz)
   have tt:bC (aq iE (ak nA (aa (dr 3) (ah))) (ai 2)) (xg n S F s (C s))=some (du S s):=by
    refine dE ((av (x:=.int v) (y:=nI s) ((cS (ds:=[.lst ((C s).map nI)]) rfl).trans hv) rfl).trans ?_)
    rw[ii (by rw[eS];omega),g6]
    congr 2
    rw[Bool.eq_iff_iff,decide_eq_true_eq];exact hv3
   cases e:du S s
   ·rw[e] at tt
    obtain⟨s2',s3',h⟩:=ih' F (.v (nI s)) (.own ((C s).map nI)) (by omega)
    refine⟨s2',s3',?_⟩
    rw[List.map_cons,List.filter_cons_of_neg (by rw[e];decide),<-h]
    exact fX (ρ1:=[.v (.lst (((List.range n).map S).map nI)),.own F,.v (nI s),s3]) rfl (b1.trans (sP tt))
   ·rw[e] at tt
    obtain⟨s2',s3',h⟩:=ih' (F++[.lst ((C s).map nI)]) (.v (nI s)) (.v (.lst ((C s).map nI))) (by rw[List.length_append,List.length_singleton];omega)
    refine⟨s2',s3',?_⟩
    rw[List.map_cons,List.filter_cons_of_pos e,List.map_cons,List.append_cons,<-h];exact fX (ρ1:=[.v (.lst (((List.range n).map S).map nI)),.own F,.v (nI s),s3]) rfl (b1.trans ((j6 tt).trans ((o5 (i:=1) (bs:=F) (d:=.lst ((C s).map nI)) rfl (bG rfl) rfl (by omega)).trans rfl)))
 obtain⟨s2',s3',h⟩:=lp (List.range n) (λs hs=>List.mem_range.mp hs) [] .no .no (by simp;omega)
 apply cj (kd:=.n) (n:=4) (t:=gq)
 unfold gq;refine(aA (ρ':=[.v (.lst (((List.range n).map S).map nI)),.own [],.no,.no]) ((gD (ia (ds:=[]) rfl (by simp))).trans rfl)).trans ?_
 refine(aA ((jf (ds:=(List.range n).map nI) (bG (fI (n:=n) (ay ((vl ((List.range n).map S) _ _ rfl).trans (by simp)) rfl) (by omega)))).trans h)).trans ?_
 rfl
end
theorem wE {n:Nat}{r x:List Nat}(R:Ord n r)(X:Ord n x)(hn:n<=8): ∃C:Nat->List Nat,(∀s,s<n->Cy n (eD r x) s (C s))/\
 bt [be r x]=some (.lst (((List.range n).filter (du (eD r x))).map λs=>.lst ((C s).map nI))):=by
 obtain⟨C,hC,h⟩:=lK (ka R X) (by omega)
 refine⟨C,hC,?_⟩
 apply cj (kd:=.n) (n:=3) (t:=jO)
 unfold jO;refine(aA (ρ':=[.v (be r x),.v (bi r),.v (bi x)]) (iK (jy rfl) rfl)).trans ?_
 refine ci ((bJ (ds:=[.lst (((List.range n).map (eD r x)).map nI)]) (ay ?_ rfl) rfl).trans h)
 refine cx (ds:=r.map nI) (wo rfl) (by rw[List.length_map,R.len];omega) ?_
 have er:r.map nI=(List.range n).map λy=>nI (r.getD y 0):=by
  conv=>lhs;rw[ul r,R.len,List.map_map]
  rfl
 rw[er,List.map_map];refine cE (List.range n) λy hy=>?_
 rw[List.mem_range] at hy;exact⟨_,rfl,(av (x:=bi x) (y:=nI (r.getD y 0)) rfl rfl).trans (fV X (R.get hy))⟩
def yk(LL:List (List Nat)):D:=.lst (LL.map λL=>.lst (L.map nI))
def zV(r x:List Nat)(p:Nat×Nat):D:=B0 [(p.1:Int),(p.2:Int),DL r x p]
abbrev j8(n:Nat)(r x:List Nat):D:=.lst ((dL n r x).map (zV r x))
theorem zD(n:Nat)(r x:List Nat):(.lst ((zB n r x).map B0):D)=j8 n r x:=by
 rw[y4,List.map_map];rfl
theorem pc {α:Type}(f:α->D)(l:List α)(d:α):oQ (l.map f)=(List.range l.length).map λ(k:Nat)=>D.tup [nI k,f (l.getD k d)]:=by
 unfold oQ;rw[List.length_map];refine List.map_congr_left λk hk=>?_
 rw[List.mem_range] at hk;congr 3
 rw[List.getD_eq_getElem?_getD,List.getElem?_map,List.getElem?_eq_getElem hk,List.getD_eq_getElem?_getD,List.getElem?_eq_getElem hk];rfl
abbrev cN(n:Nat)(r x:List Nat)(p:Nat×Nat):Nat:=(dL n r x).idxOf p
theorem v4 {i:Nat}{g:FE}{ρ:aC}{bs zs:List D}(h1:g ρ=some (.lst zs))(h2:gy i ρ=some bs)(h3:bs.length+zs.length<=3000):cr (oh i g) ρ=.nx (fP i (bs++zs) ρ):=by
 refine iG (d:=.non) ?_
 unfold oh;rw[h1];dsimp only;rw[h2];dsimp only;rw[if_pos (Nat.le_trans h3 (by decide))]
section
variable {n:Nat}{r x:List Nat}(R:Ord n r)(X:Ord n x)(hn:n<=6)
include R X hn
theorem xQ {c:Nat}(hc:c<n):di [be r x,j8 n r x,nI c]=some (.lst (((wC n r x c).map λp=>(((cN n r x p:Nat):Int),true)).map nT)):=by
 have hl:=lD R X hn
 let ps:=((List.range n).filter (gO r x c)).map λy=>(c,y)
 let I:List Nat:=ps.map (cN n r x)
 have lI:I.length<=24:=by
  have:ps=(dL n r x).filter λp=>decide (p.1=c):=(pb hc).symm
  show(List.map _ ps).length<=24;rw[List.length_map,this];exact Nat.le_trans (List.length_filter_le _ _) hl
 have z1:eI 3 (bu 4 (pr (ai 1)) (gT 2 (dN (gN 4) (dN (gT 3 (dN (gN 5) (dN (gN 6) (dN (gN 7) (jo))))) (jo)))) (bC (aq iE (ai 5) (ai 2))) (ai 4)) (cY 4 [be r x,j8 n r x,nI c])=.nx [.v (be r x),.v (j8 n r x),.v (nI c),.own (I.map nI)]:=by
  refine(gD (cx (ds:=(List.range (dL n r x).length).map λ(k:Nat)=>D.tup [nI k,zV r x ((dL n r x).getD k (0,0))]) ?_ (by simp;omega) ((jc (h:=λ(k:Nat)=>D.tup [nI k,zV r x ((dL n r x).getD k (0,0))]) (o:=nI) (q:=λk=>decide (((dL n r x).getD k (0,0)).1=c)) (List.range (dL n r x).length) λk hk=>⟨[.v (be r x),.v (j8 n r x),.v (nI c),.no,.v (nI k),.v (nI ((dL n r x).getD k (0,0)).1),.v (nI ((dL n r x).getD k (0,0)).2),.v (.int (DL r x ((dL n r x).getD k (0,0))))],rfl,dE ((av (x:=nI ((dL n r x).getD k (0,0)).1) (y:=nI c) rfl rfl).trans (oM _ _)),λ_=>rfl⟩).trans ?_))).trans rfl
  ·show some (oQ ((dL n r x).map (zV r x)))=_
   rw[pc _ _ (0,0)]
  ·rw[lL crP_nd (λp=>decide (p.1=c)) (0,0),pb hc]
 have up:=vQ R X hc
 have z2: ∃J:List Nat,J=(wC n r x c).map (cN n r x)/\fH (gU (eU (ak (nF 2 dA) (aa (ai 0) (aa (ai 2) (ah)))))) (cr (aF 3 0 rk (cm ah))) (skip) [.v (be r x),.v (j8 n r x),.v (nI c),.own (I.map nI)]=.nx [.v (be r x),.v (j8 n r x),.v (nI c),.own (J.map nI)]:=by
  have t:gU (eU (ak (nF 2 dA) (aa (ai 0) (aa (ai 2) (ah))))) [.v (be r x),.v (j8 n r x),.v (nI c),.own (I.map nI)]=some (!decide (x.getD c 0<r.getD c 0)):=kz (jB ((bJ (ds:=[be r x,nI c]) rfl rfl).trans up))
  by_cases lt:x.getD c 0<r.getD c 0
  ·refine⟨I,?_,hZ (t.trans (by rw[decide_eq_true lt];rfl))⟩
   rw[p7 R X hc,if_pos lt]
  ·refine⟨I.reverse,?_,(j6 (t.trans (by rw[decide_eq_false lt];rfl))).trans ?_⟩
   ·rw[p7 R X hc,if_neg lt,List.map_reverse]
   ·refine(iG (bB (i:=3) (n:=0) (b0:=I.map nI) (bs:=I.map nI) (ds:=[]) rfl (bG rfl) rfl rfl (show rk (I.map nI) []=some (.non,(I.map nI).reverse) from rfl))).trans ?_
    rw[<-List.map_reverse];rfl
 obtain⟨J,hJ,z2⟩:=z2
 have lJ:J.length<=24:=by
  have:J.length=I.length:=by
   rw[hJ,p7 R X hc];split<;>simp[I,ps]
  omega
 apply cj (kd:=.n) (n:=4) (t:=fZ)
 unfold fZ;refine(aA z1).trans ((aA z2).trans (ci (cx (ds:=J.map nI) (sD rfl) (by simp;omega) ?_)))
 rw[show((wC n r x c).map λp=>(((cN n r x p:Nat):Int),true)).map nT=J.map λk=>D.tup [nI k,.bl true] by rw[hJ,List.map_map,List.map_map];rfl]
 exact cE (h:=nI) (o:=λk=>D.tup [nI k,.bl true]) J λk hk=>⟨[.v (be r x),.v (j8 n r x),.v (nI c),.own (J.map nI),.v (nI k)],rfl,fC (ds:=[nI k,.bl true]) rfl (by simp)⟩
theorem xD {c:Nat}(hc:c<n):fG [be r x,j8 n r x,nI (r.getD c 0)]=some (.lst (((wR n r x c).map λp=>(((cN n r x p:Nat):Int),false)).map nT)):=by
 have hl:=lD R X hn
 have hy:=R.get hc
 let y:=r.getD c 0
 let ps:=((List.range n).filter (λd=>gO r x d y)).map λd=>(d,y)
 let I:List Nat:=ps.map (cN n r x)
 have lI:I.length<=24:=by
  have:ps=(dL n r x).filter λp=>decide (p.2=y):=(jT hy).symm
  show(List.map _ ps).length<=24;rw[List.length_map,this];exact Nat.le_trans (List.length_filter_le _ _) hl
 have z1:eI 3 (bu 4 (pr (ai 1)) (gT 2 (dN (gN 4) (dN (gT 3 (dN (gN 5) (dN (gN 6) (dN (gN 7) (jo))))) (jo)))) (bC (aq iE (ai 6) (ai 2))) (ai 4)) (cY 4 [be r x,j8 n r x,nI y])=.nx [.v (be r x),.v (j8 n r x),.v (nI y),.own (I.map nI)]:=by
  refine(gD (cx (ds:=(List.range (dL n r x).length).map λ(k:Nat)=>D.tup [nI k,zV r x ((dL n r x).getD k (0,0))]) ?_ (by simp;omega) ((jc (h:=λ(k:Nat)=>D.tup [nI k,zV r x ((dL n r x).getD k (0,0))]) (o:=nI) (q:=λk=>decide (((dL n r x).getD k (0,0)).2=y)) (List.range (dL n r x).length) λk hk=>⟨[.v (be r x),.v (j8 n r x),.v (nI y),.no,.v (nI k),.v (nI ((dL n r x).getD k (0,0)).1),.v (nI ((dL n r x).getD k (0,0)).2),.v (.int (DL r x ((dL n r x).getD k (0,0))))],rfl,dE ((av (x:=nI ((dL n r x).getD k (0,0)).2) (y:=nI y) rfl rfl).trans (oM _ _)),λ_=>rfl⟩).trans ?_))).trans rfl
  ·show some (oQ ((dL n r x).map (zV r x)))=_
   rw[pc _ _ (0,0)]
  ·rw[lL crP_nd (λp=>decide (p.2=y)) (0,0),jT hy]
 have up:=qp R X hy
 have z2: ∃J:List Nat,J=(wR n r x c).map (cN n r x)/\fH (gU (eU (ak (nF 2 bI) (aa (ai 0) (aa (ai 2) (ah)))))) (cr (aF 3 0 rk (cm ah))) (skip) [.v (be r x),.v (j8 n r x),.v (nI y),.own (I.map nI)]=.nx [.v (be r x),.v (j8 n r x),.v (nI y),.own (J.map nI)]:=by
  have t:gU (eU (ak (nF 2 bI) (aa (ai 0) (aa (ai 2) (ah))))) [.v (be r x),.v (j8 n r x),.v (nI y),.own (I.map nI)]=some (!decide (r.idxOf y<x.idxOf y)):=kz (jB ((bJ (ds:=[be r x,nI y]) rfl rfl).trans up))
  by_cases lt:r.idxOf y<x.idxOf y
  ·refine⟨I,?_,hZ (t.trans (by rw[decide_eq_true lt];rfl))⟩
   rw[nz R X hc,if_pos lt]
  ·refine⟨I.reverse,?_,(j6 (t.trans (by rw[decide_eq_false lt];rfl))).trans ?_⟩
   ·rw[nz R X hc,if_neg lt,List.map_reverse]
   ·refine(iG (bB (i:=3) (n:=0) (b0:=I.map nI) (bs:=I.map nI) (ds:=[]) rfl (bG rfl) rfl rfl (show rk (I.map nI) []=some (.non,(I.map nI).reverse) from rfl))).trans ?_
    rw[<-List.map_reverse];rfl
 obtain⟨J,hJ,z2⟩:=z2
 have lJ:J.length<=24:=by
  have:J.length=I.length:=by
   rw[hJ,nz R X hc];split<;>simp[I,ps,y]
  omega
 apply cj (kd:=.n) (n:=4) (t:=iI)
 unfold iI;refine(aA z1).trans ((aA z2).trans (ci (cx (ds:=J.map nI) (sD rfl) (by simp;omega) ?_)))
 rw[show((wR n r x c).map λp=>(((cN n r x p:Nat):Int),false)).map nT=J.map λk=>D.tup [nI k,.bl false] by rw[hJ,List.map_map,List.map_map];rfl]
 exact cE (h:=nI) (o:=λk=>D.tup [nI k,.bl false]) J λk hk=>⟨[.v (be r x),.v (j8 n r x),.v (nI y),.own (J.map nI),.v (nI k)],rfl,fC (ds:=[nI k,.bl false]) rfl (by simp)⟩
theorem Ac {c:Nat}(hc:c<n):(wC n r x c).length<=24/\(wR n r x c).length<=24:=by
 have hl:=lD R X hn
 constructor
 ·have e:(wC n r x c).length=((dL n r x).filter λp=>decide (p.1=c)).length:=by
   rw[pb hc,p7 R X hc];split<;>simp
  rw[e];exact Nat.le_trans (List.length_filter_le _ _) hl
 ·have e:(wR n r x c).length=((dL n r x).filter λp=>decide (p.2=r.getD c 0)).length:=by
   rw[jT (R.get hc),nz R X hc];split<;>simp
  rw[e];exact Nat.le_trans (List.length_filter_le _ _) hl
theorem tR {c:Nat}(hc:c<n):(kR n r x c).length<=48:=by
 obtain⟨h1,h2⟩:=Ac R X hn hc
 unfold kR;rw[List.length_append,List.length_map,List.length_map];omega
theorem pK: ∀l:List Nat,(∀c∈l,c<n)->(l.flatMap (kR n r x)).length<=l.length*48
 | [],_=>by simp
 |c::l,h=>by
  rw[List.flatMap_cons,List.length_append,List.length_cons,Nat.add_mul];have h1:=tR R X hn (h c List.mem_cons_self)
  have h2:=pK l λd hd=>h d (List.mem_cons_of_mem _ hd)
  omega
def bV:FS:=aB (cr (oh 4 (ak (nF 3 di) (aa (ai 0) (aa (ai 1) (aa (ai 5) (ah)))))))
 (cr (oh 4 (ak (nF 3 fG) (aa (ai 0) (aa (ai 1) (aa (aq bn (ai 3) (ai 5)) (ah)))))))
theorem yM(q:D): ∀(l:List Nat) (F:List (Int×Bool)) (s5:Sl),(∀c∈l,c<n)->F.length+l.length*48<=2000-> ∃s5',fM (gN 5) bV (l.map nI) [.v (be r x),.v (j8 n r x),.v q,.v (bi r),.own (F.map nT),s5]=.nx [.v (be r x),.v (j8 n r x),.v q,.v (bi r),.own ((F++l.flatMap (kR n r x)).map nT),s5']
 | [],F,s5,_,_=>⟨s5,by rw[List.flatMap_nil,List.append_nil];rfl⟩
 |c::l,F,s5,hl,hF=>by
  have hc:=hl c List.mem_cons_self
  obtain⟨w1,w2⟩:=Ac R X hn hc
  rw[List.length_cons,Nat.add_mul] at hF;have pl:=tR R X hn hc
  obtain⟨s5',e⟩:=yM q l (F++kR n r x c) (.v (nI c)) (λd hd=>hl d (List.mem_cons_of_mem _ hd)) (by rw[List.length_append];omega)
  refine⟨s5',?_⟩
  rw[List.map_cons,List.flatMap_cons,<-List.append_assoc];refine(fX (ρ1:=[.v (be r x),.v (j8 n r x),.v q,.v (bi r),.own (F.map nT),.v (nI c)]) rfl ?_).trans e
  refine(aA (ρ':=[.v (be r x),.v (j8 n r x),.v q,.v (bi r),.own ((F++(wC n r x c).map λp=>(((cN n r x p:Nat):Int),true)).map nT),.v (nI c)]) ((v4 (bs:=F.map nT) ((bJ (ds:=[be r x,j8 n r x,nI c]) rfl rfl).trans (xQ R X hn hc)) rfl (by simp;omega)).trans (by rw[List.map_append];rfl))).trans ?_
  refine(v4 (bs:=(F++(wC n r x c).map λp=>(((cN n r x p:Nat):Int),true)).map nT) ((bJ (ds:=[be r x,j8 n r x,nI (r.getD c 0)]) (ay rfl (ay rfl (ay ((av (x:=bi r) (y:=nI c) rfl rfl).trans (iM (by rw[R.len];exact hc))) rfl))) rfl).trans (xD R X hn hc)) rfl (by simp;omega)).trans ?_
  rw[<-List.map_append,List.append_assoc];rfl
theorem xO {L:List Nat}(hL: ∀c∈L,c<n)(ll:L.length<=6):ji [be r x,j8 n r x,.lst (L.map nI)]=some (.lst ((L.flatMap (kR n r x)).map nT)):=by
 obtain⟨s5,e⟩:=yM R X hn (.lst (L.map nI)) L [] .no hL (by simp;omega)
 apply cj (kd:=.n) (n:=6) (t:=nR)
 refine(aA (ρ':=[.v (be r x),.v (j8 n r x),.v (.lst (L.map nI)),.v (bi r),.no,.no]) rfl).trans ?_
 refine(aA (ρ':=[.v (be r x),.v (j8 n r x),.v (.lst (L.map nI)),.v (bi r),.own [],.no]) ((gD (ia rfl (by simp))).trans rfl)).trans ?_
 refine(aA ((jf (ds:=L.map nI) (bG (ku rfl))).trans e)).trans ?_
 rw[List.nil_append];rfl
theorem vb {LL:List (List Nat)}(h:Lns n (eD r x) LL)(hL:bt [be r x]=some (yk LL)):gc [be r x]=some (.lst (LL.map λL=>.lst ((L.flatMap (kR n r x)).map nT))):=by
 have hl:=h.len
 apply cj (kd:=.n) (n:=2) (t:=mi)
 refine(aA (ρ':=[.v (be r x),.v (j8 n r x)]) ((bZ ((bJ (ds:=[be r x]) rfl rfl).trans ((qg R X hn).trans (by rw[zD])))).trans rfl)).trans ?_
 refine ci (cx (ds:=LL.map λL=>D.lst (L.map nI)) (ku ((bJ (ds:=[be r x]) rfl rfl).trans (show bt [be r x]=some (.lst (LL.map λL=>D.lst (L.map nI))) from hL))) (by rw[List.length_map];omega) ?_)
 refine cE (h:=λL:List Nat=>D.lst (L.map nI)) (o:=λL=>.lst ((L.flatMap (kR n r x)).map nT)) LL λL hm=>⟨[.v (be r x),.v (j8 n r x),.v (.lst (L.map nI))],rfl,(bJ (ds:=[be r x,j8 n r x,.lst (L.map nI)]) rfl rfl).trans (xO R X hn (λc hc=>?_) (Nat.le_trans (h.ll L hm) hn))⟩
 obtain⟨k,hk,e⟩:=List.mem_iff_getElem.mp hm
 exact h.lt k hk c (by rw[List.getD_eq_getElem?_getD,List.getElem?_eq_getElem hk,e];exact hc)
end
theorem zU(a b:Int×Bool):cu (nT a) (nT b)=decide (a=b):=by
 obtain⟨i,p⟩:=a
 obtain⟨j,q⟩:=b
 show(cu (.int i) (.int j)&&(cu (.bl p) (.bl q)&&true))=_;rw[g6,Bool.and_true];show(decide (i=j)&&(p==q))=_;rw[Bool.eq_iff_iff];simp[Prod.ext_iff]
theorem zQ(ks:List (Int×Bool)):ck (ks.map nT)<=1:=mL λd hd=>by
 obtain⟨k,_,rfl⟩:=List.mem_map.mp hd
 unfold nT dY;simp[ck,dY]
def u4(n:Nat)(r x:List Nat)(z:Pc):D:=nT (((cN n r x z.1:Nat):Int),z.2)
abbrev rH(n:Nat)(r x:List Nat)(W:List Pc):D:=.lst (W.map (u4 n r x))
theorem yx(n:Nat)(r x:List Nat)(W:List Pc):ck (W.map (u4 n r x))<=1:=by
 have:=zQ (W.map λz=>(((cN n r x z.1:Nat):Int),z.2))
 rw[List.map_map] at this;exact this
theorem mq {l:List D}{f:FE}{ρ:aC}(h:f ρ=some (.lst l)):ak bD (aa f ah) ρ=some (nI l.length):=(cS (ay h rfl)).trans rfl
theorem tH {α:Type}{f:α->D}{l:List α}{k:Nat}(d:α)(hk:k<l.length):bn (.lst (l.map f)) (nI k)=some (f (l.getD k d)):=tF (by rw[List.getElem?_map,List.getElem?_eq_getElem hk,List.getD_eq_getElem?_getD,List.getElem?_eq_getElem hk];rfl)
section
variable {n:Nat}{r x:List Nat}{W:List Pc}(T:Tw W)(hc: ∀z∈W,z.1∈dL n r x)
include hc in
theorem BC {a z:Pc}(ha:a∈W)(hz:z∈W):cu (u4 n r x a) (u4 n r x z)=(a==z):=by
 unfold u4;rw[zU,Bool.eq_iff_iff,decide_eq_true_eq,beq_iff_eq];constructor
 ·intro e
  obtain⟨h0,h2⟩:=Prod.ext_iff.mp e
  have h0:((cN n r x a.1:Nat):Int)=((cN n r x z.1:Nat):Int):=h0
  have h1:cN n r x a.1=cN n r x z.1:=by omega
  have h2:a.2=z.2:=h2
  refine Prod.ext ?_ h2
  have l1:=List.idxOf_lt_length_of_mem (hc a ha)
  have l2:=List.idxOf_lt_length_of_mem (hc z hz)
  have g1:(dL n r x)[(dL n r x).idxOf a.1]'l1=a.1:=List.getElem_idxOf l1
  have g2:(dL n r x)[(dL n r x).idxOf z.1]'l2=z.1:=List.getElem_idxOf l2
  rw[<-g1,<-g2];congr 1
 ·intro e;rw[e]
include T hc
theorem xl {k:Nat}(hk:k<W.length):df [rH n r x W,nI k]=some (nI (sW W k)):=by
 have hz:=T.ot _ (lg hk)
 apply cj (kd:=.s) (n:=4) (t:=ge)
 unfold ge;refine(aA (ρ':=[.v (rH n r x W),.v (nI k),.v (nI (cN n r x (eK W k).1)),.v (.bl (eK W k).2)]) (iK (jy ((av (x:=rH n r x W) (y:=nI k) rfl rfl).trans (tH ((0,0),false) hk))) rfl)).trans ?_
 have ix:aq qk (ai 0) (cC (aa (ai 2) (aa (xf (gU (bC (ai 3)))) (ah)))) [.v (rH n r x W),.v (nI k),.v (nI (cN n r x (eK W k).1)),.v (.bl (eK W k).2)]=some (nI (kO W k)):=by
  refine(av (x:=rH n r x W) (y:=u4 n r x ((eK W k).1, !(eK W k).2)) rfl (fC (ay rfl (ay (zG (kz (b:=(eK W k).2) (dE rfl))) rfl)) (by simp))).trans ?_
  show(if ck (W.map (u4 n r x))<=32 then(jp (W.map (u4 n r x)) (u4 n r x ((eK W k).1, !(eK W k).2))).map (λj=>D.int j) else none)=_
  rw[if_pos (Nat.le_trans (yx n r x W) (by omega)),sL W (λa ha=>BC hc ha hz) hz]
  rfl
 refine ci ((av ((av ix (y:=.int 1) rfl).trans (cB _ _)) ((mq (l:=W.map (u4 n r x)) rfl).trans (by rw[List.length_map]))).trans ?_)
 exact wU (n:=W.length) (by omega)
end
theorem u5 {n:Nat}{r x:List Nat}{LL:List (List Nat)}(hL:bt [be r x]=some (yk LL)):cF [be r x]=some (if LL.length=1 then .ok (.bl true) else .error ⟨"NotOne",0⟩):=by
 have t:bC (aq iD (ak bD (aa (ak (nF 1 bt) (aa (ai 0) (ah))) (ah))) (az (.int 1))) (cY 1 [be r x])=some (!decide (LL.length=1)):=by
  refine dE ((av (x:=nI LL.length) (y:=nI 1) ((mq (l:=LL.map λL=>D.lst (L.map nI)) ((bJ (ds:=[be r x]) rfl rfl).trans hL)).trans (by rw[List.length_map])) rfl).trans ?_)
  rw[jA (by rw[eS];omega),gZ]
 by_cases h:LL.length=1
 ·rw[if_pos h]
  refine qW (kd:=.s) (n:=1) (t:=dg) (ρ:=[.v (be r x)]) ?_
  unfold dg;rw[tZ (Ba (t.trans (by rw[decide_eq_true h];rfl)))]
  rfl
 ·rw[if_neg h]
  refine qM (kd:=.s) (n:=1) (t:=dg) ⟨[.v (be r x)],?_⟩
  unfold dg;exact sV ((Bu (t.trans (by rw[decide_eq_false h];rfl))).trans rfl)
noncomputable def Be(N:Nat)(S:Nat->Nat)(C:Nat->List Nat):List (List Nat):=if N=0 then [[]] else((List.range N).filter (du S)).map C
section
variable {n:Nat}{r x:List Nat}(R:Ord n r)(X:Ord n x)(hn:n<=6)
include R X hn
theorem yF {LL:List (List Nat)}(hL:bt [be r x]=some (yk LL))(h:LL.length≠1):bA [be r x]=some (.error ⟨"NotOne",0⟩):=by
 refine qM (kd:=.s) (n:=2) (t:=eG) ⟨[.v (be r x),.no],?_⟩
 unfold eG;refine sV ?_
 unfold pL;have:gY 1 cF (kC (aa (ai 0) (ah))) (cY 2 [be r x])=some (.error ⟨"NotOne",0⟩):=(gQ (n:=1) (ds:=[be r x]) (i9 rfl) rfl).trans ((u5 (n:=n) hL).trans (by rw[if_neg h]))
 rw[this];rfl
theorem zk {L:List Nat}(hLn:Lns n (eD r x) [L])(pm:L.Perm (List.range n))(hL:bt [be r x]=some (yk [L])): ∃C:Nat->List Nat,(∀s,s<(kY n r x L).length->Cy (kY n r x L).length (sW (kY n r x L)) s (C s))/\bA [be r x]=some (.ok (yk (Be (kY n r x L).length (sW (kY n r x L)) C))):=by
 obtain⟨T,hc,hl⟩:=wJ R X pm
 have cl:=lD R X hn
 have we:=vb R X hn hLn hL
 generalize hW:kY n r x L=W at*
 have hN:W.length<=48:=by omega
 obtain⟨C,hC,oe⟩:=lK (sY T) (by omega)
 refine⟨C,hC,?_⟩
 have ew:(.lst ((L.flatMap (kR n r x)).map nT):D)=rH n r x W:=by
  rw[tO,hW,List.map_map];rfl
 have s0:eG (cY 2 [be r x])=yc (aB (aS 1 (aq bn (ak (nF 1 gc) (aa (ai 0) (ah))) (az (.int 0)))) (bp (u7 (eU (ai 1)) (ak (nF 1 bU) (aa (bu 1 (dc (aa (ak bD (aa (ai 1) (ah))) (ah))) (gN 2) (gz) (ak (nF 2 df) (aa (ai 1) (aa (ai 2) (ah))))) (ah))) (bS (aa (bS (ah)) (ah)))))) [.v (be r x),.no]:=by
  unfold eG;refine tZ ?_
  unfold pL;have:gY 1 cF (kC (aa (ai 0) (ah))) (cY 2 [be r x])=some (.ok (.bl true)):=(gQ (n:=1) (ds:=[be r x]) (i9 rfl) rfl).trans ((u5 (n:=n) hL).trans (by rw[if_pos (show [L].length=1 from rfl)]))
  rw[this];rfl
 refine qW (kd:=.s) (n:=2) (t:=eG) (ρ:=[.v (be r x),.v (rH n r x W)]) (s0.trans (zH ?_))
 refine(aA (ρ':=[.v (be r x),.v (rH n r x W)]) ((bZ (d:=rH n r x W) ((av (x:=.lst ([L].map λL=>D.lst ((L.flatMap (kR n r x)).map nT))) (y:=.int 0) ((bJ (ds:=[be r x]) rfl rfl).trans we) rfl).trans ?_)).trans rfl)).trans (ci ?_)
 ·rw[<-ew];rfl
 by_cases h0:W.length=0
 ·have:W=[]:=List.length_eq_zero_iff.mp h0
  subst this;rfl
 ·have tr:eU (ai 1) [.v (be r x),.v (rH n r x W)]=some true:=by
   have:eU (ai 1) [.v (be r x),.v (rH n r x W)]=some (!(W.map (u4 n r x)).isEmpty):=rfl
   rw[this];cases W with
   |nil=>exact absurd rfl h0
   |cons _ _=>rfl
  have ift: ∀(f g:FE),u7 (eU (ai 1)) f g [.v (be r x),.v (rH n r x W)]=f [.v (be r x),.v (rH n r x W)]:=λf g=>by unfold u7;rw[tr];rfl
  rw[ift];rw[show yk (Be W.length (sW W) C)=.lst (((List.range W.length).filter (du (sW W))).map λs=>.lst ((C s).map nI)) by unfold Be yk;rw[if_neg h0,List.map_map];rfl]
  refine(bJ (ds:=[.lst (((List.range W.length).map (sW W)).map nI)]) (ay ?_ rfl) rfl).trans oe
  refine cx (ds:=(List.range W.length).map nI) (fI (n:=W.length) (ay ((mq (l:=W.map (u4 n r x)) rfl).trans (by rw[List.length_map])) rfl) (by omega)) (by simp;omega) ?_
  rw[List.map_map];exact cE (h:=nI) (o:=λk=>nI (sW W k)) (List.range W.length) λk hk=>⟨[.v (be r x),.v (rH n r x W),.v (nI k)],rfl,(bJ (ds:=[rH n r x W,nI k]) rfl rfl).trans (xl T hc (List.mem_range.mp hk))⟩
end
theorem mD(v a b:Nat):bw [nI v,nI a,nI b]=some (.bl (jU v a b)):=oJ v a b
theorem tj {a b:Nat}(ha:a<=50)(hb:b<=50):dB [nI a,nI b]=some (.lst ((gp a b).map nI)):=by
 have e1:CH (aq bx (ai 0) (az (.int 1))) (ai 1) (cY 2 [nI a,nI b])=some (.lst ((List.range' (a+1) (b- (a+1))).map nI)):=by
  unfold CH;refine(av (x:=nI (a+1)) (y:=nI b) ((av (x:=nI a) (y:=.int 1) rfl rfl).trans (cB _ _)) rfl).trans ?_
  show(if((a+1:Nat):Int).natAbs<=1000000/\(b:Int).natAbs<=1000000/\((b:Int) - ((a+1:Nat):Int)).natAbs<=1000000 then some (D.lst (qd ((a+1:Nat):Int) ((b:Int) - ((a+1:Nat):Int)).toNat)) else none)=_
  rw[if_pos (by omega),As]
 have e2:CI (aq iF (ai 0) (az (.int 1))) (ai 1) (iQ (az (.int 1))) (cY 2 [nI a,nI b])=some (.lst (((List.range' (b+1) (a-b-1)).reverse).map nI)):=by
  unfold CI;rw[show aq iF (ai 0) (az (.int 1)) (cY 2 [nI a,nI b])=some (.int ((a:Int) -1)) from(av (x:=nI a) (y:=.int 1) rfl rfl).trans (mw _ _),Option.bind_some,show ai 1 (cY 2 [nI a,nI b])=some (nI b) from rfl,Option.bind_some,show iQ (az (.int 1)) (cY 2 [nI a,nI b])=some (.int (-1)) from rfl,Option.bind_some];show(if(-1:Int)= -1/\((a:Int) -1).natAbs<=1000/\(b:Int).natAbs<=1000 then some (D.lst (Bd ((a:Int) -1) ((a:Int) -1- (b:Int)).toNat)) else none)=_
  rw[if_pos ⟨rfl,by omega,by omega⟩]
  congr 2
  unfold Bd;have hm:((a:Int) -1- (b:Int)).toNat=a-b-1:=by omega
  rw[hm];apply List.ext_getElem (by simp)
  intro i h1 h2;simp at h1 h2;rw[List.getElem_map,List.getElem_range,List.getElem_map,List.getElem_reverse,List.getElem_range'];show D.int _=D.int _;congr 1
  rw[List.length_range'];omega
 apply cj (kd:=.s) (n:=2) (t:=kr)
 unfold kr;refine ci ?_
 have e3:ak oj (aa (aq nX (ai 1) (ai 0)) (ah)) (cY 2 [nI a,nI b])=some (nI (if b<a then 1 else 0)):=by
  rw[cS (ds:=[.bl (decide (b<a))]) (ay ((av (x:=nI b) (y:=nI a) rfl rfl).trans ?_) rfl)]
  ·by_cases e:b<a
   ·rw[decide_eq_true e,if_pos e];rfl
   ·rw[decide_eq_false e,if_neg e];rfl
  ·show some (D.bl (decide ((b:Int)<(a:Int))))=_
   congr 2
   rw[Bool.eq_iff_iff,decide_eq_true_eq,decide_eq_true_eq];omega
 refine(av (ia (ay e1 (ay e2 rfl)) (by simp)) e3).trans ?_
 by_cases h:b<a
 ·rw[if_pos h]
  unfold gp;rw[if_neg (by omega)];rfl
 ·rw[if_neg h]
  unfold gp
  by_cases h2:a<b
  ·rw[if_pos h2,show b-a-1=b- (a+1) by omega];rfl
  ·rw[if_neg h2,show a-b-1=0 by omega,show b- (a+1)=0 by omega];rfl
theorem lM {g:FG}{b:FS}{st:List D->Sl->aC}{q:Nat->Bool}{o:Nat->D}(hg: ∀k F s,g (nI k) (st F s)=some (st F (.v (nI k)))): ∀(l:List Nat) (F:List D) (s:Sl),F.length+l.length<=800->(∀k∈l,∀F,F.length<=800->b (st F (.v (nI k)))=.nx (st (F++if q k=true then [o k] else []) (.v (nI k))))->
 ∃s',fM g b (l.map nI) (st F s)=.nx (st (F++(l.filter q).map o) s')
 | [],F,s,_,_=>⟨s,by simp[fM]⟩
 |k::l,F,s,h,hb=>by
  rw[List.length_cons] at h;obtain⟨s',e⟩:=lM hg l (F++if q k=true then [o k] else []) (.v (nI k)) (by rw[List.length_append];split<;>simp<;>omega) λj hj=>hb j (List.mem_cons_of_mem _ hj)
  refine⟨s',?_⟩
  rw[List.map_cons];refine(fX (hg k F s) (hb k List.mem_cons_self F (by omega))).trans (e.trans ?_)
  rw[List.append_assoc]
  by_cases hq:q k=true
  ·rw[if_pos hq,List.filter_cons_of_pos hq];rfl
  ·rw[if_neg hq,List.filter_cons_of_neg hq];rfl
def lu(z:Pc):D:=.tup [nI z.1.1,nI z.1.2,.bl z.2]
abbrev lj(r x:List Nat)(F:List D)(c:Nat)(s5 s6 s7 s8:Sl):aC:=[.v (be r x),.v (bi r),.v (bi x),.own F,.v (nI c),s5,s6,s7,s8]
def c7:FS:=fH (eU (ak (nF 3 bw) (aa (ai 4) (aa (aq eE (ai 1) (ai 7)) (aa (aq eE (ai 2) (ai 7)) (ah)))))) (cr (aF 3 1 iP (cm (aa (cC (aa (ai 4) (aa (ai 7) (aa (az (.bl true)) (ah))))) (ah))))) (skip)
def c8:FS:=fH (eU (ak (nF 3 bw) (aa (ai 5) (aa (aq bn (ai 1) (ai 8)) (aa (aq bn (ai 2) (ai 8)) (ah)))))) (cr (aF 3 1 iP (cm (aa (cC (aa (ai 8) (aa (ai 5) (aa (az (.bl false)) (ah))))) (ah))))) (skip)
def C9:FS:=aB (aS 5 (aq bn (ai 1) (ai 4)))
 (aB (aS 6 (aq eE (ai 2) (ai 5)))
 (aB (fQ (cm (fN (ak (nF 2 dB) (aa (aq bn (ai 2) (ai 4)) (aa (ai 5) (ah)))))) (gN 7) c7)
 (aB (fQ (cm (fN (ak (nF 2 dB) (aa (ai 4) (aa (ai 6) (ah)))))) (gN 8) c8)
 (aB (aS 4 (ai 6))
 (fH (bC (aq iE (ai 4) (az (.int 0)))) (zw) (skip))))))
section
variable {n:Nat}{r x:List Nat}(R:Ord n r)(X:Ord n x)(hn:n<=6)
include R X hn
theorem tE {q t d:Nat}(hq:q<n)(ht:t<n)(h:d∈gp q t):d<n:=by
 unfold gp at h;split at h
 ·have:=List.mem_range'_1.mp h;omega
 ·have:=List.mem_range'_1.mp (List.mem_reverse.mp h);omega
theorem qj {q t:Nat}(hq:q<n)(ht:t<n):(gp q t).length<=6:=by
 unfold gp;split
 ·rw[List.length_range'];omega
 ·rw[List.length_reverse,List.length_range'];omega
theorem AG {c:Nat}(hc:c<n){F:List D}(hF:F.length<=600)(s5 s6 s7 s8:Sl): ∃s5' s6' s7' s8',C9 (lj r x F c s5 s6 s7 s8)=(if eD r x c=0 then Out.bk else Out.nx) (lj r x (F++((wC n r x c).map (λp=>(p,true))++(wR n r x c).map λp=>(p,false)).map lu) (eD r x c) s5' s6' s7' s8'):=by
 have hy:=R.get hc
 have hq:=X.get hc
 have hr:c<r.length:=by rw[R.len];exact hc
 have hx:c<x.length:=by rw[X.len];exact hc
 have lc:=(ka R X).lt c hc
 have z5:aS 5 (aq bn (ai 1) (ai 4)) (lj r x F c s5 s6 s7 s8)=.nx (lj r x F c (.v (nI (r.getD c 0))) s6 s7 s8):=(bZ ((av (x:=bi r) (y:=nI c) rfl rfl).trans (iM hr))).trans rfl
 have z6:aS 6 (aq eE (ai 2) (ai 5)) (lj r x F c (.v (nI (r.getD c 0))) s6 s7 s8)=.nx (lj r x F c (.v (nI (r.getD c 0))) (.v (nI (eD r x c))) s7 s8):=(bZ ((av (x:=bi x) (y:=nI (r.getD c 0)) rfl rfl).trans (fV X hy))).trans rfl
 obtain⟨s7',e7⟩:=lM (g:=gN 7) (b:=c7) (st:=λF s=>lj r x F c (.v (nI (r.getD c 0))) (.v (nI (eD r x c))) s s8) (q:=λh=>jU c (r.idxOf h) (x.idxOf h)) (o:=λh=>lu ((c,h),true)) (λ_ _ _=>rfl) (gp (x.getD c 0) (r.getD c 0)) F s7 (by have:=qj R X hn hq hy;omega) (λh hh F hF=>by
  have lt:=tE R X hn hq hy hh
  have t:eU (ak (nF 3 bw) (aa (ai 4) (aa (aq eE (ai 1) (ai 7)) (aa (aq eE (ai 2) (ai 7)) (ah))))) (lj r x F c (.v (nI (r.getD c 0))) (.v (nI (eD r x c))) (.v (nI h)) s8)=some (jU c (r.idxOf h) (x.idxOf h)):=jB ((bJ (ds:=[nI c,nI (r.idxOf h),nI (x.idxOf h)]) (ay rfl (ay ((av (x:=bi r) (y:=nI h) rfl rfl).trans (fV R lt)) (ay ((av (x:=bi x) (y:=nI h) rfl rfl).trans (fV X lt)) rfl))) rfl).trans (mD _ _ _))
  cases hb:jU c (r.idxOf h) (x.idxOf h) with
  |true=>
   rw[hb] at t;rw[if_pos rfl];exact(j6 t).trans ((o5 (i:=3) (b0:=F) (bs:=F) (d:=lu ((c,h),true)) rfl (bG (ay (fC (ds:=[nI c,nI h,.bl true]) rfl (by simp)) rfl)) rfl (by omega)).trans rfl)
  |false=>
   rw[hb] at t;rw[if_neg (by decide),List.append_nil]
   exact hZ t)
 rw[show((gp (x.getD c 0) (r.getD c 0)).filter λh=>jU c (r.idxOf h) (x.idxOf h)).map (λh=>lu ((c,h),true))=((wC n r x c).map λp=>(p,true)).map lu by rw[zX R X hc,List.map_map,List.map_map];rfl] at e7
 let F1:=F++((wC n r x c).map λp=>(p,true)).map lu
 have l1:=(Ac R X hn hc).1
 obtain⟨s8',e8⟩:=lM (g:=gN 8) (b:=c8) (st:=λF s=>lj r x F c (.v (nI (r.getD c 0))) (.v (nI (eD r x c))) s7' s) (q:=λd=>jU (r.getD c 0) (r.getD d 0) (x.getD d 0)) (o:=λd=>lu ((d,r.getD c 0),false)) (λ_ _ _=>rfl) (gp c (eD r x c)) F1 s8 (by have:=qj R X hn hc lc;simp[F1];omega) (λd hd F hF=>by
  have lt:=tE R X hn hc lc hd
  have t:eU (ak (nF 3 bw) (aa (ai 5) (aa (aq bn (ai 1) (ai 8)) (aa (aq bn (ai 2) (ai 8)) (ah))))) (lj r x F c (.v (nI (r.getD c 0))) (.v (nI (eD r x c))) s7' (.v (nI d)))=some (jU (r.getD c 0) (r.getD d 0) (x.getD d 0)):=jB ((bJ (ds:=[nI (r.getD c 0),nI (r.getD d 0),nI (x.getD d 0)]) (ay rfl (ay ((av (x:=bi r) (y:=nI d) rfl rfl).trans (iM (by rw[R.len];exact lt))) (ay ((av (x:=bi x) (y:=nI d) rfl rfl).trans (iM (by rw[X.len];exact lt))) rfl))) rfl).trans (mD _ _ _))
  cases hb:jU (r.getD c 0) (r.getD d 0) (x.getD d 0) with
  |true=>
   rw[hb] at t;rw[if_pos rfl];exact(j6 t).trans ((o5 (i:=3) (b0:=F) (bs:=F) (d:=lu ((d,r.getD c 0),false)) rfl (bG (ay (fC (ds:=[nI d,nI (r.getD c 0),.bl false]) rfl (by simp)) rfl)) rfl (by omega)).trans rfl)
  |false=>
   rw[hb] at t;rw[if_neg (by decide),List.append_nil]
   exact hZ t)
 rw[show((gp c (eD r x c)).filter λd=>jU (r.getD c 0) (r.getD d 0) (x.getD d 0)).map (λd=>lu ((d,r.getD c 0),false))=((wR n r x c).map λp=>(p,false)).map lu by rw[zr R X hc,List.map_map,List.map_map];rfl] at e8
 let F2:=F1++((wR n r x c).map λp=>(p,false)).map lu
 have eF:F2=F++((wC n r x c).map (λp=>(p,true))++(wR n r x c).map λp=>(p,false)).map lu:=by
  rw[List.map_append,<-List.append_assoc]
 have z7:fQ (cm (fN (ak (nF 2 dB) (aa (aq bn (ai 2) (ai 4)) (aa (ai 5) (ah)))))) (gN 7) c7 (lj r x F c (.v (nI (r.getD c 0))) (.v (nI (eD r x c))) s7 s8)=.nx (lj r x F1 c (.v (nI (r.getD c 0))) (.v (nI (eD r x c))) s7' s8):=(jf (ds:=(gp (x.getD c 0) (r.getD c 0)).map nI) (bG (ku ((bJ (ds:=[nI (x.getD c 0),nI (r.getD c 0)]) (ay ((av (x:=bi x) (y:=nI c) rfl rfl).trans (iM hx)) rfl) rfl).trans (tj (by omega) (by omega)))))).trans e7
 have z8:fQ (cm (fN (ak (nF 2 dB) (aa (ai 4) (aa (ai 6) (ah)))))) (gN 8) c8 (lj r x F1 c (.v (nI (r.getD c 0))) (.v (nI (eD r x c))) s7' s8)=.nx (lj r x F2 c (.v (nI (r.getD c 0))) (.v (nI (eD r x c))) s7' s8'):=(jf (ds:=(gp c (eD r x c)).map nI) (bG (ku ((bJ (ds:=[nI c,nI (eD r x c)]) rfl rfl).trans (tj (by omega) (by omega)))))).trans e8
 rw[<-eF];refine⟨.v (nI (r.getD c 0)),.v (nI (eD r x c)),s7',s8',(aA z5).trans ((aA z6).trans ((aA z7).trans ((aA z8).trans ((aA (ρ':=lj r x F2 (eD r x c) (.v (nI (r.getD c 0))) (.v (nI (eD r x c))) s7' s8') ((bZ (d:=nI (eD r x c)) rfl).trans rfl)).trans ?_))))⟩
 have t:bC (aq iE (ai 4) (az (.int 0))) (lj r x F2 (eD r x c) (.v (nI (r.getD c 0))) (.v (nI (eD r x c))) s7' s8')=some (decide (eD r x c=0)):=dE ((av (x:=nI (eD r x c)) (y:=nI 0) rfl rfl).trans (oM _ _))
 by_cases h0:eD r x c=0
 ·rw[decide_eq_true h0] at t
  rw[if_pos h0];exact(j6 t).trans rfl
 ·rw[decide_eq_false h0] at t
  rw[if_neg h0];exact hZ t
def BU:FT:=yp (bC (aq iE (dr 3) (bS (ah)))) (bC (aq iD (ai 4) (az (.int 0))))
theorem AM {F:List D}{c:Nat}(h:F=[]\/c≠0)(s5 s6 s7 s8:Sl):BU (lj r x F c s5 s6 s7 s8)=some true\/ ¬dY (.lst F)<=32:=by
 by_cases hd:dY (.lst F)<=32
 ·left
  have e1:bC (aq iE (dr 3) (bS (ah))) (lj r x F c s5 s6 s7 s8)=some (cu (.lst F) (.lst [])):=dE ((av (x:=.lst F) (y:=.lst []) rfl (ia rfl (by simp))).trans (ii hd))
  have e2:bC (aq iD (ai 4) (az (.int 0))) (lj r x F c s5 s6 s7 s8)=some (!decide (c=0)):=mT (b:=0) rfl rfl
  unfold BU yp;rw[e1];cases he:cu (.lst F) (.lst []) with
  |true=>rfl
  |false=>
   show bC (aq iD (ai 4) (az (.int 0))) (lj r x F c s5 s6 s7 s8)=some true;rw[e2];rcases h with h|h
   ·subst h;cases he
   ·rw[decide_eq_false h];rfl
 ·exact .inr hd
theorem An(W:List Pc):dY (.lst (W.map lu))<=32:=by
 have:ck (W.map lu)<=1:=mL λd hd=>by
  obtain⟨z,_,rfl⟩:=List.mem_map.mp hd
  unfold lu dY;simp[ck,dY]
 unfold dY;omega
theorem yr {l:List Nat}(hl: ∀c∈l,c<n):(kY n r x l).length<=l.length*48:=by
 have:=pK R X hn l hl
 rw[tO,List.length_map] at this;exact this
theorem wI(l:List Nat)(c:Nat):kY n r x (l++[c])=kY n r x l++((wC n r x c).map (λp=>(p,true))++(wR n r x c).map λp=>(p,false)):=by
 unfold kY;rw[List.flatMap_append,List.flatMap_singleton]
theorem ze: ∀(f:Nat) (l:List Nat) (t:Nat) (s5 s6 s7 s8:Sl),n<f+l.length->Wl n (eD r x) 0 (l++[t]) t->(l=[]\/t≠0)-> ∃L s5' s6' s7' s8',jv BU C9 f (lj r x ((kY n r x l).map lu) t s5 s6 s7 s8)=.nx (lj r x ((kY n r x L).map lu) 0 s5' s6' s7' s8')/\Cy n (eD r x) 0 L
 |0,l,t,s5,s6,s7,s8,h,w,_=>absurd (fY w.w.nd w.w.lt) (by rw[List.length_append];omega)
 |f+1,l,t,s5,s6,s7,s8,h,w,h0=>by
  have ll:=fY w.w.nd w.w.lt
  rw[List.length_append,List.length_singleton] at ll;have ht:t<n:=w.w.lt t (List.mem_append_right _ (List.mem_singleton.mpr rfl))
  have fl:=yr R X hn λc hc=>w.w.lt c (List.mem_append_left [t] hc)
  have c1:BU (lj r x ((kY n r x l).map lu) t s5 s6 s7 s8)=some true:=by
   refine(AM R X hn ?_ s5 s6 s7 s8).resolve_right (λz=>z (An R X hn _))
   rcases h0 with rfl|h0
   ·exact .inl rfl
   ·exact .inr h0
  obtain⟨a5,a6,a7,a8,b⟩:=AG R X hn ht (F:=(kY n r x l).map lu) (by rw[List.length_map];omega) s5 s6 s7 s8
  rw[<-List.map_append,<-wI R X hn] at b;unfold jv;rw[c1];dsimp only;rw[b]
  by_cases e:eD r x t=0
  ·rw[if_pos e,e]
   exact⟨l++[t],a5,a6,a7,a8,rfl,w.done e⟩
  ·rw[if_neg e]
   exact ze f (l++[t]) (eD r x t) a5 a6 a7 a8 (by rw[List.length_append,List.length_singleton];omega) (w.next (ka R X) e) (.inr e)
theorem wg(h0:0<n): ∃L,fo [be r x]=some (.lst ((kY n r x L).map lu))/\Cy n (eD r x) 0 L:=by
 obtain⟨L,a5,a6,a7,a8,e,c⟩:=ze R X hn 16 [] 0 .no .no .no .no (by simp;omega) (Wl.start h0) (.inl rfl)
 refine⟨L,?_,c⟩
 have hL: ∀d∈L,d<n:=c.c.lt
 apply cj (kd:=.n) (n:=9) (t:=jD)
 unfold jD;exact(aA (ρ':=[.v (be r x),.v (bi r),.v (bi x),.no,.no,.no,.no,.no,.no]) (iK (jy (d:=be r x) rfl) rfl)).trans ((aA (ρ':=[.v (be r x),.v (bi r),.v (bi x),.own [],.no,.no,.no,.no,.no]) rfl).trans ((aA (ρ':=lj r x [] 0 .no .no .no .no) rfl).trans ((aA (t:=jv BU C9 16) e).trans rfl)))
end
section
variable {n:Nat}{r x:List Nat}{S:Nat->Nat}(R:Ord n r)(X:Ord n x)(H:Sg n r x S)(hn:n<=8)
include R X H hn
abbrev rh(r x:List Nat)(l:List Nat)(m:Int)(s:Sl):aC:=[.v (be r x),.own (l.map nI),.v (.int m),s]
def tW:FS:=(aB (cr (aF 1 1 uX (cm (aa (ai 3) (ah)))))
 (aS 3 (aq eE (aq bn (ai 0) (az (.int 1))) (aq bn (aq bn (ai 0) (az (.int 0))) (ai 3)))))
omit X hn in
theorem pX {l:List Nat}{c:Nat}(nd:l.Nodup)(hc:c∈l)(lt:c<n)(m:Int):tW (rh r x l m (.v (nI c)))=.nx (rh r x (l.filter λz=>decide (z≠c)) m (.v (nI (S c)))):=by
 unfold tW;refine(aA (ρ':=rh r x (l.filter λz=>decide (z≠c)) m (.v (nI c))) (iG (bB (i:=1) (n:=1) (M:=uX) (b0:=l.map nI) (bs:=l.map nI) (ds:=[nI c]) rfl (bG rfl) rfl rfl (C5 hc nd)))).trans ?_
 exact(bZ ((av (x:=bi x) rfl ((av (x:=bi r) (y:=nI c) rfl rfl).trans (iM (by rw[R.len];exact lt)))).trans (H.ev c lt))).trans rfl
omit R X H hn in
theorem yZ(l:List Nat)(m:Int)(c:Nat):bC (aq (yO false) (ai 3) (dr 1)) (rh r x l m (.v (nI c)))=some (decide (c∈l)):=
 dE ((av (x:=nI c) (y:=.lst (l.map nI)) rfl rfl).trans (Ej l c))
omit X hn in
theorem lE {l:List Nat}(nd:l.Nodup)(lt: ∀z∈l,z<n)(cl: ∀z∈l,S z∈l)(m:Int)(c:Nat): ∀(f:Nat) (W:List Nat) (t:Nat),n<f+W.length->Wlk n S c W t->(∀z∈W,z∈l)->
 ∃W' c',jv (bC (aq (yO false) (ai 3) (dr 1))) tW f (rh r x (l.filter λz=>decide (z∉W)) m (.v (nI (S t))))=.nx (rh r x (l.filter λz=>decide (z∉W')) m c')/\Cyc n S c W'
 |0,W,t,h,w,_=>absurd (fY w.nd w.lt) (by omega)
 |f+1,W,t,h,w,sub=>by
  unfold jv;rw[yZ]
  by_cases e:S t=c
  ·rw[decide_eq_false (by rw[List.mem_filter,decide_eq_true_eq,e];exact λq=>q.2 w.hs)]
   exact⟨W,_,rfl,w.done e⟩
  ·have ni:=w.notin H e
   have il:S t∈l:=cl t (sub t w.ht)
   have im:S t∈l.filter λz=>decide (z∉W):=by rw[List.mem_filter,decide_eq_true_eq];exact⟨il,ni⟩
   rw[decide_eq_true im];dsimp only;rw[pX R H (List.Pairwise.filter _ nd) im (lt _ il)];dsimp only;have ef:(l.filter λz=>decide (z∉W)).filter (λz=>decide (z≠S t))=l.filter λz=>decide (z∉W++[S t]):=by
    rw[List.filter_filter];refine List.filter_congr λz _=>?_
    rw[Bool.eq_iff_iff];simp only[Bool.and_eq_true,decide_eq_true_eq,List.mem_append,List.mem_singleton,not_or];exact And.comm
   rw[ef];exact lE nd lt cl m c f (W++[S t]) (S t) (by rw[List.length_append,List.length_singleton];omega) (w.next H e) λz hz=>(List.mem_append.mp hz).elim (sub z) λq=>by rw[List.mem_singleton] at q;rw[q];exact il
def nC:FS:=(aB (aS 2 (aq bx (ai 2) (az (.int 1))))
 (aB (aS 3 (aq bn (dr 1) (az (.int 0))))
 (jv (bC (aq (yO false) (ai 3) (dr 1))) tW 16)))
omit R X H hn in
theorem y6(l:List Nat)(m:Int)(s:Sl):bC (aq iD (dr 1) (bS (ah))) (rh r x l m s)=some (!l.isEmpty):=by
 refine dE ((av (x:=.lst (l.map nI)) (y:=.lst []) rfl (ia rfl (by simp))).trans ?_)
 rw[jA (pZ l)];cases l with
 |nil=>simp[cu,dI]
 |cons y l=>simp[cu,dI]
omit X in
theorem mB: ∀(f:Nat) (l:List Nat) (m:Int) (s:Sl),l.length<f->l.Pairwise (·< ·)->(∀z∈l,z<n)->(∀z∈l,S z∈l)->
 ∃s',jv (bC (aq iD (dr 1) (bS (ah)))) nC f (rh r x l m s)=.nx (rh r x [] (m+(l.filter (du S)).length) s')
 |0,l,m,s,h,_,_,_=>absurd h (Nat.not_lt_zero _)
 |f+1,[],m,s,h,_,_,_=>by
  unfold jv;rw[y6];exact⟨s,by simp⟩
 |f+1,c::l,m,s,h,pw,lt,cl=>by
  unfold jv;rw[y6];have nd:(c::l).Nodup:=pw.imp λh=>Nat.ne_of_lt h
  have hc:c<n:=lt c (List.mem_cons_self ..)
  obtain⟨W,c',e1,C⟩:=lE R H nd lt cl (m+1) c 15 [c] c (by simp;omega) (Wlk.start hc) λz hz=>by rw[List.mem_singleton] at hz;rw[hz];exact List.mem_cons_self ..
  obtain⟨g1,g2,g3⟩:=vz H pw lt cl C
  have b:nC (rh r x (c::l) m s)=.nx (rh r x ((c::l).filter λz=>decide (z∉W)) (m+1) c'):=by
   unfold nC;refine(aA (ρ':=rh r x (c::l) (m+1) s) ((bZ ((av (x:=.int m) (y:=.int 1) rfl rfl).trans (cB _ _))).trans rfl)).trans ?_
   refine(aA (ρ':=rh r x (c::l) (m+1) (.v (nI c))) ((bZ ((av (x:=.lst ((c::l).map nI)) (y:=nI 0) rfl rfl).trans (mE (by simp)))).trans rfl)).trans ?_
   unfold jv;rw[yZ,decide_eq_true (List.mem_cons_self ..)];dsimp only;rw[pX R H nd (List.mem_cons_self ..) hc];dsimp only;rw[<-e1];congr 3
   funext z;rw[decide_eq_decide,List.mem_singleton]
  obtain⟨s',h2⟩:=mB f ((c::l).filter λz=>decide (z∉W)) (m+1) c' (by rw[List.length_cons] at h;omega) (List.Pairwise.filter _ pw) (λz hz=>lt z (List.mem_filter.mp hz).1) g2
  refine⟨s',?_⟩
  show(match nC (rh r x (c::l) m s) with| .nx ρ2=>jv (bC (aq iD (dr 1) (bS (ah)))) nC f ρ2| .ct ρ2=>jv (bC (aq iD (dr 1) (bS (ah)))) nC f ρ2| .bk ρ2=>.nx ρ2| .rt d ρ2=>.rt d ρ2| .no=>.no)=_
  rw[b];dsimp only;rw[h2,g1,Int.natCast_add,Int.natCast_one,Int.add_assoc,Int.add_comm 1]
omit X in
theorem uP:cb [be r x]=some (.int ((List.range n).filter (du S)).length):=by
 obtain⟨s',h⟩:=mB R H hn 16 (List.range n) 0 .no (by simp;omega) List.pairwise_lt_range (λz hz=>List.mem_range.mp hz) (λz hz=>List.mem_range.mpr (H.lt z (List.mem_range.mp hz)))
 apply cj (kd:=.s) (n:=4) (t:=ij)
 unfold ij;refine(aA (ρ':=[.v (be r x),.own ((List.range n).map nI),.no,.no]) ((gD (sF (n:=n) (by omega) _ _ (R.len▸pQ r _ _ rfl))).trans rfl)).trans ?_
 refine(aA (ρ':=rh r x (List.range n) 0 .no) rfl).trans ?_
 refine(aA h).trans (ci ?_)
 rw[Int.zero_add];rfl
end
def iA(z:Pc):D:=.tup [nI z.1.1,nI z.1.2]
theorem BZ(a b:Pc):cu (iA a) (iA b)=decide (a.1=b.1):=by
 show(cu (nI a.1.1) (nI b.1.1)&&(cu (nI a.1.2) (nI b.1.2)&&true))=_;rw[gZ,gZ,Bool.and_true,Bool.eq_iff_iff];simp[Prod.ext_iff]
theorem zF(z:Pc):dY (iA z)<=32:=by
 unfold iA dY;simp[ck,dY]
theorem qt {g:FG}{b:FS}{h:Nat->D}{P:Nat->aC->Prop}: ∀(k j:Nat),(∀i ρ,j<=i->i<j+k->P i ρ-> ∃ρ1 ρ2,g (h i) ρ=some ρ1/\b ρ1=.nx ρ2/\P (i+1) ρ2)-> ∀ρ,P j ρ-> ∃ρ',fM g b ((List.range' j k).map h) ρ=.nx ρ'/\P (j+k) ρ'
 |0,j,_,ρ,hp=>⟨ρ,rfl,hp⟩
 |k+1,j,hb,ρ,hp=>by
  obtain⟨ρ1,ρ2,e1,e2,h2⟩:=hb j ρ (Nat.le_refl _) (by omega) hp
  obtain⟨ρ',e3,h3⟩:=qt k (j+1) (λi ρ a b=>hb i ρ (by omega) (by omega)) ρ2 h2
  refine⟨ρ',?_,by rw[show j+(k+1)=j+1+k by omega];exact h3⟩
  rw[List.range'_succ,List.map_cons];exact(fX e1 e2).trans e3
theorem Cz:g9 ⟨"NotOne",0⟩=some (.int 4):=by kernel_rfl
theorem xM {q d:D}(h:cL [q]=some (.ok d)):cJ [q]=some d:=
 mx (kd:=.s) (n:=2) (t:=jI) ⟨[.v q,.no],xR (sZ ((gQ (ds:=[q]) (i9 rfl) rfl).trans h))⟩
theorem yA {q:D}(h:cL [q]=some (.error ⟨"NotOne",0⟩)):cJ [q]=some (.int 4):=
 mx (kd:=.s) (n:=2) (t:=jI) ⟨[.v q,.ob (.exc "NotOne" 0)],yH (tG ((gQ (ds:=[q]) (i9 rfl) rfl).trans h)) (by decide+kernel) (by decide+kernel) (ci Cz)⟩
theorem Ap(k:Int):eA [.int k]=some (.bl true):=by
 apply cj (kd:=.s) (n:=1) (t:=kN)
 rfl
theorem BL(S:Nat->Nat):du S 0=true:=ledB_iff.mpr λz _=>Nat.zero_le z
def fR(S:Nat->Nat):Nat->Nat->Nat
 |0,p=>p
 |k+1,p=>if fR S k p=fR S k (S k) then fR S k k else fR S k p
theorem yd {S:Nat->Nat}{k p q:Nat}(h:fR S k p=fR S k q):fR S (k+1) p=fR S (k+1) q:=by
 unfold fR;rw[h]
theorem tM {S:Nat->Nat}: ∀(k i:Nat),i<k->fR S k i=fR S k (S i)
 |0,i,h=>by omega
 |k+1,i,h=>by
  by_cases e:i=k
  ·subst e
   unfold fR;rw[if_pos rfl];split<;>rfl
  ·exact yd (tM k i (by omega))
theorem wP {n:Nat}{S:Nat->Nat}(H:Sh n S): ∀(k:Nat),k<=n-> ∀p q,p<n->q<n->fR S k p=fR S k q->gA S p q
 |0,_,p,q,_,_,h=>by
  have h:p=q:=h
  subst h;exact cz S p
 |k+1,hk,p,q,hp,hq,h=>by
  have ih:=wP H k (by omega)
  have hS:=H.lt k (by omega)
  have ks:gA S k (S k):=cD (cz S k)
  unfold fR at h
  by_cases h1:fR S k p=fR S k (S k)
  ·rw[if_pos h1] at h
   have r1:=ih p (S k) hp hS h1
   by_cases h2:fR S k q=fR S k (S k)
   ·exact aZ r1 (bc H.sg hq (ih q (S k) hq hS h2))
   ·rw[if_neg h2] at h
    exact aZ r1 (aZ (bc H.sg (by omega) ks) (ih k q (by omega) hq h))
  ·rw[if_neg h1] at h
   by_cases h2:fR S k q=fR S k (S k)
   ·rw[if_pos h2] at h
    exact aZ (ih p k hp (by omega) h) (aZ ks (bc H.sg hq (ih q (S k) hq hS h2)))
   ·rw[if_neg h2] at h
    exact ih p q hp hq h
theorem qs {n:Nat}{S:Nat->Nat}(H:Sh n S){s:Nat}(hs:s<n): ∀k,eN S k s<n
 |0=>hs
 |k+1=>H.lt _ (qs H hs k)
theorem v8 {n:Nat}{S:Nat->Nat}(H:Sh n S){p:Nat}(hp:p<n): ∀k,fR S n p=fR S n (eN S k p)
 |0=>rfl
 |k+1=>(v8 H hp k).trans (tM n _ (qs H hp k))
theorem yQ(val:Nat->Int): ∀i,(firstMet val i).Nodup
 |0=>List.nodup_nil
 |i+1=>by
  have ih:=yQ val i
  rw[firstMet_succ];unfold step_dedup;split
  ·exact ih
  ·rename_i h
   refine List.nodup_append.mpr ⟨ih,by simp,λa ha b hb e=>h ?_⟩
   rw[List.mem_singleton] at hb;exact List.any_eq_true.mpr ⟨a,ha,by rw[e,hb];exact beq_self_eq_true _⟩
theorem yb {ns l:List Int}(nd:l.Nodup)(mem: ∀k,k∈l↔k∈ns):qz ns=l.length:=by
 unfold qz;refine List.Perm.length_eq ((List.perm_ext_iff_of_nodup (yQ _ _) nd).mpr λk=>?_)
 have e:(List.range ns.length).map (λi=>ns.getD i 0)=ns:=by
  apply List.ext_getElem (by simp)
  intro i h1 h2;simp[List.getD,h2]
 have a:=firstMet_any (λi=>ns.getD i 0) ns.length k
 rw[e] at a;have b: ∀l:List Int,(l.any (·==k)=true↔k∈l):=λl=>by simp
 rw[mem,<-b,<-b,a]
theorem xm {n:Nat}{S:Nat->Nat}(H:Sh n S):qz (((List.range n).map (fR S n)).map λ(z:Nat)=>(z:Int))=eJ n S:=by
 rw[yb (l:=((List.range n).filter (du S)).map λs=>((fR S n s:Nat):Int))]
 ·rw[List.length_map];rfl
 ·refine List.pairwise_map.mpr ?_
  refine List.Pairwise.imp_of_mem ?_ (List.Pairwise.filter _ List.nodup_range)
  intro s t hs ht ne e;rw[List.mem_filter,List.mem_range] at hs ht;have e:fR S n s=fR S n t:=by omega
  exact ne (oB H hs.1 (ledB_iff.mp hs.2) (ledB_iff.mp ht.2) (wP H n (Nat.le_refl _) s t hs.1 ht.1 e))
 ·intro k
  rw[List.map_map,List.mem_map,List.mem_map];constructor
  ·rintro⟨s,hs,rfl⟩
   exact⟨s,(List.mem_filter.mp hs).1,rfl⟩
  ·rintro⟨p,hp,rfl⟩
   have hp:=List.mem_range.mp hp
   obtain⟨m,hm,lm,⟨j,rm⟩⟩:=oO H.sg hp
   refine⟨m,List.mem_filter.mpr ⟨List.mem_range.mpr hm,ledB_iff.mpr lm⟩,?_⟩
   show((fR S n m:Nat):Int)=((fR S n p:Nat):Int);rw[v8 H hp j,rm]
abbrev rR(W:List Pc)(w:List Nat)(s2 s3 s4 s5 s6:Sl):aC:=[.v (.lst (W.map iA)),.v (.lst (w.map nI)),s2,s3,s4,s5,s6]
def bP:FS:=aB (aS 4 (aq bn (bu 1 (dc (aa (ak bD (aa (ai 0) (ah))) (ah))) (gN 7) (ko (bC (aq iE (aq bn (ai 0) (ai 7)) (ai 3))) (bC (aq iD (ai 7) (ai 2)))) (ai 7)) (az (.int 0))))
 (aB (eV (gT 2 (dN (gN 5) (dN (gN 6) (jo)))) (pu (cC (aa (aq bn (ai 1) (ai 2)) (aa (aq bn (ai 1) (aq bz (aq bx (ai 4) (az (.int 1))) (ak bD (aa (ai 0) (ah))))) (ah))))))
 (aS 1 (bu 1 (fN (ai 1)) (gN 7) (gz) (aq bn (bS (aa (ai 7) (aa (ai 5) (ah)))) (ak oj (aa (aq iE (ai 7) (ai 6)) (ah)))))))
theorem Am {W:List Pc}{ρ:aC}(h:ai 0 ρ=some (.lst (W.map iA))):ak bD (aa (ai 0) (ah)) ρ=some (nI W.length):=(mq h).trans (by rw[List.length_map])
section
variable {W:List Pc}(T:Tw W)(hN:W.length<=48)
include T hN
theorem Cm {k:Nat}(hk:k<W.length)(s4 s5 s6:Sl): ∃s4' s5' s6',bP (rR W ((List.range W.length).map (fR (sW W) k)) (.v (nI k)) (.v (iA (eK W k))) s4 s5 s6)=.nx (rR W ((List.range W.length).map (fR (sW W) (k+1))) (.v (nI k)) (.v (iA (eK W k))) s4' s5' s6'):=by
 let w:=(List.range W.length).map (fR (sW W) k)
 have lw:w.length=W.length:=by simp[w]
 have gw: ∀i,i<W.length->w.getD i 0=fR (sW W) k i:=λi hi=>by simp[w,List.getD,hi]
 have cp:bu 1 (dc (aa (ak bD (aa (ai 0) (ah))) (ah))) (gN 7) (ko (bC (aq iE (aq bn (ai 0) (ai 7)) (ai 3))) (bC (aq iD (ai 7) (ai 2)))) (ai 7) (rR W w (.v (nI k)) (.v (iA (eK W k))) s4 s5 s6)=some (.lst [nI (kO W k)]):=by
  rw[show([nI (kO W k)]:List D)=((List.range W.length).filter (λi=>decide ((eK W i).1=(eK W k).1)&& !decide (i=k))).map nI by
   rw[iq (j:=kO W k) (lO T hk) (λi hi=>by rw[Bool.and_eq_true,decide_eq_true_eq,Bool.not_eq_true',decide_eq_false_iff_not];exact yy T hk hi)];rfl]
  refine cx (ds:=(List.range W.length).map nI) (fI (n:=W.length) (ay (Am rfl) rfl) (by omega)) (by simp;omega) ?_
  refine jc (h:=nI) (List.range W.length) λi hi=>⟨_,rfl,?_,λ_=>rfl⟩
  have hi:=List.mem_range.mp hi
  have e1:bC (aq iE (aq bn (ai 0) (ai 7)) (ai 3)) [.v (.lst (W.map iA)),.v (.lst (w.map nI)),.v (nI k),.v (iA (eK W k)),s4,s5,s6,.v (nI i)]=some (decide ((eK W i).1=(eK W k).1)):=dE ((av (x:=iA (eK W i)) (y:=iA (eK W k)) ((av (x:=.lst (W.map iA)) (y:=nI i) rfl rfl).trans (tH ((0,0),false) hi)) rfl).trans ((ii (zF _)).trans (by rw[BZ])))
  have e2:bC (aq iD (ai 7) (ai 2)) [.v (.lst (W.map iA)),.v (.lst (w.map nI)),.v (nI k),.v (iA (eK W k)),s4,s5,s6,.v (nI i)]=some (!decide (i=k)):=mT (b:=k) rfl rfl
  refine xj e1 (λz=>?_) (λz=>by rw[z];rfl)
  rw[z,Bool.true_and];exact e2
 let one:=fR (sW W) k k
 let two:=fR (sW W) k (sW W k)
 have hs:=(sY T).lt k hk
 refine⟨.v (nI (kO W k)),.v (nI one),.v (nI two),?_⟩
 unfold bP;refine(aA (ρ':=rR W w (.v (nI k)) (.v (iA (eK W k))) (.v (nI (kO W k))) s5 s6) ((bZ ((av (x:=.lst [nI (kO W k)]) (y:=.int 0) cp rfl).trans rfl)).trans rfl)).trans ?_
 refine(aA (ρ':=rR W w (.v (nI k)) (.v (iA (eK W k))) (.v (nI (kO W k))) (.v (nI one)) (.v (nI two))) (iK (jy (d:=.tup [nI one,nI two]) (fC (ay ?_ (ay ?_ rfl)) (by simp))) rfl)).trans ?_
 ·refine(av (x:=.lst (w.map nI)) (y:=nI k) rfl rfl).trans ((mE (by omega)).trans ?_)
  rw[gw k hk]
 ·refine(av (x:=.lst (w.map nI)) (y:=nI (sW W k)) rfl ((av ((av (x:=nI (kO W k)) (y:=.int 1) rfl rfl).trans (cB _ _)) (Am rfl)).trans (wU (a:=kO W k+1) (n:=W.length) (by omega)))).trans ((mE (by omega)).trans ?_)
  rw[gw _ hs]
 ·refine(bZ (d:=.lst (((List.range W.length).map (fR (sW W) (k+1))).map nI)) (cx (ds:=w.map nI) (ku rfl) (by simp[w];omega) ?_)).trans rfl
  rw[show((List.range W.length).map (fR (sW W) (k+1))).map nI=w.map λv=>nI (if v=two then one else v) by rw[List.map_map,List.map_map];rfl]
  refine cE (h:=nI) w λv hv=>⟨_,rfl,?_⟩
  have e:ak oj (aa (aq iE (ai 7) (ai 6)) (ah)) [.v (.lst (W.map iA)),.v (.lst (w.map nI)),.v (nI k),.v (iA (eK W k)),.v (nI (kO W k)),.v (nI one),.v (nI two),.v (nI v)]=some (.int (if decide (v=two) then 1 else 0)):=(cS (ds:=[.bl (decide (v=two))]) (ay ((av (x:=nI v) (y:=nI two) rfl rfl).trans (oM _ _)) rfl)).trans rfl
  refine(av (ia (ds:=[nI v,nI one]) rfl (by simp)) e).trans ?_
  by_cases q:v=two
  ·rw[decide_eq_true q,if_pos q];rfl
  ·rw[decide_eq_false q,if_neg q];rfl
theorem uI:dv [.lst (W.map iA)]=some (nI (max 1 (eJ W.length (sW W)))):=by
 refine mx (kd:=.s) (n:=7) (t:=g8) ?_
 unfold g8;rw[aA (show aS 1 (uO (ak bD (aa (ai 0) (ah)))) (cY 7 [.lst (W.map iA)])=.nx (rR W ((List.range W.length).map (fR (sW W) 0)) .no .no .no .no .no) from(bZ (sF (n:=W.length) (by omega) _ _ (Am rfl))).trans (by unfold rR;rw[show(List.range W.length).map (fR (sW W) 0)=List.range W.length from(List.map_congr_left λ_ _=>rfl).trans (List.map_id _)];rfl))]
 obtain⟨ρ1,e1,s2,s3,s4,s5,s6,rfl⟩:=qt (g:=gT 2 (dN (gN 2) (dN (gN 3) (jo)))) (b:=bP) (h:=λk=>D.tup [nI k,iA (W.getD k ((0,0),false))]) (P:=λk ρ=> ∃s2 s3 s4 s5 s6,ρ=rR W ((List.range W.length).map (fR (sW W) k)) s2 s3 s4 s5 s6) W.length 0 (λi ρ _ hi hq_=>by
  obtain⟨s2,s3,s4,s5,s6,e⟩:=hq_
  subst e;obtain⟨a4,a5,a6,q⟩:=Cm T hN (k:=i) (by omega) s4 s5 s6
  exact⟨rR W ((List.range W.length).map (fR (sW W) i)) (.v (nI i)) (.v (iA (eK W i))) s4 s5 s6,_,rfl,q,_,_,_,_,_,rfl⟩) (rR W ((List.range W.length).map (fR (sW W) 0)) .no .no .no .no .no) ⟨_,_,_,_,_,rfl⟩
 rw[Nat.zero_add] at e1;have e1':fQ (cm (pr (ai 0))) (gT 2 (dN (gN 2) (dN (gN 3) (jo)))) bP (rR W ((List.range W.length).map (fR (sW W) 0)) .no .no .no .no .no)=.nx (rR W ((List.range W.length).map (fR (sW W) W.length)) s2 s3 s4 s5 s6):=by
  refine(jf (ds:=(List.range' 0 W.length).map λk=>D.tup [nI k,iA (W.getD k ((0,0),false))]) (bG ?_)).trans e1
  rw[<-List.range_eq_range',<-pc];rfl
 refine⟨rR W ((List.range W.length).map (fR (sW W) W.length)) s2 s3 s4 s5 s6,(aA e1').trans (ci ?_)⟩
 have ls:qB (ai 1) (rR W ((List.range W.length).map (fR (sW W) W.length)) s2 s3 s4 s5 s6)=some (nI (eJ W.length (sW W))):=by
  unfold qB;rw[show ai 1 (rR W ((List.range W.length).map (fR (sW W) W.length)) s2 s3 s4 s5 s6)=some (.lst (((List.range W.length).map (fR (sW W) W.length)).map nI)) from rfl,Option.bind_some];show((gl (((List.range W.length).map (fR (sW W) W.length)).map nI)).bind λns=>if ns.length<=1000 then some (D.int (qz ns)) else none)=_
  rw[si,Option.bind_some,if_pos (by simp;omega),xm (sY T)]
 refine(cS (ay rfl (ay ls rfl))).trans ?_
 show some (D.int _)=some (D.int _);congr 2
 split<;>omega
end
theorem xx {q:D}{ks LL:List D}(h1:aQ [q]=some (.lst ks))(h2:bA [q]=some (.ok (.lst LL))):cL [q]=some (.ok (.int (((ks.length:Int) - (LL.length:Int)+1) / 2))):=by
 refine qW (kd:=.s) (n:=1) (t:=eP) (ρ:=[.v q]) ?_
 unfold eP;refine sZ ?_
 have e1:qN iF (ak bD (aa (ak (nF 1 aQ) (aa (ai 0) (ah))) (ah))) (jJ bD (gY 1 bA (kC (aa (ai 0) (ah))))) (cY 1 [q])=some (.ok (.int ((ks.length:Int) - (LL.length:Int)))):=by
  have c1:ak bD (aa (ak (nF 1 aQ) (aa (ai 0) (ah))) (ah)) (cY 1 [q])=some (nI ks.length):=mq ((bJ (ds:=[q]) rfl rfl).trans h1)
  have c2:gY 1 bA (kC (aa (ai 0) (ah))) (cY 1 [q])=some (.ok (.lst LL)):=(gQ (n:=1) (ds:=[q]) (i9 rfl) rfl).trans h2
  unfold qN jJ;rw[c1,Option.bind_some,c2];rfl
 have e2:nW bx (qN iF (ak bD (aa (ak (nF 1 aQ) (aa (ai 0) (ah))) (ah))) (jJ bD (gY 1 bA (kC (aa (ai 0) (ah)))))) (az (.int 1)) (cY 1 [q])=some (.ok (.int ((ks.length:Int) - (LL.length:Int)+1))):=by
  unfold nW;rw[e1];rfl
 unfold nW at e2⊢;rw[e2];show(Option.map Except.ok (gC (.int ((ks.length:Int) - (LL.length:Int)+1)) (.int 2)))=_;rw[jh (by decide) (by decide)]
 rfl
theorem xY {q:D}{ks:List D}(h1:aQ [q]=some (.lst ks)){z:Ex}(h2:bA [q]=some (.error z)):cL [q]=some (.error z):=by
 refine qM (kd:=.s) (n:=1) (t:=eP) ⟨[.v q],?_⟩
 unfold eP;refine tG ?_
 have c1:ak bD (aa (ak (nF 1 aQ) (aa (ai 0) (ah))) (ah)) (cY 1 [q])=some (nI ks.length):=mq ((bJ (ds:=[q]) rfl rfl).trans h1)
 have c2:gY 1 bA (kC (aa (ai 0) (ah))) (cY 1 [q])=some (.error z):=(gQ (n:=1) (ds:=[q]) (i9 rfl) rfl).trans h2
 unfold nW qN jJ;rw[c1,Option.bind_some,c2];rfl
section
variable {n:Nat}{r x:List Nat}(R:Ord n r)(X:Ord n x)(hn:n<=6)(h0:0<n)
include R X hn h0
theorem xN:(cJ [be r x]=some (.int 4)/\ ∃m:Nat,m≠1/\cb [be r x]=some (nI m))\/(cb [be r x]=some (nI 1)/\ ∃(W:List Pc) (f m:Nat),W.length<=48/\fo [be r x]=some (.lst (W.map lu))/\dv [.lst (W.map iA)]=some (nI m)/\cJ [be r x]=some (nI f)/\f<=48/\2*(f:Int)=((W.length / 2:Nat):Int) - (m:Int)+1):=by
 obtain⟨C,hC,hL⟩:=wE R X (by omega)
 have rd:=uP (S:=eD r x) R ⟨λy hy=>fV X (R.get hy),(ka R X).lt,(ka R X).inj⟩ (by omega)
 have hL':bt [be r x]=some (yk (((List.range n).filter (du (eD r x))).map C)):=by
  rw[hL];unfold yk;rw[List.map_map];rfl
 have ln:=wT R X hC
 have lp:=qU R X hC
 have ce:=qg R X hn
 by_cases h1:((List.range n).filter (du (eD r x))).length=1
 ·right
  refine⟨rd.trans (by rw[h1]),?_⟩
  have e0:(List.range n).filter (du (eD r x))=[0]:=by
   obtain⟨s,hs⟩:=List.length_eq_one_iff.mp h1
   have:0∈(List.range n).filter (du (eD r x)):=List.mem_filter.mpr ⟨List.mem_range.mpr h0,BL _⟩
   rw[hs,List.mem_singleton] at this;rw[hs,<-this]
  rw[e0] at hL' ln lp;have pm:(C 0).Perm (List.range n):=by
   rw[show([0].map C).flatten=C 0 by simp] at lp;exact lp
  obtain⟨L,hw,cy⟩:=wg R X hn h0
  have eL:L=C 0:=cy.uniq (hC 0 h0)
  subst eL;obtain⟨K,hK,re⟩:=zk R X hn ln pm hL'
  obtain⟨T,hc,hl⟩:=wJ R X pm
  have wp:=qC R X pm
  have hP: ∀z:Pc,z∈kY n r x (C 0)↔z.1∈dL n r x:=λz=>by
   rw[wp.mem_iff,List.mem_append,List.mem_map,List.mem_map];constructor
   ·rintro(⟨p,hp,rfl⟩|⟨p,hp,rfl⟩)<;>exact hp
   ·intro hp
    obtain⟨p,b⟩:=z
    cases b with
    |true=>exact .inl ⟨p,hp,rfl⟩
    |false=>exact .inr ⟨p,hp,rfl⟩
  have cl:=lD R X hn
  generalize hW:kY n r x (C 0)=W at*
  have hN:W.length<=48:=by omega
  have pe:=uI T hN
  have se:=xM (xx ce re)
  rw[List.length_map,y4,List.length_map,List.length_map] at se;have key: ∃R':Nat,(Be W.length (sW W) K).length=R'/\max 1 (eJ W.length (sW W))=R'/\R'<=(dL n r x).length+1/\(R'+(dL n r x).length) % 2=1:=by
   by_cases hz:W.length=0
   ·refine⟨1,by unfold Be;rw[if_pos hz];rfl,?_,by omega,by omega⟩
    unfold eJ;rw[hz];rfl
   ·obtain⟨w1,w2⟩:=wx T hP crP_nd (by omega)
    refine⟨eJ W.length (sW W),by unfold Be eJ;rw[if_neg hz,List.length_map],?_,w1,w2⟩
    have:0<eJ W.length (sW W):=List.length_pos_of_mem (List.mem_filter.mpr ⟨List.mem_range.mpr (by omega),BL _⟩)
    omega
  obtain⟨R',k1,k2,k3,k4⟩:=key
  rw[k1] at se;rw[k2] at pe;refine⟨W,(((dL n r x).length:Int) - (R':Int)+1).toNat / 2,R',hN,hw,pe,se.trans ?_,by omega,by omega⟩
  show some (D.int _)=some (D.int _);congr 2
  omega
 ·left
  exact⟨yA (xY ce (yF R X hn hL' (by rw[List.length_map];exact h1))),_,h1,rd⟩
end
def u2(o:List Nat)(n b u:Nat):List Nat:=(List.range n).map λc=>(o.getD ((((c:Nat):Int) - (b:Int)) % (n:Int)).toNat 0+u) % n
def CY(six:Bool):List Nat×List Nat:=if six then([4,3,1,2,5,0],[2,5,4,0,1,3]) else([0,1,2,3,4],[2,3,4,0,1])
def oy(six:Bool):Nat:=if six then 6 else 5
def CU(six:Bool)(w:Nat):List Nat×List Nat:=if w % 2=1 then((CY six).1.reverse,(CY six).2.reverse) else CY six
def xa(six:Bool)(w:Nat):List Nat×List Nat:=if w>1 then((CU six w).2,(CU six w).1) else CU six w
theorem zR: ∀six:Bool,∀w:Fin 4,∀b:Fin 6,∀u:Fin 6,(u2 (xa six w).1 (oy six) b u).Perm (List.range (oy six))/\(u2 (xa six w).2 (oy six) b u).Perm (List.range (oy six)):=by decide+kernel
def uK:FS:=aB (aS 5 (aq bn (bS (aa (cC (aa (cC (aa (az (.int 0)) (aa (az (.int 1)) (aa (az (.int 2)) (aa (az (.int 3)) (aa (az (.int 4)) (ah))))))) (aa (cC (aa (az (.int 2)) (aa (az (.int 3)) (aa (az (.int 4)) (aa (az (.int 0)) (aa (az (.int 1)) (ah))))))) (ah)))) (aa (cC (aa (cC (aa (az (.int 4)) (aa (az (.int 3)) (aa (az (.int 1)) (aa (az (.int 2)) (aa (az (.int 5)) (aa (az (.int 0)) (ah)))))))) (aa (cC (aa (az (.int 2)) (aa (az (.int 5)) (aa (az (.int 4)) (aa (az (.int 0)) (aa (az (.int 1)) (aa (az (.int 3)) (ah)))))))) (ah)))) (ah)))) (ak oj (aa (ai 1) (ah)))))
 (aB (aS 6 (ak bD (aa (aq bn (ai 5) (az (.int 0))) (ah))))
 (aB (fH (bC (aq iE (aq bz (ai 4) (az (.int 2))) (az (.int 1)))) (aS 5 (cC (aa (uj (aq bn (ai 5) (az (.int 0))) (Bg (iQ (az (.int 1))))) (aa (uj (aq bn (ai 5) (az (.int 1))) (Bg (iQ (az (.int 1))))) (ah))))) (skip))
 (fH (bC (aq Ee (ai 4) (az (.int 1)))) (aS 5 (cC (aa (aq bn (ai 5) (az (.int 1))) (aa (aq bn (ai 5) (az (.int 0))) (ah))))) (skip))))
def vK:FE:=ak fb (aa (bu 1 (fN (ai 5)) (gN 7) (gz) (ak fb (aa (bu 1 (dc (aa (ai 6) (ah))) (gN 8) (gz) (aq bz (aq bx (aq bn (ai 7) (aq bz (aq iF (ai 8) (ai 2)) (ai 6))) (ai 3)) (ai 6))) (ah)))) (ah))
theorem BK(bs:List D)(six:Bool)(b u:Nat)(w:Nat)(hw:w<4):uK [.arg bs,.v (.bl six),.v (nI b),.v (nI u),.v (nI w),.no,.no]=.nx [.arg bs,.v (.bl six),.v (nI b),.v (nI u),.v (nI w),.v (be (xa six w).1 (xa six w).2),.v (nI (oy six))]:=by
 have:w=0\/w=1\/w=2\/w=3:=by omega
 rcases this with rfl|rfl|rfl|rfl<;>cases six<;>rfl
theorem Bx(bs:List D)(six:Bool)(b u w:Nat)(r x:List Nat)(hr:r.length=oy six)(hx:x.length=oy six):vK [.arg bs,.v (.bl six),.v (nI b),.v (nI u),.v (nI w),.v (be r x),.v (nI (oy six))]=some (be (u2 r (oy six) b u) (u2 x (oy six) b u)):=by
 have hN:0<oy six/\oy six<=6:=by cases six<;>decide
 generalize oy six=n at*
 unfold vK;have row: ∀o:List Nat,o.length=n->ak fb (aa (bu 1 (dc (aa (ai 6) (ah))) (gN 8) (gz) (aq bz (aq bx (aq bn (ai 7) (aq bz (aq iF (ai 8) (ai 2)) (ai 6))) (ai 3)) (ai 6))) (ah)) [.arg bs,.v (.bl six),.v (nI b),.v (nI u),.v (nI w),.v (be r x),.v (nI n),.v (bi o)]=some (bi (u2 o n b u)):=λo ho=>by
  refine(cS (ds:=[.lst ((u2 o n b u).map nI)]) (ay ?_ rfl)).trans rfl
  unfold u2;rw[List.map_map];refine cx (ds:=(List.range n).map nI) (fI (n:=n) (ay rfl rfl) (by omega)) (by simp;omega) ?_
  refine cE (h:=nI) (List.range n) λc hc=>⟨_,rfl,?_⟩
  have h1:0<=((c:Int) - (b:Int)) % (n:Int):=Int.emod_nonneg _ (by omega)
  have h2:((c:Int) - (b:Int)) % (n:Int)<n:=Int.emod_lt_of_pos _ (by omega)
  have e1:aq bz (aq iF (ai 8) (ai 2)) (ai 6) [.arg bs,.v (.bl six),.v (nI b),.v (nI u),.v (nI w),.v (be r x),.v (nI n),.v (bi o),.v (nI c)]=some (nI (((c:Int) - (b:Int)) % (n:Int)).toNat):=by
   refine(av (x:=.int ((c:Int) - (b:Int))) (y:=nI n) ((av (x:=nI c) (y:=nI b) rfl rfl).trans (mw _ _)) rfl).trans ((dJ (by omega)).trans ?_)
   show some (D.int _)=some (D.int _);congr 2;omega
  exact(av (y:=nI n) ((av ((av (x:=bi o) rfl e1).trans (iM (by omega))) (y:=nI u) rfl).trans (cB _ _)) rfl).trans (wU (a:=o.getD (((c:Int) - (b:Int)) % (n:Int)).toNat 0+u) (by omega))
 refine(cS (ds:=[.lst [bi (u2 r n b u),bi (u2 x n b u)]]) (ay ?_ rfl)).trans rfl
 refine cx (ds:=[bi r,bi x]) (wo rfl) (by simp) ?_
 exact cE (h:=bi) (o:=λo=>bi (u2 o n b u)) [r,x] λo ho=>⟨_,rfl,row o (by
  rcases List.mem_cons.mp ho with rfl|ho
  ·exact hr
  ·rw[List.mem_singleton.mp ho];exact hx)⟩
theorem wz {N:Nat}{a b:Int}(B:Bag N a b)(hN:N<=800000000)(six:Bool): ∃(n:Nat) (r x:List Nat) (a' b':Int),fF (aP a b) [.bl six]=some (be r x,aP a' b')/\Ord n r/\Ord n x/\2<=n/\n<=6:=by
 obtain⟨d1,a1,b1,e1,B1,d10,d11⟩:=gF (m:=6) B (by omega) (by decide) (by decide)
 obtain⟨d2,a2,b2,e2,B2,d20,d21⟩:=gF (m:=6) B1 (by omega) (by decide) (by decide)
 obtain⟨d3,a3,b3,e3,B3,d30,d31⟩:=gF (m:=4) B2 (by omega) (by decide) (by decide)
 obtain⟨k1,h1,rfl⟩: ∃k:Nat,k<6/\d1=k:=⟨d1.toNat,by omega,by omega⟩
 obtain⟨k2,h2,rfl⟩: ∃k:Nat,k<6/\d2=k:=⟨d2.toNat,by omega,by omega⟩
 obtain⟨k3,h3,rfl⟩: ∃k:Nat,k<4/\d3=k:=⟨d3.toNat,by omega,by omega⟩
 have o:=zR six ⟨k3,h3⟩ ⟨k1,h1⟩ ⟨k2,h2⟩
 have l:(xa six k3).1.length=oy six/\(xa six k3).2.length=oy six:=by
  have:k3=0\/k3=1\/k3=2\/k3=3:=by omega
  rcases this with rfl|rfl|rfl|rfl<;>cases six<;>decide
 refine⟨oy six,u2 (xa six k3).1 (oy six) k1 k2,u2 (xa six k3).2 (oy six) k1 k2,a3,b3,?_,⟨o.1⟩,⟨o.2⟩,by cases six<;>decide,by cases six<;>decide⟩
 refine A0 (kd:=.s) (n:=7) (t:=iO) (ρ:=[.arg (aP a3 b3),.v (.bl six),.v (nI k1),.v (nI k2),.v (nI k3),.v (be (xa six k3).1 (xa six k3).2),.v (nI (oy six))]) ?_ rfl
 have u:=BK (aP a3 b3) six k1 k2 k3 h3
 have z:eV (gT 3 (dN (gN 2) (dN (gN 3) (dN (gN 4) (jo))))) (ur (cZ (aF 0 1 aM (cm (aa (az (.int 6)) (ah)))) (cZ (aF 0 1 aM (cm (aa (az (.int 6)) (ah)))) (cZ (aF 0 1 aM (cm (aa (az (.int 4)) (ah)))) (cm (ah)))))) (kS 7 (aP a b) [.bl six])=.nx [.arg (aP a3 b3),.v (.bl six),.v (nI k1),.v (nI k2),.v (nI k3),.no,.no]:=by
  refine iK (d:=.tup [nI k1,nI k2,nI k3]) (ρ1:=[.arg (aP a3 b3),.v (.bl six),.no,.no,.no,.no,.no]) ?_ rfl
  have zz:cZ (aF 0 1 aM (cm (aa (az (.int 6)) (ah)))) (cZ (aF 0 1 aM (cm (aa (az (.int 6)) (ah)))) (cZ (aF 0 1 aM (cm (aa (az (.int 4)) (ah)))) (cm (ah)))) (kS 7 (aP a b) [.bl six])=some ([nI k1,nI k2,nI k3],[.arg (aP a3 b3),.v (.bl six),.no,.no,.no,.no,.no]):=
   gR (ρ1:=[.arg (aP a1 b1),.v (.bl six),.no,.no,.no,.no,.no]) (bB (i:=0) (n:=1) (b0:=aP a b) (ds:=[.int 6]) rfl (bG rfl) rfl rfl e1) (gR (ρ1:=[.arg (aP a2 b2),.v (.bl six),.no,.no,.no,.no,.no]) (bB (i:=0) (n:=1) (b0:=aP a1 b1) (ds:=[.int 6]) rfl (bG rfl) rfl rfl e2) (gR (ρ1:=[.arg (aP a3 b3),.v (.bl six),.no,.no,.no,.no,.no]) (bB (i:=0) (n:=1) (b0:=aP a2 b2) (ds:=[.int 4]) rfl (bG rfl) rfl rfl e3) rfl))
  rw[xK,zz];rfl
 unfold iO;refine(aA z).trans ?_
 have asc: ∀(p q s t v:FS) (ρ ρ':aC),aB p (aB q (aB s t)) ρ=.nx ρ'->aB p (aB q (aB s (aB t v))) ρ=v ρ':=λp q s t v ρ ρ' h=>by
  unfold aB at h⊢;cases hp:p ρ with
  |nx r1=>
   rw[hp] at h;dsimp only at h⊢;cases hq:q r1 with
   |nx r2=>
    rw[hq] at h;dsimp only at h⊢;cases hs:s r2 with
    |nx r3=>
     rw[hs] at h;dsimp only at h⊢;rw[h]
    |_=>rw[hs] at h;cases h
   |_=>rw[hq] at h;cases h
  |_=>rw[hp] at h;cases h
 unfold uK at u;exact(asc _ _ _ _ _ _ _ u).trans (ci (Bx (aP a3 b3) six k1 k2 k3 _ _ l.1 l.2))
theorem zL(ns:List Int)(hn:ns.length<=63):zb [fT ns]=some (.bl true):=by
 refine mx (kd:=.s) (n:=7) (t:=vn) ?_
 unfold vn;refine zv (λρ=> ∃s1 s2 s3 s4 s5 s6,ρ=[.v (fT ns),s1,s2,s3,s4,s5,s6]) (xo (ds:=(List.range 4).map nI) (bG (fI (n:=4) (ay rfl rfl) (by omega))) (tN _ (λd hd ρ hρ=>?_) _ ⟨_,_,_,_,_,_,rfl⟩)) λρ' hρ'=>⟨ρ',rfl⟩
 obtain⟨k,hk,rfl⟩:=List.mem_map.mp hd
 rw[List.mem_range] at hk;obtain⟨s1,s2,s3,s4,s5,s6,rfl⟩:=hρ
 obtain⟨a0,b0,eb,B⟩:=AO ns k (by omega) hn
 obtain⟨w,a1,b1,e1,B1,w0,w1⟩:=gF (m:=6) B (by omega) (by decide) (by decide)
 obtain⟨d1,a2,b2,e2,B2,d10,d11⟩:=gF (m:=5) B1 (by omega) (by decide) (by decide)
 obtain⟨n,hm,hn1,hn2⟩: ∃m:Nat,bx (.int 2) (.int d1)=some (nI m)/\2<=m/\m<=6:=⟨(2+d1).toNat,by rw[cB,Ev (by omega)],by omega,by omega⟩
 obtain⟨r,x,a3,b3,e3,S,B3⟩:=sk B2 hn1 hn2 (by omega)
 have q1:eI 2 (ak (nF 2 jb) (aa (ai 0) (aa (ai 1) (ah)))) [.v (fT ns),.v (nI k),s2,s3,s4,s5,s6]=.nx [.v (fT ns),.v (nI k),.own (aP a0 b0),s3,s4,s5,s6]:=(gD ((bJ (ds:=[fT ns,nI k]) rfl rfl).trans eb)).trans rfl
 have q2:h9 3 (aF 2 1 aM (cm (aa (az (.int 6)) (ah)))) [.v (fT ns),.v (nI k),.own (aP a0 b0),s3,s4,s5,s6]=.nx [.v (fT ns),.v (nI k),.own (aP a1 b1),.v (.int w),s4,s5,s6]:=(jd (bB (i:=2) (n:=1) (b0:=aP a0 b0) (ds:=[.int 6]) rfl (bG rfl) rfl rfl e1)).trans rfl
 have q3:h9 4 (aF 2 1 fL (cZ (lB bx (pu (az (.int 2))) (aF 2 1 aM (cm (aa (az (.int 5)) (ah))))) (cm (ah)))) [.v (fT ns),.v (nI k),.own (aP a1 b1),.v (.int w),s4,s5,s6]=.nx [.v (fT ns),.v (nI k),.own (aP a3 b3),.v (.int w),.v (be r x),s5,s6]:=
  (jd (bB (i:=2) (n:=1) (b0:=aP a1 b1) (bs:=aP a2 b2) (ds:=[nI n]) rfl (gR (tq (jy rfl) (bB (i:=2) (n:=1) (b0:=aP a1 b1) (ds:=[.int 5]) rfl (bG rfl) rfl rfl e2) hm) rfl) rfl rfl e3)).trans rfl
 have q4: ∃(n:Nat) (r' x':List Nat) (bs:List D),Ord n r'/\Ord n x'/\2<=n/\n<=6/\fH (bC (aq nX (ai 3) (az (.int 2)))) (h9 4 (aF 2 1 fF (cm (aa (aq iE (ai 3) (az (.int 1))) (ah))))) (skip) [.v (fT ns),.v (nI k),.own (aP a3 b3),.v (.int w),.v (be r x),s5,s6]=.nx [.v (fT ns),.v (nI k),.own bs,.v (.int w),.v (be r' x'),s5,s6]:=by
  have t:bC (aq nX (ai 3) (az (.int 2))) [.v (fT ns),.v (nI k),.own (aP a3 b3),.v (.int w),.v (be r x),s5,s6]=some (decide (w<2)):=dE ((av (x:=.int w) (y:=.int 2) rfl rfl).trans (kZ _ _))
  by_cases hw:w<2
  ·rw[decide_eq_true hw] at t
   obtain⟨n',r',x',a4,b4,e4,R,X,g1,g2⟩:=wz B3 (by omega) (decide (w=1))
   refine⟨n',r',x',aP a4 b4,R,X,g1,g2,(j6 t).trans ((jd (bB (i:=2) (n:=1) (b0:=aP a3 b3) (ds:=[.bl (decide (w=1))]) rfl (bG (ay ((av (x:=.int w) (y:=.int 1) rfl rfl).trans ((ii (by rw[eS];omega)).trans (by rw[g6]))) rfl)) rfl rfl e4)).trans rfl)⟩
  ·rw[decide_eq_false hw] at t
   exact⟨n,r,x,aP a3 b3,S.hr,S.hx,hn1,hn2,hZ t⟩
 obtain⟨n',r',x',bs,R,X,g1,g2,q4⟩:=q4
 rcases xN R X g2 (by omega) with⟨h1,m,hm,h2⟩|⟨h2,W,f,m,hN,hw,hp,h1,hf,eq⟩
 ·have q5:aS 5 (ak (nF 1 cJ) (aa (ai 4) (ah))) [.v (fT ns),.v (nI k),.own bs,.v (.int w),.v (be r' x'),s5,s6]=.nx [.v (fT ns),.v (nI k),.own bs,.v (.int w),.v (be r' x'),.v (.int 4),s6]:=(bZ ((bJ (ds:=[be r' x']) rfl rfl).trans h1)).trans rfl
  refine⟨[.v (fT ns),.v (nI k),s2,s3,s4,s5,s6],[.v (fT ns),.v (nI k),.own bs,.v (.int w),.v (be r' x'),.v (.int 4),s6],rfl,(aA q1).trans ((aA q2).trans ((aA q3).trans ((aA q4).trans ((aA q5).trans ?_)))),_,_,_,_,_,_,rfl⟩
  have t1:bC (aq iD (ak (nF 1 cb) (aa (ai 4) (ah))) (az (.int 1))) [.v (fT ns),.v (nI k),.own bs,.v (.int w),.v (be r' x'),.v (.int 4),s6]=some (!decide (m=1)):=mT (b:=1) ((bJ (ds:=[be r' x']) rfl rfl).trans h2) rfl
  rw[decide_eq_false hm] at t1;rw[j6 t1];exact hZ (mT (a:=4) (b:=4) rfl rfl)
 ·have q5:aS 5 (ak (nF 1 cJ) (aa (ai 4) (ah))) [.v (fT ns),.v (nI k),.own bs,.v (.int w),.v (be r' x'),s5,s6]=.nx [.v (fT ns),.v (nI k),.own bs,.v (.int w),.v (be r' x'),.v (nI f),s6]:=(bZ ((bJ (ds:=[be r' x']) rfl rfl).trans h1)).trans rfl
  refine⟨[.v (fT ns),.v (nI k),s2,s3,s4,s5,s6],[.v (fT ns),.v (nI k),.own bs,.v (.int w),.v (be r' x'),.v (nI f),.v (.lst (W.map iA))],rfl,(aA q1).trans ((aA q2).trans ((aA q3).trans ((aA q4).trans ((aA q5).trans ?_)))),_,_,_,_,_,_,rfl⟩
  have t1:bC (aq iD (ak (nF 1 cb) (aa (ai 4) (ah))) (az (.int 1))) [.v (fT ns),.v (nI k),.own bs,.v (.int w),.v (be r' x'),.v (nI f),s6]=some (!decide (1=1)):=mT (b:=1) ((bJ (ds:=[be r' x']) rfl rfl).trans h2) rfl
  rw[sP t1];have q6:aS 6 (bu 3 (fN (ak (nF 1 fo) (aa (ai 4) (ah)))) (gT 3 (dN (gN 7) (dN (gN 8) (dN (gN 9) (jo))))) (gz) (cC (aa (ai 7) (aa (ai 8) (ah))))) [.v (fT ns),.v (nI k),.own bs,.v (.int w),.v (be r' x'),.v (nI f),s6]=.nx [.v (fT ns),.v (nI k),.own bs,.v (.int w),.v (be r' x'),.v (nI f),.v (.lst (W.map iA))]:=by
   refine(bZ (d:=.lst (W.map iA)) (cx (ds:=W.map lu) (ku ((bJ (ds:=[be r' x']) rfl rfl).trans hw)) (by simp;omega) ?_)).trans rfl
   exact cE (h:=lu) (o:=iA) W λz hz=>⟨_,rfl,fC rfl (by simp)⟩
  refine(aA q6).trans ?_
  have t2:yp (gU (eU (ak (nF 1 eA) (aa (ai 5) (ah))))) (bC (aq nX (ai 5) (az (.int 0)))) [.v (fT ns),.v (nI k),.own bs,.v (.int w),.v (be r' x'),.v (nI f),.v (.lst (W.map iA))]=some false:=by
   unfold yp;rw[show gU (eU (ak (nF 1 eA) (aa (ai 5) (ah)))) [.v (fT ns),.v (nI k),.own bs,.v (.int w),.v (be r' x'),.v (nI f),.v (.lst (W.map iA))]=some false from kz (b:=true) (jB ((bJ (ds:=[nI f]) rfl rfl).trans (Ap f)))];have t3:bC (aq nX (ai 5) (az (.int 0))) [.v (fT ns),.v (nI k),.own bs,.v (.int w),.v (be r' x'),.v (nI f),.v (.lst (W.map iA))]=some (decide ((f:Int)<0)):=dE ((av (x:=nI f) (y:=.int 0) rfl rfl).trans (kZ _ _))
   rw[decide_eq_false (by omega)] at t3
   exact t3
  refine(aA (hZ t2)).trans (hZ ?_)
  have m1:aq ee (az (.int 2)) (ai 5) [.v (fT ns),.v (nI k),.own bs,.v (.int w),.v (be r' x'),.v (nI f),.v (.lst (W.map iA))]=some (.int (2*(f:Int))):=(av (x:=.int 2) (y:=nI f) rfl rfl).trans (gh (by decide) (Nat.lt_trans (show _<60 by omega) (by decide)))
  have m2:aq gC (ak bD (aa (ai 6) (ah))) (az (.int 2)) [.v (fT ns),.v (nI k),.own bs,.v (.int w),.v (be r' x'),.v (nI f),.v (.lst (W.map iA))]=some (.int ((W.length / 2:Nat):Int)):=by
   refine(av (x:=nI W.length) (y:=.int 2) ((mq (l:=W.map iA) rfl).trans (by rw[List.length_map])) rfl).trans ((jh (by decide) (by decide)).trans ?_)
   congr 2
  have m3:aq bx (aq iF (aq gC (ak bD (aa (ai 6) (ah))) (az (.int 2))) (ak (nF 1 dv) (aa (ai 6) (ah)))) (az (.int 1)) [.v (fT ns),.v (nI k),.own bs,.v (.int w),.v (be r' x'),.v (nI f),.v (.lst (W.map iA))]=some (.int (((W.length / 2:Nat):Int) - (m:Int)+1)):=(av ((av m2 ((bJ (ds:=[.lst (W.map iA)]) rfl rfl).trans hp)).trans (mw _ _)) (y:=.int 1) rfl).trans (cB _ _)
  refine dE ((av m1 m3).trans ?_)
  rw[<-eq];exact ym (by rw[eS];omega)
set_option maxHeartbeats 4000000
theorem all_mk {l:W.OpenLaw}{w:World}{K:W.Frag}{h:Heap}{mg:Str->Option Value}{fa:Addr}{f0:Addr}{od0 an0:Option Addr}{sl0:Array (Option Value)}{oc0 kV0 dc0 pm0 cd0 ct0:Value}{f1:Addr}{od1 an1:Option Addr}{sl1:Array (Option Value)}{oc1 kV1 dc1 pm1 cd1 ct1:Value}{f2:Addr}{od2 an2:Option Addr}{sl2:Array (Option Value)}{oc2 kV2 dc2 pm2 cd2 ct2:Value}{f3:Addr}{od3 an3:Option Addr}{sl3:Array (Option Value)}{oc3 kV3 dc3 pm3 cd3 ct3:Value}{f4:Addr}{od4 an4:Option Addr}{sl4:Array (Option Value)}{oc4 kV4 dc4 pm4 cd4 ct4:Value}{f5:Addr}{od5 an5:Option Addr}{sl5:Array (Option Value)}{oc5 kV5 dc5 pm5 cd5 ct5:Value}{f6:Addr}{od6 an6:Option Addr}{sl6:Array (Option Value)}{oc6 kV6 dc6 pm6 cd6 ct6:Value}{f7:Addr}{od7 an7:Option Addr}{sl7:Array (Option Value)}{oc7 kV7 dc7 pm7 cd7 ct7:Value}{f8:Addr}{od8 an8:Option Addr}{sl8:Array (Option Value)}{oc8 kV8 dc8 pm8 cd8 ct8:Value}{f9:Addr}{od9 an9:Option Addr}{sl9:Array (Option Value)}{oc9 kV9 dc9 pm9 cd9 ct9:Value}{f10:Addr}{od10 an10:Option Addr}{sl10:Array (Option Value)}{oc10 kV10 dc10 pm10 cd10 ct10:Value}{f11:Addr}{od11 an11:Option Addr}{sl11:Array (Option Value)}{oc11 kV11 dc11 pm11 cd11 ct11:Value}{f12:Addr}{od12 an12:Option Addr}{sl12:Array (Option Value)}{oc12 kV12 dc12 pm12 cd12 ct12:Value}{f13:Addr}{od13 an13:Option Addr}{sl13:Array (Option Value)}{oc13 kV13 dc13 pm13 cd13 ct13:Value}{f14:Addr}{od14 an14:Option Addr}{sl14:Array (Option Value)}{oc14 kV14 dc14 pm14 cd14 ct14:Value}{f15:Addr}{od15 an15:Option Addr}{sl15:Array (Option Value)}{oc15 kV15 dc15 pm15 cd15 ct15:Value}{f16:Addr}{od16 an16:Option Addr}{sl16:Array (Option Value)}{oc16 kV16 dc16 pm16 cd16 ct16:Value}{f17:Addr}{od17 an17:Option Addr}{sl17:Array (Option Value)}{oc17 kV17 dc17 pm17 cd17 ct17:Value}{f18:Addr}{od18 an18:Option Addr}{sl18:Array (Option Value)}{oc18 kV18 dc18 pm18 cd18 ct18:Value}{f19:Addr}{od19 an19:Option Addr}{sl19:Array (Option Value)}{oc19 kV19 dc19 pm19 cd19 ct19:Value}{f20:Addr}{od20 an20:Option Addr}{sl20:Array (Option Value)}{oc20 kV20 dc20 pm20 cd20 ct20:Value}{f21:Addr}{od21 an21:Option Addr}{sl21:Array (Option Value)}{oc21 kV21 dc21 pm21 cd21 ct21:Value}{f22:Addr}{od22 an22:Option Addr}{sl22:Array (Option Value)}{oc22 kV22 dc22 pm22 cd22 ct22:Value}{f23:Addr}{od23 an23:Option Addr}{sl23:Array (Option Value)}{oc23 kV23 dc23 pm23 cd23 ct23:Value}{f24:Addr}{od24 an24:Option Addr}{sl24:Array (Option Value)}{oc24 kV24 dc24 pm24 cd24 ct24:Value}{f25:Addr}{od25 an25:Option Addr}{sl25:Array (Option Value)}{oc25 kV25 dc25 pm25 cd25 ct25:Value}{f26:Addr}{od26 an26:Option Addr}{sl26:Array (Option Value)}{oc26 kV26 dc26 pm26 cd26 ct26:Value}{f27:Addr}{od27 an27:Option Addr}{sl27:Array (Option Value)}{oc27 kV27 dc27 pm27 cd27 ct27:Value}{f28:Addr}{od28 an28:Option Addr}{sl28:Array (Option Value)}{oc28 kV28 dc28 pm28 cd28 ct28:Value}{f29:Addr}{od29 an29:Option Addr}{sl29:Array (Option Value)}{oc29 kV29 dc29 pm29 cd29 ct29:Value}{f30:Addr}{od30 an30:Option Addr}{sl30:Array (Option Value)}{oc30 kV30 dc30 pm30 cd30 ct30:Value}{kx0 kx1 kx2 kx3 kx4 kx5 kx6 kx7 kx8 kx9:Addr}{xn0 xq0:Str}{xb0 xu0:List Value}{xs0:Addr}{xd0 xl0 xe0:Bool}{xv0:List Str}{xc0:Option Bool}{xn1 xq1:Str}{xb1 xu1:List Value}{xs1:Addr}{xd1 xl1 xe1:Bool}{xv1:List Str}{xc1:Option Bool}{xn2 xq2:Str}{xb2 xu2:List Value}{xs2:Addr}{xd2 xl2 xe2:Bool}{xv2:List Str}{xc2:Option Bool}{xn3 xq3:Str}{xb3 xu3:List Value}{xs3:Addr}{xd3 xl3 xe3:Bool}{xv3:List Str}{xc3:Option Bool}{xn4 xq4:Str}{xb4 xu4:List Value}{xs4:Addr}{xd4 xl4 xe4:Bool}{xv4:List Str}{xc4:Option Bool}{xn5 xq5:Str}{xb5 xu5:List Value}{xs5:Addr}{xd5 xl5 xe5:Bool}{xv5:List Str}{xc5:Option Bool}{xn6 xq6:Str}{xb6 xu6:List Value}{xs6:Addr}{xd6 xl6 xe6:Bool}{xv6:List Str}{xc6:Option Bool}{xn7 xq7:Str}{xb7 xu7:List Value}{xs7:Addr}{xd7 xl7 xe7:Bool}{xv7:List Str}{xc7:Option Bool}{xn8 xq8:Str}{xb8 xu8:List Value}{xs8:Addr}{xd8 xl8 xe8:Bool}{xv8:List Str}{xc8:Option Bool}{xn9 xq9:Str}{xb9 xu9:List Value}{xs9:Addr}{xd9 xl9 xe9:Bool}{xv9:List Str}{xc9:Option Bool}(X:K.In h)(G:h.Ns mainGlobals mg)(hfa:mg "law"=some (.ref fa))
 (a0:W.nsIn K mainGlobals "order_rounds"=some (some (.ref f0))) (l0:K.lookup f0=some ⟨oc0,od0,.func (W.fnOf "order_rounds" "order_rounds" (aK bQ) (aD bQ) (aj bQ) .none kV0 dc0 pm0 an0 cd0 ct0),sl0⟩) (c0:W.codeIn K cd0 "order_rounds"=true) (k0:W.keepIn K (.ref f0)=true)
 (a1:W.nsIn K mainGlobals "lines_of"=some (some (.ref f1))) (l1:K.lookup f1=some ⟨oc1,od1,.func (W.fnOf "lines_of" "lines_of" (aK dS) (aD dS) (aj dS) .none kV1 dc1 pm1 an1 cd1 ct1),sl1⟩) (c1:W.codeIn K cd1 "lines_of"=true) (k1:W.keepIn K (.ref f1)=true)
 (a2:W.nsIn K mainGlobals "vet_one_line"=some (some (.ref f2))) (l2:K.lookup f2=some ⟨oc2,od2,.func (W.fnOf "vet_one_line" "vet_one_line" (aK bL) (aD bL) (aj bL) .none kV2 dc2 pm2 an2 cd2 ct2),sl2⟩) (c2:W.codeIn K cd2 "vet_one_line"=true) (k2:W.keepIn K (.ref f2)=true)
 (a3:W.nsIn K mainGlobals "lies_between"=some (some (.ref f3))) (l3:K.lookup f3=some ⟨oc3,od3,.func (W.fnOf "lies_between" "lies_between" (aK bT) (aD bT) (aj bT) .none kV3 dc3 pm3 an3 cd3 ct3),sl3⟩) (c3:W.codeIn K cd3 "lies_between"=true) (k3:W.keepIn K (.ref f3)=true)
 (a4:W.nsIn K mainGlobals "goes_up"=some (some (.ref f4))) (l4:K.lookup f4=some ⟨oc4,od4,.func (W.fnOf "goes_up" "goes_up" (aK fc) (aD fc) (aj fc) .none kV4 dc4 pm4 an4 cd4 ct4),sl4⟩) (c4:W.codeIn K cd4 "goes_up"=true) (k4:W.keepIn K (.ref f4)=true)
 (a5:W.nsIn K mainGlobals "goes_right"=some (some (.ref f5))) (l5:K.lookup f5=some ⟨oc5,od5,.func (W.fnOf "goes_right" "goes_right" (aK cR) (aD cR) (aj cR) .none kV5 dc5 pm5 an5 cd5 ct5),sl5⟩) (c5:W.codeIn K cd5 "goes_right"=true) (k5:W.keepIn K (.ref f5)=true)
 (a6:W.nsIn K mainGlobals "is_crossing"=some (some (.ref f6))) (l6:K.lookup f6=some ⟨oc6,od6,.func (W.fnOf "is_crossing" "is_crossing" (aK cq) (aD cq) (aj cq) .none kV6 dc6 pm6 an6 cd6 ct6),sl6⟩) (c6:W.codeIn K cd6 "is_crossing"=true) (k6:W.keepIn K (.ref f6)=true)
 (a7:W.nsIn K mainGlobals "sign_at"=some (some (.ref f7))) (l7:K.lookup f7=some ⟨oc7,od7,.func (W.fnOf "sign_at" "sign_at" (aK ft) (aD ft) (aj ft) .none kV7 dc7 pm7 an7 cd7 ct7),sl7⟩) (c7:W.codeIn K cd7 "sign_at"=true) (k7:W.keepIn K (.ref f7)=true)
 (a8:W.nsIn K mainGlobals "crossings_of"=some (some (.ref f8))) (l8:K.lookup f8=some ⟨oc8,od8,.func (W.fnOf "crossings_of" "crossings_of" (aK bO) (aD bO) (aj bO) .none kV8 dc8 pm8 an8 cd8 ct8),sl8⟩) (c8:W.codeIn K cd8 "crossings_of"=true) (k8:W.keepIn K (.ref f8)=true)
 (a9:W.nsIn K mainGlobals "along_column"=some (some (.ref f9))) (l9:K.lookup f9=some ⟨oc9,od9,.func (W.fnOf "along_column" "along_column" (aK bN) (aD bN) (aj bN) .none kV9 dc9 pm9 an9 cd9 ct9),sl9⟩) (c9:W.codeIn K cd9 "along_column"=true) (k9:W.keepIn K (.ref f9)=true)
 (a10:W.nsIn K mainGlobals "along_row"=some (some (.ref f10))) (l10:K.lookup f10=some ⟨oc10,od10,.func (W.fnOf "along_row" "along_row" (aK dq) (aD dq) (aj dq) .none kV10 dc10 pm10 an10 cd10 ct10),sl10⟩) (c10:W.codeIn K cd10 "along_row"=true) (k10:W.keepIn K (.ref f10)=true)
 (a11:W.nsIn K mainGlobals "word_of"=some (some (.ref f11))) (l11:K.lookup f11=some ⟨oc11,od11,.func (W.fnOf "word_of" "word_of" (aK fw) (aD fw) (aj fw) .none kV11 dc11 pm11 an11 cd11 ct11),sl11⟩) (c11:W.codeIn K cd11 "word_of"=true) (k11:W.keepIn K (.ref f11)=true)
 (a12:W.nsIn K mainGlobals "words_of"=some (some (.ref f12))) (l12:K.lookup f12=some ⟨oc12,od12,.func (W.fnOf "words_of" "words_of" (aK dU) (aD dU) (aj dU) .none kV12 dc12 pm12 an12 cd12 ct12),sl12⟩) (c12:W.codeIn K cd12 "words_of"=true) (k12:W.keepIn K (.ref f12)=true)
 (a13:W.nsIn K mainGlobals "place_behind"=some (some (.ref f13))) (l13:K.lookup f13=some ⟨oc13,od13,.func (W.fnOf "place_behind" "place_behind" (aK bK) (aD bK) (aj bK) .none kV13 dc13 pm13 an13 cd13 ct13),sl13⟩) (c13:W.codeIn K cd13 "place_behind"=true) (k13:W.keepIn K (.ref f13)=true)
 (a14:W.nsIn K mainGlobals "rounds_of"=some (some (.ref f14))) (l14:K.lookup f14=some ⟨oc14,od14,.func (W.fnOf "rounds_of" "rounds_of" (aK dh) (aD dh) (aj dh) .none kV14 dc14 pm14 an14 cd14 ct14),sl14⟩) (c14:W.codeIn K cd14 "rounds_of"=true) (k14:W.keepIn K (.ref f14)=true)
 (a15:W.nsIn K mainGlobals "of_surface"=some (some (.ref f15))) (l15:K.lookup f15=some ⟨oc15,od15,.func (W.fnOf "of_surface" "of_surface" (aK cQ) (aD cQ) (aj cQ) .none kV15 dc15 pm15 an15 cd15 ct15),sl15⟩) (c15:W.codeIn K cd15 "of_surface"=true) (k15:W.keepIn K (.ref f15)=true)
 (a16:W.nsIn K mainGlobals "_law_cell"=some (some (.ref f16))) (l16:K.lookup f16=some ⟨oc16,od16,.func (W.fnOf "_law_cell" "_law_cell" (aK dO) (aD dO) (aj dO) .none kV16 dc16 pm16 an16 cd16 ct16),sl16⟩) (c16:W.codeIn K cd16 "_law_cell"=true) (k16:W.keepIn K (.ref f16)=true)
 (a17:W.nsIn K mainGlobals "_law_bag"=some (some (.ref f17))) (l17:K.lookup f17=some ⟨oc17,od17,.func (W.fnOf "_law_bag" "_law_bag" (aK eZ) (aD eZ) (aj eZ) .none kV17 dc17 pm17 an17 cd17 ct17),sl17⟩) (c17:W.codeIn K cd17 "_law_bag"=true) (k17:W.keepIn K (.ref f17)=true)
 (a18:W.nsIn K mainGlobals "_law_take"=some (some (.ref f18))) (l18:K.lookup f18=some ⟨oc18,od18,.func (W.fnOf "_law_take" "_law_take" (aK dP) (aD dP) (aj dP) .none kV18 dc18 pm18 an18 cd18 ct18),sl18⟩) (c18:W.codeIn K cd18 "_law_take"=true) (k18:W.keepIn K (.ref f18)=true)
 (a19:W.nsIn K mainGlobals "_law_order"=some (some (.ref f19))) (l19:K.lookup f19=some ⟨oc19,od19,.func (W.fnOf "_law_order" "_law_order" (aK dl) (aD dl) (aj dl) .none kV19 dc19 pm19 an19 cd19 ct19),sl19⟩) (c19:W.codeIn K cd19 "_law_order"=true) (k19:W.keepIn K (.ref f19)=true)
 (a20:W.nsIn K mainGlobals "_law_square"=some (some (.ref f20))) (l20:K.lookup f20=some ⟨oc20,od20,.func (W.fnOf "_law_square" "_law_square" (aK cM) (aD cM) (aj cM) .none kV20 dc20 pm20 an20 cd20 ct20),sl20⟩) (c20:W.codeIn K cd20 "_law_square"=true) (k20:W.keepIn K (.ref f20)=true)
 (a21:W.nsIn K mainGlobals "_law_whole"=some (some (.ref f21))) (l21:K.lookup f21=some ⟨oc21,od21,.func (W.fnOf "_law_whole" "_law_whole" (aK de) (aD de) (aj de) .none kV21 dc21 pm21 an21 cd21 ct21),sl21⟩) (c21:W.codeIn K cd21 "_law_whole"=true) (k21:W.keepIn K (.ref f21)=true)
 (a22:W.nsIn K mainGlobals "_law_kind"=some (some (.ref f22))) (l22:K.lookup f22=some ⟨oc22,od22,.func (W.fnOf "_law_kind" "_law_kind" (aK eg) (aD eg) (aj eg) .none kV22 dc22 pm22 an22 cd22 ct22),sl22⟩) (c22:W.codeIn K cd22 "_law_kind"=true) (k22:W.keepIn K (.ref f22)=true)
 (a23:W.nsIn K mainGlobals "_law_rounds"=some (some (.ref f23))) (l23:K.lookup f23=some ⟨oc23,od23,.func (W.fnOf "_law_rounds" "_law_rounds" (aK cO) (aD cO) (aj cO) .none kV23 dc23 pm23 an23 cd23 ct23),sl23⟩) (c23:W.codeIn K cd23 "_law_rounds"=true) (k23:W.keepIn K (.ref f23)=true)
 (a24:W.nsIn K mainGlobals "_law_between"=some (some (.ref f24))) (l24:K.lookup f24=some ⟨oc24,od24,.func (W.fnOf "_law_between" "_law_between" (aK cn) (aD cn) (aj cn) .none kV24 dc24 pm24 an24 cd24 ct24),sl24⟩) (c24:W.codeIn K cd24 "_law_between"=true) (k24:W.keepIn K (.ref f24)=true)
 (a25:W.nsIn K mainGlobals "_law_way"=some (some (.ref f25))) (l25:K.lookup f25=some ⟨oc25,od25,.func (W.fnOf "_law_way" "_law_way" (aK eX) (aD eX) (aj eX) .none kV25 dc25 pm25 an25 cd25 ct25),sl25⟩) (c25:W.codeIn K cd25 "_law_way"=true) (k25:W.keepIn K (.ref f25)=true)
 (a26:W.nsIn K mainGlobals "_law_word"=some (some (.ref f26))) (l26:K.lookup f26=some ⟨oc26,od26,.func (W.fnOf "_law_word" "_law_word" (aK eo) (aD eo) (aj eo) .none kV26 dc26 pm26 an26 cd26 ct26),sl26⟩) (c26:W.codeIn K cd26 "_law_word"=true) (k26:W.keepIn K (.ref f26)=true)
 (a27:W.nsIn K mainGlobals "_law_said"=some (some (.ref f27))) (l27:K.lookup f27=some ⟨oc27,od27,.func (W.fnOf "_law_said" "_law_said" (aK dW) (aD dW) (aj dW) .none kV27 dc27 pm27 an27 cd27 ct27),sl27⟩) (c27:W.codeIn K cd27 "_law_said"=true) (k27:W.keepIn K (.ref f27)=true)
 (a28:W.nsIn K mainGlobals "_law_pieces"=some (some (.ref f28))) (l28:K.lookup f28=some ⟨oc28,od28,.func (W.fnOf "_law_pieces" "_law_pieces" (aK cP) (aD cP) (aj cP) .none kV28 dc28 pm28 an28 cd28 ct28),sl28⟩) (c28:W.codeIn K cd28 "_law_pieces"=true) (k28:W.keepIn K (.ref f28)=true)
 (a29:W.nsIn K mainGlobals "_law_known"=some (some (.ref f29))) (l29:K.lookup f29=some ⟨oc29,od29,.func (W.fnOf "_law_known" "_law_known" (aK dk) (aD dk) (aj dk) .none kV29 dc29 pm29 an29 cd29 ct29),sl29⟩) (c29:W.codeIn K cd29 "_law_known"=true) (k29:W.keepIn K (.ref f29)=true)
 (a30:W.nsIn K mainGlobals "law"=some (some (.ref f30))) (l30:K.lookup f30=some ⟨oc30,od30,.func (W.fnOf "law" "law" (aK jr) (aD jr) (aj jr) .none kV30 dc30 pm30 an30 cd30 ct30),sl30⟩) (c30:W.codeIn K cd30 "law"=true) (k30:W.keepIn K (.ref f30)=true)
 (z_ValueError:W.nsIn K mainGlobals "ValueError"=some none)
 (z_abs:W.nsIn K mainGlobals "abs"=some none)
 (z_bool:W.nsIn K mainGlobals "bool"=some none)
 (z_enumerate:W.nsIn K mainGlobals "enumerate"=some none)
 (z_int:W.nsIn K mainGlobals "int"=some none)
 (z_isinstance:W.nsIn K mainGlobals "isinstance"=some none)
 (z_len:W.nsIn K mainGlobals "len"=some none)
 (z_list:W.nsIn K mainGlobals "list"=some none)
 (z_max:W.nsIn K mainGlobals "max"=some none)
 (z_min:W.nsIn K mainGlobals "min"=some none)
 (z_range:W.nsIn K mainGlobals "range"=some none)
 (z_set:W.nsIn K mainGlobals "set"=some none)
 (z_tuple:W.nsIn K mainGlobals "tuple"=some none)
 (ya0:W.nsIn K mainGlobals "RookError"=some (some (.ref kx0)))
 (yb0:W.findIn K (.ref kx0) "__getattribute__"=some (some (.builtin "BaseException.__getattribute__")))
 (yc0:W.findIn K (.ref kx0) "__getattr__"=some none)
 (yd0:W.findIn K (.ref kx0) "__class__"=some (some (.builtin "object.__class__")))
 (yg0:W.mroIn K kx0 (.type "object")=some true)
 (yh0:W.mroIn K kx0 (.type "BaseException")=some true)
 (yt0:W.typeIn K (.ref kx0)=some (.type "type"))
 (ym0:W.clsIn K kx0=some ⟨xn0,xb0,.ref kx0::pp,xs0,xq0,xd0,xv0,xu0,xl0,xc0,xe0⟩)
 (ya1:W.nsIn K mainGlobals "NoSquare"=some (some (.ref kx1)))
 (yb1:W.findIn K (.ref kx1) "__getattribute__"=some (some (.builtin "BaseException.__getattribute__")))
 (yc1:W.findIn K (.ref kx1) "__getattr__"=some none)
 (yd1:W.findIn K (.ref kx1) "__class__"=some (some (.builtin "object.__class__")))
 (yg1:W.mroIn K kx1 (.type "object")=some true)
 (yh1:W.mroIn K kx1 (.type "BaseException")=some true)
 (yt1:W.typeIn K (.ref kx1)=some (.type "type"))
 (ym1:W.clsIn K kx1=some ⟨xn1,xb1,.ref kx1:: .ref kx0::pp,xs1,xq1,xd1,xv1,xu1,xl1,xc1,xe1⟩)
 (ya2:W.nsIn K mainGlobals "NoMove"=some (some (.ref kx2)))
 (yb2:W.findIn K (.ref kx2) "__getattribute__"=some (some (.builtin "BaseException.__getattribute__")))
 (yc2:W.findIn K (.ref kx2) "__getattr__"=some none)
 (yd2:W.findIn K (.ref kx2) "__class__"=some (some (.builtin "object.__class__")))
 (yg2:W.mroIn K kx2 (.type "object")=some true)
 (yh2:W.mroIn K kx2 (.type "BaseException")=some true)
 (yt2:W.typeIn K (.ref kx2)=some (.type "type"))
 (ym2:W.clsIn K kx2=some ⟨xn2,xb2,.ref kx2:: .ref kx0::pp,xs2,xq2,xd2,xv2,xu2,xl2,xc2,xe2⟩)
 (ya3:W.nsIn K mainGlobals "TooMany"=some (some (.ref kx3)))
 (yb3:W.findIn K (.ref kx3) "__getattribute__"=some (some (.builtin "BaseException.__getattribute__")))
 (yc3:W.findIn K (.ref kx3) "__getattr__"=some none)
 (yd3:W.findIn K (.ref kx3) "__class__"=some (some (.builtin "object.__class__")))
 (yg3:W.mroIn K kx3 (.type "object")=some true)
 (yh3:W.mroIn K kx3 (.type "BaseException")=some true)
 (yt3:W.typeIn K (.ref kx3)=some (.type "type"))
 (ym3:W.clsIn K kx3=some ⟨xn3,xb3,.ref kx3:: .ref kx0::pp,xs3,xq3,xd3,xv3,xu3,xl3,xc3,xe3⟩)
 (ya4:W.nsIn K mainGlobals "NoPart"=some (some (.ref kx4)))
 (yb4:W.findIn K (.ref kx4) "__getattribute__"=some (some (.builtin "BaseException.__getattribute__")))
 (yc4:W.findIn K (.ref kx4) "__getattr__"=some none)
 (yd4:W.findIn K (.ref kx4) "__class__"=some (some (.builtin "object.__class__")))
 (yg4:W.mroIn K kx4 (.type "object")=some true)
 (yh4:W.mroIn K kx4 (.type "BaseException")=some true)
 (yt4:W.typeIn K (.ref kx4)=some (.type "type"))
 (ym4:W.clsIn K kx4=some ⟨xn4,xb4,.ref kx4:: .ref kx0::pp,xs4,xq4,xd4,xv4,xu4,xl4,xc4,xe4⟩)
 (ya5:W.nsIn K mainGlobals "NotOne"=some (some (.ref kx5)))
 (yb5:W.findIn K (.ref kx5) "__getattribute__"=some (some (.builtin "BaseException.__getattribute__")))
 (yc5:W.findIn K (.ref kx5) "__getattr__"=some none)
 (yd5:W.findIn K (.ref kx5) "__class__"=some (some (.builtin "object.__class__")))
 (yg5:W.mroIn K kx5 (.type "object")=some true)
 (yh5:W.mroIn K kx5 (.type "BaseException")=some true)
 (yt5:W.typeIn K (.ref kx5)=some (.type "type"))
 (ym5:W.clsIn K kx5=some ⟨xn5,xb5,.ref kx5:: .ref kx0::pp,xs5,xq5,xd5,xv5,xu5,xl5,xc5,xe5⟩)
 (ya6:W.nsIn K mainGlobals "NoPaper"=some (some (.ref kx6)))
 (yb6:W.findIn K (.ref kx6) "__getattribute__"=some (some (.builtin "BaseException.__getattribute__")))
 (yc6:W.findIn K (.ref kx6) "__getattr__"=some none)
 (yd6:W.findIn K (.ref kx6) "__class__"=some (some (.builtin "object.__class__")))
 (yg6:W.mroIn K kx6 (.type "object")=some true)
 (yh6:W.mroIn K kx6 (.type "BaseException")=some true)
 (yt6:W.typeIn K (.ref kx6)=some (.type "type"))
 (ym6:W.clsIn K kx6=some ⟨xn6,xb6,.ref kx6:: .ref kx0::pp,xs6,xq6,xd6,xv6,xu6,xl6,xc6,xe6⟩)
 (ya7:W.nsIn K mainGlobals "NoText"=some (some (.ref kx7)))
 (yb7:W.findIn K (.ref kx7) "__getattribute__"=some (some (.builtin "BaseException.__getattribute__")))
 (yc7:W.findIn K (.ref kx7) "__getattr__"=some none)
 (yd7:W.findIn K (.ref kx7) "__class__"=some (some (.builtin "object.__class__")))
 (yg7:W.mroIn K kx7 (.type "object")=some true)
 (yh7:W.mroIn K kx7 (.type "BaseException")=some true)
 (yt7:W.typeIn K (.ref kx7)=some (.type "type"))
 (ym7:W.clsIn K kx7=some ⟨xn7,xb7,.ref kx7:: .ref kx0::pp,xs7,xq7,xd7,xv7,xu7,xl7,xc7,xe7⟩)
 (ya8:W.nsIn K mainGlobals "NoRow"=some (some (.ref kx8)))
 (yb8:W.findIn K (.ref kx8) "__getattribute__"=some (some (.builtin "BaseException.__getattribute__")))
 (yc8:W.findIn K (.ref kx8) "__getattr__"=some none)
 (yd8:W.findIn K (.ref kx8) "__class__"=some (some (.builtin "object.__class__")))
 (yg8:W.mroIn K kx8 (.type "object")=some true)
 (yh8:W.mroIn K kx8 (.type "BaseException")=some true)
 (yt8:W.typeIn K (.ref kx8)=some (.type "type"))
 (ym8:W.clsIn K kx8=some ⟨xn8,xb8,.ref kx8:: .ref kx0::pp,xs8,xq8,xd8,xv8,xu8,xl8,xc8,xe8⟩)
 (ya9:W.nsIn K mainGlobals "NoStep"=some (some (.ref kx9)))
 (yb9:W.findIn K (.ref kx9) "__getattribute__"=some (some (.builtin "BaseException.__getattribute__")))
 (yc9:W.findIn K (.ref kx9) "__getattr__"=some none)
 (yd9:W.findIn K (.ref kx9) "__class__"=some (some (.builtin "object.__class__")))
 (yg9:W.mroIn K kx9 (.type "object")=some true)
 (yh9:W.mroIn K kx9 (.type "BaseException")=some true)
 (yt9:W.typeIn K (.ref kx9)=some (.type "type"))
 (ym9:W.clsIn K kx9=some ⟨xn9,xb9,.ref kx9:: .ref kx0::pp,xs9,xq9,xd9,xv9,xu9,xl9,xc9,xe9⟩)
 (ye:W.specialIn K (.builtin "object.__class__") "__get__"=some (some (.builtin "getset_descriptor.__get__")))
 (yf:W.takesIn K (.builtin "object.__class__")=some true)
 (yo_NotOne:W.excIn K kx5 pp "ValueError.__new__"=true)
 (yn:[kx0,kx1,kx2,kx3,kx4,kx5,kx6,kx7,kx8,kx9].Nodup):
 ∃fd:FuncData,(∀(s:Shared) (v:Value),BindsTo s fd ⟨[v],[]⟩ [("_law_script",v)])/\ ∀base:Heap,K.In base->base.Ns mainGlobals mg->FnOk l.prog w K mg base nM 8 fa fd ["_law_script"] (sN K):=by
 have e:=hfa.symm.trans (W.mg_of X G a30)
 cases e
 have F0:=bf (st:=bQ) l0 c0 k0
 have b0:=F0.binds (ps:=["order"]) λ_ _ _ _ _ _ us hl=>ar1 us hl (λ_=>rfl)
 have d0:Df K mg "order_rounds" bQ ["order"]:=⟨_,_,F0,W.mg_of X G a0,b0⟩
 have F1:=bf (st:=dS) l1 c1 k1
 have b1:=F1.binds (ps:=["square"]) λ_ _ _ _ _ _ us hl=>ar1 us hl (λ_=>rfl)
 have d1:Df K mg "lines_of" dS ["square"]:=⟨_,_,F1,W.mg_of X G a1,b1⟩
 have F2:=bf (st:=bL) l2 c2 k2
 have b2:=F2.binds (ps:=["square"]) λ_ _ _ _ _ _ us hl=>ar1 us hl (λ_=>rfl)
 have d2:Df K mg "vet_one_line" bL ["square"]:=⟨_,_,F2,W.mg_of X G a2,b2⟩
 have F3:=bf (st:=bT) l3 c3 k3
 have b3:=F3.binds (ps:=["at","one","other"]) λ_ _ _ _ _ _ us hl=>ar3 us hl (λ_ _ _=>rfl)
 have d3:Df K mg "lies_between" bT ["at","one","other"]:=⟨_,_,F3,W.mg_of X G a3,b3⟩
 have F4:=bf (st:=fc) l4 c4 k4
 have b4:=F4.binds (ps:=["square","column"]) λ_ _ _ _ _ _ us hl=>ar2 us hl (λ_ _=>rfl)
 have d4:Df K mg "goes_up" fc ["square","column"]:=⟨_,_,F4,W.mg_of X G a4,b4⟩
 have F5:=bf (st:=cR) l5 c5 k5
 have b5:=F5.binds (ps:=["square","row"]) λ_ _ _ _ _ _ us hl=>ar2 us hl (λ_ _=>rfl)
 have d5:Df K mg "goes_right" cR ["square","row"]:=⟨_,_,F5,W.mg_of X G a5,b5⟩
 have F6:=bf (st:=cq) l6 c6 k6
 have b6:=F6.binds (ps:=["square","column","row"]) λ_ _ _ _ _ _ us hl=>ar3 us hl (λ_ _ _=>rfl)
 have d6:Df K mg "is_crossing" cq ["square","column","row"]:=⟨_,_,F6,W.mg_of X G a6,b6⟩
 have F7:=bf (st:=ft) l7 c7 k7
 have b7:=F7.binds (ps:=["square","column","row"]) λ_ _ _ _ _ _ us hl=>ar3 us hl (λ_ _ _=>rfl)
 have d7:Df K mg "sign_at" ft ["square","column","row"]:=⟨_,_,F7,W.mg_of X G a7,b7⟩
 have F8:=bf (st:=bO) l8 c8 k8
 have b8:=F8.binds (ps:=["square"]) λ_ _ _ _ _ _ us hl=>ar1 us hl (λ_=>rfl)
 have d8:Df K mg "crossings_of" bO ["square"]:=⟨_,_,F8,W.mg_of X G a8,b8⟩
 have F9:=bf (st:=bN) l9 c9 k9
 have b9:=F9.binds (ps:=["square","crossings","column"]) λ_ _ _ _ _ _ us hl=>ar3 us hl (λ_ _ _=>rfl)
 have d9:Df K mg "along_column" bN ["square","crossings","column"]:=⟨_,_,F9,W.mg_of X G a9,b9⟩
 have F10:=bf (st:=dq) l10 c10 k10
 have b10:=F10.binds (ps:=["square","crossings","row"]) λ_ _ _ _ _ _ us hl=>ar3 us hl (λ_ _ _=>rfl)
 have d10:Df K mg "along_row" dq ["square","crossings","row"]:=⟨_,_,F10,W.mg_of X G a10,b10⟩
 have F11:=bf (st:=fw) l11 c11 k11
 have b11:=F11.binds (ps:=["square","crossings","line"]) λ_ _ _ _ _ _ us hl=>ar3 us hl (λ_ _ _=>rfl)
 have d11:Df K mg "word_of" fw ["square","crossings","line"]:=⟨_,_,F11,W.mg_of X G a11,b11⟩
 have F12:=bf (st:=dU) l12 c12 k12
 have b12:=F12.binds (ps:=["square"]) λ_ _ _ _ _ _ us hl=>ar1 us hl (λ_=>rfl)
 have d12:Df K mg "words_of" dU ["square"]:=⟨_,_,F12,W.mg_of X G a12,b12⟩
 have F13:=bf (st:=bK) l13 c13 k13
 have b13:=F13.binds (ps:=["word","place"]) λ_ _ _ _ _ _ us hl=>ar2 us hl (λ_ _=>rfl)
 have d13:Df K mg "place_behind" bK ["word","place"]:=⟨_,_,F13,W.mg_of X G a13,b13⟩
 have F14:=bf (st:=dh) l14 c14 k14
 have b14:=F14.binds (ps:=["square"]) λ_ _ _ _ _ _ us hl=>ar1 us hl (λ_=>rfl)
 have d14:Df K mg "rounds_of" dh ["square"]:=⟨_,_,F14,W.mg_of X G a14,b14⟩
 have F15:=bf (st:=cQ) l15 c15 k15
 have b15:=F15.binds (ps:=["square"]) λ_ _ _ _ _ _ us hl=>ar1 us hl (λ_=>rfl)
 have d15:Df K mg "of_surface" cQ ["square"]:=⟨_,_,F15,W.mg_of X G a15,b15⟩
 have F16:=bf (st:=dO) l16 c16 k16
 have b16:=F16.binds (ps:=["_law_script","_law_k"]) λ_ _ _ _ _ _ us hl=>ar2 us hl (λ_ _=>rfl)
 have d16:Df K mg "_law_cell" dO ["_law_script","_law_k"]:=⟨_,_,F16,W.mg_of X G a16,b16⟩
 have F17:=bf (st:=eZ) l17 c17 k17
 have b17:=F17.binds (ps:=["_law_script","_law_at"]) λ_ _ _ _ _ _ us hl=>ar2 us hl (λ_ _=>rfl)
 have d17:Df K mg "_law_bag" eZ ["_law_script","_law_at"]:=⟨_,_,F17,W.mg_of X G a17,b17⟩
 have F18:=bf (st:=dP) l18 c18 k18
 have b18:=F18.binds (ps:=["_law_bag_here","_law_many"]) λ_ _ _ _ _ _ us hl=>ar2 us hl (λ_ _=>rfl)
 have d18:Df K mg "_law_take" dP ["_law_bag_here","_law_many"]:=⟨_,_,F18,W.mg_of X G a18,b18⟩
 have F19:=bf (st:=dl) l19 c19 k19
 have b19:=F19.binds (ps:=["_law_bag_here","_law_n"]) λ_ _ _ _ _ _ us hl=>ar2 us hl (λ_ _=>rfl)
 have d19:Df K mg "_law_order" dl ["_law_bag_here","_law_n"]:=⟨_,_,F19,W.mg_of X G a19,b19⟩
 have F20:=bf (st:=cM) l20 c20 k20
 have b20:=F20.binds (ps:=["_law_bag_here","_law_n"]) λ_ _ _ _ _ _ us hl=>ar2 us hl (λ_ _=>rfl)
 have d20:Df K mg "_law_square" cM ["_law_bag_here","_law_n"]:=⟨_,_,F20,W.mg_of X G a20,b20⟩
 have F21:=bf (st:=de) l21 c21 k21
 have b21:=F21.binds (ps:=["_law_thing"]) λ_ _ _ _ _ _ us hl=>ar1 us hl (λ_=>rfl)
 have d21:Df K mg "_law_whole" de ["_law_thing"]:=⟨_,_,F21,W.mg_of X G a21,b21⟩
 have F22:=bf (st:=eg) l22 c22 k22
 have b22:=F22.binds (ps:=["_law_e"]) λ_ _ _ _ _ _ us hl=>ar1 us hl (λ_=>rfl)
 have d22:Df K mg "_law_kind" eg ["_law_e"]:=⟨_,_,F22,W.mg_of X G a22,b22⟩
 have F23:=bf (st:=cO) l23 c23 k23
 have b23:=F23.binds (ps:=["_law_square_here"]) λ_ _ _ _ _ _ us hl=>ar1 us hl (λ_=>rfl)
 have d23:Df K mg "_law_rounds" cO ["_law_square_here"]:=⟨_,_,F23,W.mg_of X G a23,b23⟩
 have F24:=bf (st:=cn) l24 c24 k24
 have b24:=F24.binds (ps:=["_law_middle","_law_one","_law_other"]) λ_ _ _ _ _ _ us hl=>ar3 us hl (λ_ _ _=>rfl)
 have d24:Df K mg "_law_between" cn ["_law_middle","_law_one","_law_other"]:=⟨_,_,F24,W.mg_of X G a24,b24⟩
 have F25:=bf (st:=eX) l25 c25 k25
 have b25:=F25.binds (ps:=["_law_begin","_law_end"]) λ_ _ _ _ _ _ us hl=>ar2 us hl (λ_ _=>rfl)
 have d25:Df K mg "_law_way" eX ["_law_begin","_law_end"]:=⟨_,_,F25,W.mg_of X G a25,b25⟩
 have F26:=bf (st:=eo) l26 c26 k26
 have b26:=F26.binds (ps:=["_law_square_here"]) λ_ _ _ _ _ _ us hl=>ar1 us hl (λ_=>rfl)
 have d26:Df K mg "_law_word" eo ["_law_square_here"]:=⟨_,_,F26,W.mg_of X G a26,b26⟩
 have F27:=bf (st:=dW) l27 c27 k27
 have b27:=F27.binds (ps:=["_law_square_here"]) λ_ _ _ _ _ _ us hl=>ar1 us hl (λ_=>rfl)
 have d27:Df K mg "_law_said" dW ["_law_square_here"]:=⟨_,_,F27,W.mg_of X G a27,b27⟩
 have F28:=bf (st:=cP) l28 c28 k28
 have b28:=F28.binds (ps:=["_law_cells"]) λ_ _ _ _ _ _ us hl=>ar1 us hl (λ_=>rfl)
 have d28:Df K mg "_law_pieces" cP ["_law_cells"]:=⟨_,_,F28,W.mg_of X G a28,b28⟩
 have F29:=bf (st:=dk) l29 c29 k29
 have b29:=F29.binds (ps:=["_law_bag_here","_law_six"]) λ_ _ _ _ _ _ us hl=>ar2 us hl (λ_ _=>rfl)
 have d29:Df K mg "_law_known" dk ["_law_bag_here","_law_six"]:=⟨_,_,F29,W.mg_of X G a29,b29⟩
 have F30:=bf (st:=jr) l30 c30 k30
 have b30:=F30.binds (ps:=["_law_script"]) λ_ _ _ _ _ _ us hl=>ar1 us hl (λ_=>rfl)
 have d30:Df K mg "law" jr ["_law_script"]:=⟨_,_,F30,W.mg_of X G a30,b30⟩
 have B:Bt mg:=⟨W.mg_none_of X G z_ValueError,W.mg_none_of X G z_abs,W.mg_none_of X G z_bool,W.mg_none_of X G z_enumerate,W.mg_none_of X G z_int,W.mg_none_of X G z_isinstance,W.mg_none_of X G z_len,W.mg_none_of X G z_list,W.mg_none_of X G z_max,W.mg_none_of X G z_min,W.mg_none_of X G z_range,W.mg_none_of X G z_set,W.mg_none_of X G z_tuple⟩
 have r0:ExRow K mg kx0 "RookError" kx0:=⟨W.mg_of X G ya0,ya0,⟨yb0,yc0,yd0,ye,yf,yg0,yh0⟩,yt0,_,ym0,(if_pos rfl).symm⟩
 have r1:ExRow K mg kx0 "NoSquare" kx1:=⟨W.mg_of X G ya1,ya1,⟨yb1,yc1,yd1,ye,yf,yg1,yh1⟩,yt1,_,ym1,(if_neg (hU yn (List.Mem.head _))).symm⟩
 have r2:ExRow K mg kx0 "NoMove" kx2:=⟨W.mg_of X G ya2,ya2,⟨yb2,yc2,yd2,ye,yf,yg2,yh2⟩,yt2,_,ym2,(if_neg (hU yn (List.Mem.tail _ (List.Mem.head _)))).symm⟩
 have r3:ExRow K mg kx0 "TooMany" kx3:=⟨W.mg_of X G ya3,ya3,⟨yb3,yc3,yd3,ye,yf,yg3,yh3⟩,yt3,_,ym3,(if_neg (hU yn (List.Mem.tail _ (List.Mem.tail _ (List.Mem.head _))))).symm⟩
 have r4:ExRow K mg kx0 "NoPart" kx4:=⟨W.mg_of X G ya4,ya4,⟨yb4,yc4,yd4,ye,yf,yg4,yh4⟩,yt4,_,ym4,(if_neg (hU yn (List.Mem.tail _ (List.Mem.tail _ (List.Mem.tail _ (List.Mem.head _)))))).symm⟩
 have r5:ExRow K mg kx0 "NotOne" kx5:=⟨W.mg_of X G ya5,ya5,⟨yb5,yc5,yd5,ye,yf,yg5,yh5⟩,yt5,_,ym5,(if_neg (hU yn (List.Mem.tail _ (List.Mem.tail _ (List.Mem.tail _ (List.Mem.tail _ (List.Mem.head _))))))).symm⟩
 have r6:ExRow K mg kx0 "NoPaper" kx6:=⟨W.mg_of X G ya6,ya6,⟨yb6,yc6,yd6,ye,yf,yg6,yh6⟩,yt6,_,ym6,(if_neg (hU yn (List.Mem.tail _ (List.Mem.tail _ (List.Mem.tail _ (List.Mem.tail _ (List.Mem.tail _ (List.Mem.head _)))))))).symm⟩
 have r7:ExRow K mg kx0 "NoText" kx7:=⟨W.mg_of X G ya7,ya7,⟨yb7,yc7,yd7,ye,yf,yg7,yh7⟩,yt7,_,ym7,(if_neg (hU yn (List.Mem.tail _ (List.Mem.tail _ (List.Mem.tail _ (List.Mem.tail _ (List.Mem.tail _ (List.Mem.tail _ (List.Mem.head _))))))))).symm⟩
 have r8:ExRow K mg kx0 "NoRow" kx8:=⟨W.mg_of X G ya8,ya8,⟨yb8,yc8,yd8,ye,yf,yg8,yh8⟩,yt8,_,ym8,(if_neg (hU yn (List.Mem.tail _ (List.Mem.tail _ (List.Mem.tail _ (List.Mem.tail _ (List.Mem.tail _ (List.Mem.tail _ (List.Mem.tail _ (List.Mem.head _)))))))))).symm⟩
 have r9:ExRow K mg kx0 "NoStep" kx9:=⟨W.mg_of X G ya9,ya9,⟨yb9,yc9,yd9,ye,yf,yg9,yh9⟩,yt9,_,ym9,(if_neg (hU yn (List.Mem.tail _ (List.Mem.tail _ (List.Mem.tail _ (List.Mem.tail _ (List.Mem.tail _ (List.Mem.tail _ (List.Mem.tail _ (List.Mem.tail _ (List.Mem.head _))))))))))).symm⟩
 have ET:Et K mg kx0 kx1 kx2 kx3 kx4 kx5 kx6 kx7 kx8 kx9:=⟨⟨(cU r0 (cU r1 (cU r2 (cU r3 (cU r4 (cU r5 (cU r6 (cU r7 (cU r8 (cU r9 vA)))))))))),List.Mem.head _,yn⟩,yo_NotOne⟩
 refine⟨W.fnOf "law" "law" (aK jr) (aD jr) (aj jr) .none kV30 dc30 pm30 an30 cd30 ct30,λs v=>.of_eq rfl,λbase _ _=>?_⟩
 have cA:=lG (P:=l.prog) (w:=w) (base:=base) B d0 ET
 have fj:=rF (P:=l.prog) (w:=w) (base:=base) B d1 ET cA
 have gu:=mK (P:=l.prog) (w:=w) (base:=base) B d2 ET fj
 have eO:=lq (P:=l.prog) (w:=w) (base:=base) B d3 ET
 have fW:=uB (P:=l.prog) (w:=w) (base:=base) B d4 ET
 have dw:=oU (P:=l.prog) (w:=w) (base:=base) B d5 ET
 have gM:=m5 (P:=l.prog) (w:=w) (base:=base) B d6 ET eO
 have kw:=ub (P:=l.prog) (w:=w) (base:=base) B d7 ET fW dw
 have cG:=mP (P:=l.prog) (w:=w) (base:=base) B d8 ET kw gM
 have gr:=mH (P:=l.prog) (w:=w) (base:=base) B d9 ET fW
 have iH:=qv (P:=l.prog) (w:=w) (base:=base) B d10 ET dw
 have kG:=uY (P:=l.prog) (w:=w) (base:=base) B d11 ET gr iH
 have jK:=sv (P:=l.prog) (w:=w) (base:=base) B d12 ET cG kG fj
 have gm:=mM (P:=l.prog) (w:=w) (base:=base) B d13 ET
 have iZ:=pD (P:=l.prog) (w:=w) (base:=base) B d14 ET gu jK cA gm
 have hX:=oN (P:=l.prog) (w:=w) (base:=base) B d15 ET cG iZ
 have jM:=q9 (P:=l.prog) (w:=w) (base:=base) B d16 ET
 have kE:=uJ (P:=l.prog) (w:=w) (base:=base) B d17 ET jM
 have bb:=rW (P:=l.prog) (w:=w) (base:=base) B d18 ET
 have gE:=qo (P:=l.prog) (w:=w) (base:=base) B d19 ET bb
 have ig:=oG (P:=l.prog) (w:=w) (base:=base) B d20 ET bb gE
 have iW:=pB (P:=l.prog) (w:=w) (base:=base) B d21 ET
 have jz:=rV (P:=l.prog) (w:=w) (base:=base) B d22 ET
 have ic:=oz (P:=l.prog) (w:=w) (base:=base) B d23 ET
 have fE:=mW (P:=l.prog) (w:=w) (base:=base) B d24 ET
 have i6:=ue (P:=l.prog) (w:=w) (base:=base) B d25 ET
 have jC:=rQ (P:=l.prog) (w:=w) (base:=base) B d26 ET i6 fE
 have jL:=rY (P:=l.prog) (w:=w) (base:=base) B d27 ET hX jz
 have hV:=pg (P:=l.prog) (w:=w) (base:=base) B d28 ET
 have iX:=pI (P:=l.prog) (w:=w) (base:=base) B d29 ET bb
 exact zO (Aw (P:=l.prog) (w:=w) (base:=base) B F30 ET kE bb ig jL iX ic jC iW hV) zL
end L2
theorem PySem.W.Fast.tw429257610251731860:True:=⟨⟩
theorem PySem.W.Fast.tw85432091443765699:True:=⟨⟩
theorem PySem.W.Fast.tw18409672666493515898:True:=⟨⟩
theorem PySem.W.Fast.tw4911176318193914559:True:=⟨⟩
theorem PySem.W.Fast.tw9707640263312783678:True:=⟨⟩
theorem PySem.W.Fast.tw9101381531781250047:True:=⟨⟩
theorem PySem.W.Fast.tw17219909433220788288:True:=⟨⟩
theorem PySem.W.Fast.tw5364674307417924216:True:=⟨⟩
theorem PySem.W.Fast.tw7056531729674137864:True:=⟨⟩
theorem PySem.W.Fast.tw17756942234762345415:True:=⟨⟩
theorem PySem.W.Fast.tw13170067177276292237:True:=⟨⟩
theorem PySem.W.Fast.tw17041814857345420825:True:=⟨⟩
theorem PySem.W.Fast.tw4810342166826320010:True:=⟨⟩
theorem PySem.W.Fast.tw11573351093979079701:True:=⟨⟩
theorem PySem.W.Fast.tw11651001441631711265:True:=⟨⟩
theorem PySem.W.Fast.tw10606105561624394034:True:=⟨⟩
theorem PySem.W.Fast.tw15294233647726357159:True:=⟨⟩
theorem PySem.W.Fast.tw3214702121745186478:True:=⟨⟩
theorem PySem.W.Fast.tw9646832796112492622:True:=⟨⟩
theorem PySem.W.Fast.tw3109239010303857734:True:=⟨⟩
theorem PySem.W.Fast.tw1064914688934786554:True:=⟨⟩
theorem PySem.W.Fast.tw2626921537583029077:True:=⟨⟩
theorem PySem.W.Fast.tw8633803381002195099:True:=⟨⟩
theorem PySem.W.Fast.tw807795716685454641:True:=⟨⟩
theorem PySem.W.Fast.tw2358081791332933432:True:=⟨⟩
theorem PySem.W.Fast.tw9411670067382648255:True:=⟨⟩
theorem PySem.W.Fast.tw10440563659437332751:True:=⟨⟩
theorem PySem.W.Fast.tw12712174649129012476:True:=⟨⟩
theorem PySem.W.Fast.tw12536418390684466142:True:=⟨⟩
theorem PySem.W.Fast.tw18094693700926742843:True:=⟨⟩
open PySem PySem.W PyProof.Rows
set_option maxRecDepth 100000 in
set_option maxHeartbeats 0 in
theorem PySem.Challenge.cw_rookborders_k73_surfaces_holds : PySem.Challenge.rw_rookborders_k73_surfaces.Holds := by
 w_on;o_law;k_head;(case hw=>w_witness2)
 k_fill
 refine L2.walkD (l:=PySem.Challenge.rw_rookborders_k73_surfaces) (k:=8) (x:="_law_script") rfl rfl ⟨rfl,by decide,by decide⟩ (λw h Y=>W.kIn_of Y) ?F
 case F=>
  intro w mg fa h KX G hmg
  refine' L2.all_mk KX G hmg ?a0 ?l0 ?c0 ?k0 ?a1 ?l1 ?c1 ?k1 ?a2 ?l2 ?c2 ?k2 ?a3 ?l3 ?c3 ?k3 ?a4 ?l4 ?c4 ?k4 ?a5 ?l5 ?c5 ?k5 ?a6 ?l6 ?c6 ?k6 ?a7 ?l7 ?c7 ?k7 ?a8 ?l8 ?c8 ?k8 ?a9 ?l9 ?c9 ?k9 ?a10 ?l10 ?c10 ?k10 ?a11 ?l11 ?c11 ?k11 ?a12 ?l12 ?c12 ?k12 ?a13 ?l13 ?c13 ?k13 ?a14 ?l14 ?c14 ?k14 ?a15 ?l15 ?c15 ?k15 ?a16 ?l16 ?c16 ?k16 ?a17 ?l17 ?c17 ?k17 ?a18 ?l18 ?c18 ?k18 ?a19 ?l19 ?c19 ?k19 ?a20 ?l20 ?c20 ?k20 ?a21 ?l21 ?c21 ?k21 ?a22 ?l22 ?c22 ?k22 ?a23 ?l23 ?c23 ?k23 ?a24 ?l24 ?c24 ?k24 ?a25 ?l25 ?c25 ?k25 ?a26 ?l26 ?c26 ?k26 ?a27 ?l27 ?c27 ?k27 ?a28 ?l28 ?c28 ?k28 ?a29 ?l29 ?c29 ?k29 ?a30 ?l30 ?c30 ?k30 ?z_ValueError ?z_abs ?z_bool ?z_enumerate ?z_int ?z_isinstance ?z_len ?z_list ?z_max ?z_min ?z_range ?z_set ?z_tuple ?ya0 ?yb0 ?yc0 ?yd0 ?yg0 ?yh0 ?yt0 ?ym0 ?ya1 ?yb1 ?yc1 ?yd1 ?yg1 ?yh1 ?yt1 ?ym1 ?ya2 ?yb2 ?yc2 ?yd2 ?yg2 ?yh2 ?yt2 ?ym2 ?ya3 ?yb3 ?yc3 ?yd3 ?yg3 ?yh3 ?yt3 ?ym3 ?ya4 ?yb4 ?yc4 ?yd4 ?yg4 ?yh4 ?yt4 ?ym4 ?ya5 ?yb5 ?yc5 ?yd5 ?yg5 ?yh5 ?yt5 ?ym5 ?ya6 ?yb6 ?yc6 ?yd6 ?yg6 ?yh6 ?yt6 ?ym6 ?ya7 ?yb7 ?yc7 ?yd7 ?yg7 ?yh7 ?yt7 ?ym7 ?ya8 ?yb8 ?yc8 ?yd8 ?yg8 ?yh8 ?yt8 ?ym8 ?ya9 ?yb9 ?yc9 ?yd9 ?yg9 ?yh9 ?yt9 ?ym9 ?ye ?yf ?yo_NotOne ?yn
  (case a0=>k_is)
  (case l0=>k_is)
  (case c0=>k_is)
  (case k0=>k_is)
  (case a1=>k_is)
  (case l1=>k_is)
  (case c1=>k_is)
  (case k1=>k_is)
  (case a2=>k_is)
  (case l2=>k_is)
  (case c2=>k_is)
  (case k2=>k_is)
  (case a3=>k_is)
  (case l3=>k_is)
  (case c3=>k_is)
  (case k3=>k_is)
  (case a4=>k_is)
  (case l4=>k_is)
  (case c4=>k_is)
  (case k4=>k_is)
  (case a5=>k_is)
  (case l5=>k_is)
  (case c5=>k_is)
  (case k5=>k_is)
  (case a6=>k_is)
  (case l6=>k_is)
  (case c6=>k_is)
  (case k6=>k_is)
  (case a7=>k_is)
  (case l7=>k_is)
  (case c7=>k_is)
  (case k7=>k_is)
  (case a8=>k_is)
  (case l8=>k_is)
  (case c8=>k_is)
  (case k8=>k_is)
  (case a9=>k_is)
  (case l9=>k_is)
  (case c9=>k_is)
  (case k9=>k_is)
  (case a10=>k_is)
  (case l10=>k_is)
  (case c10=>k_is)
  (case k10=>k_is)
  (case a11=>k_is)
  (case l11=>k_is)
  (case c11=>k_is)
  (case k11=>k_is)
  (case a12=>k_is)
  (case l12=>k_is)
  (case c12=>k_is)
  (case k12=>k_is)
  (case a13=>k_is)
  (case l13=>k_is)
  (case c13=>k_is)
  (case k13=>k_is)
  (case a14=>k_is)
  (case l14=>k_is)
  (case c14=>k_is)
  (case k14=>k_is)
  (case a15=>k_is)
  (case l15=>k_is)
  (case c15=>k_is)
  (case k15=>k_is)
  (case a16=>k_is)
  (case l16=>k_is)
  (case c16=>k_is)
  (case k16=>k_is)
  (case a17=>k_is)
  (case l17=>k_is)
  (case c17=>k_is)
  (case k17=>k_is)
  (case a18=>k_is)
  (case l18=>k_is)
  (case c18=>k_is)
  (case k18=>k_is)
  (case a19=>k_is)
  (case l19=>k_is)
  (case c19=>k_is)
  (case k19=>k_is)
  (case a20=>k_is)
  (case l20=>k_is)
  (case c20=>k_is)
  (case k20=>k_is)
  (case a21=>k_is)
  (case l21=>k_is)
  (case c21=>k_is)
  (case k21=>k_is)
  (case a22=>k_is)
  (case l22=>k_is)
  (case c22=>k_is)
  (case k22=>k_is)
  (case a23=>k_is)
  (case l23=>k_is)
  (case c23=>k_is)
  (case k23=>k_is)
  (case a24=>k_is)
  (case l24=>k_is)
  (case c24=>k_is)
  (case k24=>k_is)
  (case a25=>k_is)
  (case l25=>k_is)
  (case c25=>k_is)
  (case k25=>k_is)
  (case a26=>k_is)
  (case l26=>k_is)
  (case c26=>k_is)
  (case k26=>k_is)
  (case a27=>k_is)
  (case l27=>k_is)
  (case c27=>k_is)
  (case k27=>k_is)
  (case a28=>k_is)
  (case l28=>k_is)
  (case c28=>k_is)
  (case k28=>k_is)
  (case a29=>k_is)
  (case l29=>k_is)
  (case c29=>k_is)
  (case k29=>k_is)
  (case a30=>k_is)
  (case l30=>k_is)
  (case c30=>k_is)
  (case k30=>k_is)
  (case z_ValueError=>k_is)
  (case z_abs=>k_is)
  (case z_bool=>k_is)
  (case z_enumerate=>k_is)
  (case z_int=>k_is)
  (case z_isinstance=>k_is)
  (case z_len=>k_is)
  (case z_list=>k_is)
  (case z_max=>k_is)
  (case z_min=>k_is)
  (case z_range=>k_is)
  (case z_set=>k_is)
  (case z_tuple=>k_is)
  (case ya0=>k_is)
  (case yb0=>k_is)
  (case yc0=>k_is)
  (case yd0=>k_is)
  (case yg0=>k_is)
  (case yh0=>k_is)
  (case yt0=>k_is)
  (case ym0=>k_is)
  (case ya1=>k_is)
  (case yb1=>k_is)
  (case yc1=>k_is)
  (case yd1=>k_is)
  (case yg1=>k_is)
  (case yh1=>k_is)
  (case yt1=>k_is)
  (case ym1=>k_is)
  (case ya2=>k_is)
  (case yb2=>k_is)
  (case yc2=>k_is)
  (case yd2=>k_is)
  (case yg2=>k_is)
  (case yh2=>k_is)
  (case yt2=>k_is)
  (case ym2=>k_is)
  (case ya3=>k_is)
  (case yb3=>k_is)
  (case yc3=>k_is)
  (case yd3=>k_is)
  (case yg3=>k_is)
  (case yh3=>k_is)
  (case yt3=>k_is)
  (case ym3=>k_is)
  (case ya4=>k_is)
  (case yb4=>k_is)
  (case yc4=>k_is)
  (case yd4=>k_is)
  (case yg4=>k_is)
  (case yh4=>k_is)
  (case yt4=>k_is)
  (case ym4=>k_is)
  (case ya5=>k_is)
  (case yb5=>k_is)
  (case yc5=>k_is)
  (case yd5=>k_is)
  (case yg5=>k_is)
  (case yh5=>k_is)
  (case yt5=>k_is)
  (case ym5=>k_is)
  (case ya6=>k_is)
  (case yb6=>k_is)
  (case yc6=>k_is)
  (case yd6=>k_is)
  (case yg6=>k_is)
  (case yh6=>k_is)
  (case yt6=>k_is)
  (case ym6=>k_is)
  (case ya7=>k_is)
  (case yb7=>k_is)
  (case yc7=>k_is)
  (case yd7=>k_is)
  (case yg7=>k_is)
  (case yh7=>k_is)
  (case yt7=>k_is)
  (case ym7=>k_is)
  (case ya8=>k_is)
  (case yb8=>k_is)
  (case yc8=>k_is)
  (case yd8=>k_is)
  (case yg8=>k_is)
  (case yh8=>k_is)
  (case yt8=>k_is)
  (case ym8=>k_is)
  (case ya9=>k_is)
  (case yb9=>k_is)
  (case yc9=>k_is)
  (case yd9=>k_is)
  (case yg9=>k_is)
  (case yh9=>k_is)
  (case yt9=>k_is)
  (case ym9=>k_is)
  (case ye=>k_is)
  (case yf=>k_is)
  (case yo_NotOne=>k_exc)
  (case yn=>decide)
