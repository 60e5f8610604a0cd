import PyProof.Rows.All
import Wide.All
import OpenK.AllK
import Wide.FinOn
import PyProof.EqAt
import PyProof.EqKinds
import PyProof.TupleCall
import PyProof.NeKinds
import PyProof.FactsAll.tuple_2
import PyProof.FactsAll.tuple_3
import PyProof.ListRange
import KE.KSortTup
import PyProof.EnumMake
import PyProof.AutoSeq1
import PyProof.Rows.SeqMore
import KE.KIsAll
import PyProof.ExcArgsOwn
import PyProof.ExcBaseAll.ValueError
import PyProof.ExcAttrAll.ValueError
import OpenK.KOwn
import PyProof.RulesAs
import PyProof.AutoRange
import PyProof.SeqRoads2
import PyProof.ZipIter
import PyProof.StrCalls2
import KE.KDictSum
import PyProof.SumAny
import KE.KRevIter
import PyProof.Rows.FStr
import PyProof.Rows.FStrParts
import KE.KRevSl
import Lean
import PySem.Challenge.RW_rookborders_k48_led_crowds
set_option bootstrap.genMatcherCode false
set_option Elab.async false
set_option linter.all false
set_option maxRecDepth 100000
set_option maxHeartbeats 1000000
namespace L2
open PySem
theorem pB {n:Nat}{l:List Nat}(nd:l.Nodup)(h: ∀z∈l,z<n):l.length<=n:=by
 have p:l.Perm ((List.range n).filter λz=>decide (z∈l)):=(List.perm_ext_iff_of_nodup nd (List.Pairwise.filter _ List.nodup_range)).mpr λz=>by
  rw[List.mem_filter,List.mem_range,decide_eq_true_eq];exact⟨λq=>⟨h z q,q⟩,λq=>q.2⟩
 rw[p.length_eq];exact Nat.le_trans (List.length_filter_le _ _) (by simp)
def jc:Nat->Nat
 |0=>0
 |n+1=>5*jc n+1
theorem qX(m:Nat): ∀n,jc (m+n)=5^n*jc m+jc n
 |0=>by simp[jc]
 |n+1=>by
  show 5*jc (m+n)+1=_;rw[qX m n,Nat.pow_succ];show _=5^n*5*jc m+(5*jc n+1);rw[Nat.mul_add,Nat.mul_right_comm,Nat.mul_comm 5 (5^n*jc m)];omega
theorem wA: ∀n,jc n % 2=n % 2
 |0=>rfl
 |n+1=>by have:=wA n;show(5*jc n+1) % 2=_;omega
theorem nS: ∀n,5^n=4*jc n+1
 |0=>rfl
 |n+1=>by rw[Nat.pow_succ,nS n];show _=4*(5*jc n+1)+1;omega
theorem Iv(k a:Nat)(h:a % 2=1):Nat.Coprime (2^k) a:=by
 refine Nat.Coprime.pow_left k ?_
 show Nat.gcd 2 a=1;rw[Nat.gcd_rec,h];decide
theorem ww: ∀(k d:Nat),2^k∣jc d->2^k∣d
 |0,d,_=>by simp
 |k+1,d,h=>by
  have hp:=wA d
  have h2:2∣jc d:=Nat.dvd_trans ⟨2^k,by rw[Nat.pow_succ,Nat.mul_comm]⟩ h
  obtain⟨e,rfl⟩: ∃e,d=e+e:=⟨d / 2,by have:=Nat.mod_eq_zero_of_dvd h2;omega⟩
  have e1:jc (e+e)=2*(jc e*(2*jc e+1)):=by
   rw[qX,nS];have:(4*jc e+1)*jc e+jc e=(2*(2*jc e+1))*jc e:=by
    rw[<-Nat.succ_mul];congr 1;omega
   rw[this,Nat.mul_assoc,Nat.mul_comm (2*jc e+1)]
  rw[e1,Nat.pow_succ,Nat.mul_comm] at h;have h3:=Nat.dvd_of_mul_dvd_mul_left (by omega) h
  have h4:=(Iv k (2*jc e+1) (by omega)).dvd_of_dvd_mul_right h3
  obtain⟨q,hq⟩:=ww k e h4
  exact⟨q,by rw[Nat.pow_succ];rw[show 2^k*2*q=2^k*q+2^k*q by rw[Nat.mul_right_comm];omega,<-hq]⟩
def vZ(M:Nat):Nat->Nat->Nat
 |0,i=>i
 |n+1,i=>(vZ M n i*5+1) % M
theorem qQ(M i:Nat): ∀n,vZ M n i % M=(5^n*i+jc n) % M
 |0=>by simp[vZ,jc]
 |n+1=>by
  show(vZ M n i*5+1) % M % M=_;rw[Nat.mod_mod,Nat.add_mod,Nat.mul_mod,qQ M i n,<-Nat.mul_mod,<-Nat.add_mod];congr 1
  show(5^n*i+jc n)*5+1=5^(n+1)*i+(5*jc n+1);rw[Nat.pow_succ,Nat.add_mul,Nat.mul_right_comm];omega
theorem Cm {k i m d:Nat}(h:vZ (2^k) m i % 2^k=vZ (2^k) (m+d) i % 2^k):2^k∣d:=by
 rw[qQ,qQ,qX,Nat.pow_add] at h;have e:5^m*5^d*i+(5^d*jc m+jc d)=5^m*i+jc m+jc d*(4*(5^m*i+jc m)+1):=by
  rw[nS d]
  generalize 5^m=a;generalize jc m=b;generalize jc d=c
  grind
 rw[e] at h;have h2:(jc d*(4*(5^m*i+jc m)+1)) % 2^k=0:=by
  have hd:=Nat.sub_mod_eq_zero_of_mod_eq h.symm
  rw[Nat.add_sub_cancel_left] at hd;exact hd
 exact ww k d ((Iv k _ (by omega)).dvd_of_dvd_mul_right (Nat.dvd_of_mod_eq_zero h2))
theorem E9 {k:Nat}{i:Nat}(hi:i<2^k){j:Nat}(hj:j<2^k): ∃n,n<2^k/\vZ (2^k) n i=j:=by
 have lt: ∀n,vZ (2^k) n i<2^k:=λn=>by
  cases n with
  |zero=>exact hi
  |succ n=>exact Nat.mod_lt _ (Nat.two_pow_pos k)
 have nd:((List.range (2^k)).map λn=>vZ (2^k) n i).Nodup:=by
  rw[List.Nodup,List.pairwise_map];refine List.Pairwise.imp_of_mem (λ{a b} ha hb hab e=>?_) List.pairwise_lt_range
  rw[List.mem_range] at hb;obtain⟨d,rfl⟩:=Nat.exists_eq_add_of_lt hab
  have:=Cm (k:=k) (i:=i) (m:=a) (d:=d+1) (by rw[show a+(d+1)=a+d+1 by omega,<-e])
  have:=Nat.le_of_dvd (by omega) this
  omega
 by_cases h:j∈(List.range (2^k)).map λn=>vZ (2^k) n i
 ·obtain⟨n,hn,e⟩:=List.mem_map.mp h
  exact⟨n,List.mem_range.mp hn,e⟩
 ·exfalso
  have h1:=pB (n:=2^k) (List.nodup_cons.mpr ⟨h,nd⟩) (λz hz=>by
   rcases List.mem_cons.mp hz with rfl|hz
   ·exact hj
   ·obtain⟨n,_,rfl⟩:=List.mem_map.mp hz;exact lt n)
  simp at h1;omega
abbrev Pb:=SetTable.Probe
def vO(mask:Nat)(p:Pb):Pb:=
 if p.more>0 then {p with j:=p.j+1,more:=p.more-1} else
 {p with j:=(SetTable.leap mask p.i p.perturb).1,more:=SetTable.runEnd mask (SetTable.leap mask p.i p.perturb).1- (SetTable.leap mask p.i p.perturb).1,i:=(SetTable.leap mask p.i p.perturb).1,perturb:=(SetTable.leap mask p.i p.perturb).2}
theorem uq(t:SetTable)(p:Pb):t.advance p=vO t.mask p:=rfl
theorem xY(mask:Nat)(p:Pb)(d:Option Nat):vO mask {p with dummy:=d}={vO mask p with dummy:=d}:=by
 unfold vO;dsimp only;split<;>rfl
def j5(mask i perturb:Nat)(d:Option Nat):Pb:={j:=i,more:=SetTable.runEnd mask i-i,i:=i,perturb:=perturb,dummy:=d}
def eG(mask:Nat):Nat->Pb->Pb
 |0,p=>p
 |n+1,p=>eG mask n (vO mask p)
theorem lb(mask m:Nat): ∀(n:Nat) (p:Pb),eG mask (n+m) p=eG mask m (eG mask n p)
 |0,p=>by rw[Nat.zero_add];rfl
 |n+1,p=>by rw[Nat.succ_add];exact lb mask m n (vO mask p)
theorem iF(mask n:Nat)(p:Pb):eG mask (n+1) p=vO mask (eG mask n p):=lb mask 1 n p
theorem kE(mask:Nat)(d:Option Nat): ∀(n:Nat) (p:Pb),eG mask n {p with dummy:=d}={eG mask n p with dummy:=d}
 |0,p=>rfl
 |n+1,p=>by
  show eG mask n (vO mask {p with dummy:=d})=_
  rw[xY,kE mask d n];rfl
theorem qV(mask:Nat): ∀(n:Nat) (p:Pb),n<=p.more->eG mask n p={p with j:=p.j+n,more:=p.more-n}
 |0,p,_=>rfl
 |n+1,p,h=>by
  show eG mask n (vO mask p)=_;have:vO mask p={p with j:=p.j+1,more:=p.more-1}:=if_pos (by omega)
  rw[this,qV mask n _ (by show n<=p.more-1;omega)]
  show({p with j:=p.j+1+n,more:=p.more-1-n}:Pb)={p with j:=p.j+(n+1),more:=p.more- (n+1)}
  rw[show p.j+1+n=p.j+(n+1) by omega,show p.more-1-n=p.more- (n+1) by omega]
theorem sQ(mask:Nat)(p:Pb):eG mask (p.more+1) p=j5 mask ((p.i*5+1+p.perturb / 32) % (mask+1)) (p.perturb / 32) p.dummy:=by
 rw[iF,qV mask p.more p (Nat.le_refl _)];unfold vO;dsimp only;rw[Nat.sub_self,if_neg (by omega)]
 rfl
theorem xy(mask i perturb:Nat)(d:Option Nat):(j5 mask i perturb d).more<=9:=by
 show SetTable.runEnd mask i-i<=9;unfold SetTable.runEnd;split<;>omega
def lp(mask:Nat):Nat->Nat×Nat->Nat×Nat
 |0,x=>x
 |n+1,x=>lp mask n ((x.1*5+1+x.2 / 32) % (mask+1),x.2 / 32)
theorem vA(mask:Nat)(d:Option Nat): ∀(n i perturb:Nat),∃m,m<=10*n/\eG mask m (j5 mask i perturb d)=j5 mask (lp mask n (i,perturb)).1 (lp mask n (i,perturb)).2 d
 |0,i,perturb=>⟨0,by omega,rfl⟩
 |n+1,i,perturb=>by
  obtain⟨m,h1,h2⟩:=vA mask d n ((i*5+1+perturb / 32) % (mask+1)) (perturb / 32)
  have lm:=xy mask i perturb d
  refine⟨(j5 mask i perturb d).more+1+m,by omega,?_⟩
  rw[lb,sQ];exact h2
theorem BP {k mask:Nat}(hk:mask+1=2^k): ∀(n i:Nat),lp mask n (i,0)=(vZ (2^k) n i,0):=by
 have key: ∀(n:Nat) (x:Nat),vZ (2^k) n ((x*5+1) % 2^k)=vZ (2^k) (n+1) x:=by
  intro n
  induction n with
  |zero=>intro x;rfl
  |succ n ih=>intro x;show(vZ (2^k) n ((x*5+1) % 2^k)*5+1) % 2^k=_;rw[ih x];rfl
 intro n
 induction n with
 |zero=>intro i;rfl
 |succ n ih=>
  intro i;show lp mask n ((i*5+1+0 / 32) % (mask+1),0 / 32)=_;rw[Nat.zero_div,Nat.add_zero,hk,ih,key]
theorem AE(mask:Nat): ∀(m n:Nat) (x:Nat×Nat),lp mask (m+n) x=lp mask n (lp mask m x)
 |0,n,x=>by rw[Nat.zero_add];rfl
 |m+1,n,x=>by rw[Nat.succ_add];exact AE mask m n _
theorem wy(mask:Nat): ∀(n i perturb:Nat),(lp mask n (i,perturb)).2=perturb / 32^n
 |0,i,perturb=>by simp[lp]
 |n+1,i,perturb=>by
  show(lp mask n _).2=_;rw[wy,Nat.div_div_eq_div_mul,<-Nat.pow_succ']
theorem C3(mask:Nat): ∀(n:Nat) (x:Nat×Nat),x.1<=mask->(lp mask n x).1<=mask
 |0,x,h=>h
 |n+1,x,_=>C3 mask n _ (Nat.lt_succ_iff.mp (Nat.mod_lt _ (by omega)))
theorem yV {k mask:Nat}(hk:mask+1=2^k){i perturb:Nat}(hi:i<=mask)(hp:perturb<2^64){j:Nat}(hj:j<=mask): ∃n,n<=13+mask/\(lp mask n (i,perturb)).1=j:=by
 have e13:lp mask 13 (i,perturb)=((lp mask 13 (i,perturb)).1,0):=by
  have:=wy mask 13 i perturb
  rw[Nat.div_eq_of_lt (Nat.lt_of_lt_of_le hp (by decide))] at this
  exact Prod.ext rfl this
 obtain⟨n,hn,e⟩:=E9 (k:=k) (i:=(lp mask 13 (i,perturb)).1) (by have:=C3 mask 13 (i,perturb) hi;omega) (j:=j) (by omega)
 refine⟨13+n,by omega,?_⟩
 rw[AE,e13,BP hk];exact e
def qp(mask:Nat)(h:Int)(d:Option Nat):Pb:=j5 mask (SetTable.bits h % (mask+1)) (SetTable.bits h) d
def Jx(mask:Nat)(h:Int)(m:Nat):Nat:=(eG mask m (qp mask h none)).j
theorem Fc(mask:Nat)(h:Int)(m:Nat)(d:Option Nat):(eG mask m (qp mask h d)).j=Jx mask h m:=by
 have:qp mask h d={qp mask h none with dummy:=d}:=rfl
 rw[this,kE];rfl
theorem wB(h:Int):SetTable.bits h<2^64:=by
 unfold SetTable.bits;have h1:0<=h % (2^64:Int):=Int.emod_nonneg _ (by decide)
 have h2:h % (2^64:Int)<2^64:=Int.emod_lt_of_pos _ (by decide)
 have h3:((2:Int)^64)=((2^64:Nat):Int):=by decide
 omega
theorem EX {k mask:Nat}(hk:mask+1=2^k)(h:Int){j:Nat}(hj:j<=mask): ∃m,m<=10*(13+mask)/\Jx mask h m=j:=by
 obtain⟨n,hn,e⟩:=yV hk (i:=SetTable.bits h % (mask+1)) (perturb:=SetTable.bits h) (Nat.lt_succ_iff.mp (Nat.mod_lt _ (by omega))) (wB h) hj
 obtain⟨m,hm,e2⟩:=vA mask none n (SetTable.bits h % (mask+1)) (SetTable.bits h)
 refine⟨m,by omega,?_⟩
 show(eG mask m (j5 mask (SetTable.bits h % (mask+1)) (SetTable.bits h) none)).j=j;rw[e2];exact e
def Ris(xs:Array Nat):Prop:=xs.toList.Pairwise (·< ·)
theorem Ris.lt {xs:Array Nat}(r:Ris xs){i j:Nat}(hij:i<j){a b:Nat}(ha:xs[i]? =some a)(hb:xs[j]? =some b):a<b:=by
 rw[<-Array.getElem?_toList] at ha hb;obtain⟨h1,e1⟩:=List.getElem?_eq_some_iff.mp ha
 obtain⟨h2,e2⟩:=List.getElem?_eq_some_iff.mp hb
 have:=List.pairwise_iff_getElem.mp r i j h1 h2 hij
 rw[e1,e2] at this;exact this
theorem Ris.inj {xs:Array Nat}(r:Ris xs){i j:Nat}{a:Nat}(ha:xs[i]? =some a)(hb:xs[j]? =some a):i=j:=by
 rcases Nat.lt_trichotomy i j with h|h|h
 ·exact absurd (r.lt h ha hb) (by omega)
 ·exact h
 ·exact absurd (r.lt h hb ha) (by omega)
structure Bel(xs:Array Nat)(j p:Nat):Prop where
 le:p<=xs.size
 lo: ∀i a,i<p->xs[i]? =some a->a<j
 hi: ∀i a,p<=i->xs[i]? =some a->j<=a
theorem va {xs:Array Nat}(r:Ris xs)(j:Nat): ∀(fuel lo hi:Nat),hi-lo<=fuel->lo<=hi->hi<=xs.size->(∀i a,i<lo->xs[i]? =some a->a<j)->(∀i a,hi<=i->xs[i]? =some a->j<=a)->Bel xs j (SetTable.below.go xs j fuel lo hi)
 |0,lo,hi,h1,h2,h3,h4,h5=>by
  have:lo=hi:=by omega
  subst this;exact⟨h3,h4,h5⟩
 |fuel+1,lo,hi,h1,h2,h3,h4,h5=>by
  unfold SetTable.below.go
  by_cases hlt:lo<hi
  ·rw[if_pos hlt]
   dsimp only;have hm:(lo+hi) / 2<xs.size:=by omega
   have em:xs[(lo+hi) / 2]? =some xs[(lo+hi) / 2]:=Array.getElem?_eq_getElem hm
   have eg:xs.getD ((lo+hi) / 2) j=xs[(lo+hi) / 2]:=by simp[Array.getD,hm]
   rw[eg]
   by_cases c:xs[(lo+hi) / 2]<j
   ·rw[if_pos c]
    refine va r j fuel _ hi (by omega) (by omega) h3 (λi a hi' ha=>?_) h5
    by_cases e:i=(lo+hi) / 2
    ·subst e;rw[em] at ha;cases ha;exact c
    ·exact Nat.lt_trans (r.lt (by omega) ha em) c
   ·rw[if_neg c]
    refine va r j fuel lo _ (by omega) (by omega) (by omega) h4 (λi a hi' ha=>?_)
    by_cases e:i=(lo+hi) / 2
    ·subst e;rw[em] at ha;cases ha;omega
    ·have:=r.lt (by omega) em ha;omega
  ·rw[if_neg hlt]
   have:lo=hi:=by omega
   subst this;exact⟨h3,h4,h5⟩
theorem Gu {xs:Array Nat}(r:Ris xs)(j:Nat):Bel xs j (SetTable.below xs j):=va r j _ _ _ (by omega) (by omega) (by omega) (λi a h _=>absurd h (by omega)) λi a h e=>by
 rw[Array.getElem?_eq_none h] at e;cases e
theorem qv {xs:Array Nat}(r:Ris xs){j i:Nat}(h:xs[i]? =some j):SetTable.below xs j=i:=by
 have b:=Gu r j
 rcases Nat.lt_trichotomy i (SetTable.below xs j) with c|c|c
 ·exact absurd (b.lo i j c h) (by omega)
 ·exact c.symm
 ·have lt:SetTable.below xs j<xs.size:=Nat.lt_trans c (Array.getElem?_eq_some_iff.mp h).1
  have e:xs[SetTable.below xs j]? =some xs[SetTable.below xs j]:=Array.getElem?_eq_getElem lt
  have h1:=b.hi _ _ (Nat.le_refl _) e
  have h2:=r.lt c e h
  omega
theorem jG {xs:Array Nat}(r:Ris xs)(j:Nat):SetTable.has xs j=true↔j∈xs.toList:=by
 unfold SetTable.has;rw[beq_iff_eq];constructor
 ·intro h
  rw[<-Array.getElem?_toList] at h;exact List.mem_of_getElem? h
 ·intro h
  obtain⟨i,hi⟩:=List.mem_iff_getElem?.mp h
  rw[Array.getElem?_toList] at hi;rw[qv r hi];exact hi
structure TOk(t:SetTable)(hs:List Int):Prop where
 pw: ∃k,3<=k/\k<=12/\t.mask+1=2^k
 sz:t.place.size=hs.length
 sp:Ris t.place
 sd:Ris t.dummies
 lp: ∀j∈t.place.toList,j<=t.mask
 ld: ∀j∈t.dummies.toList,j<=t.mask
 dj: ∀j∈t.dummies.toList,j∉t.place.toList
 fl:t.fill<=t.mask
 rc: ∀x∈hs.zip t.place.toList,∃m,Jx t.mask x.1 m=x.2/\ ∀m',m'<m->Jx t.mask x.1 m'∈t.place.toList\/Jx t.mask x.1 m'∈t.dummies.toList
def pr(t:SetTable)(j:Nat):Prop:=j∈t.place.toList\/j∈t.dummies.toList
section
variable {t:SetTable}{hs:List Int}(T:TOk t hs)
include T
theorem TOk.mask:t.mask<=4095:=by
 obtain⟨k,h3,h12,e⟩:=T.pw
 have:=Nat.pow_le_pow_right (n:=2) (by omega) h12
 have:(2:Nat)^12=4096:=by decide
 omega
theorem TOk.noway:t.gaveWay=false:=by
 obtain⟨k,h3,h12,e⟩:=T.pw
 unfold SetTable.gaveWay;have:2^k % 2=0:=by
  obtain⟨m,rfl⟩:=Nat.exists_eq_add_of_le h3
  rw[Nat.pow_add];omega
 rw[beq_eq_false_iff_ne];omega
theorem mo {j i:Nat}(h:t.place[i]? =some j):t.slot j=.live i:=by
 unfold SetTable.slot;rw[qv T.sp h,if_pos (by rw[h];exact beq_self_eq_true _)]
theorem oo {j:Nat}(h:j∈t.dummies.toList):t.slot j=.dummy:=by
 unfold SetTable.slot;have e: ¬(t.place[SetTable.below t.place j]? ==some j)=true:=λw=>by
  rw[beq_iff_eq,<-Array.getElem?_toList] at w;exact T.dj j h (List.mem_of_getElem? w)
 dsimp only;rw[if_neg e,if_pos ((jG T.sd j).mpr h)]
theorem ux {j:Nat}(h: ¬pr t j):t.slot j=.empty:=by
 unfold SetTable.slot;have e: ¬(t.place[SetTable.below t.place j]? ==some j)=true:=λw=>by
  rw[beq_iff_eq,<-Array.getElem?_toList] at w;exact h (.inl (List.mem_of_getElem? w))
 dsimp only;rw[if_neg e,if_neg λw=>h (.inr ((jG T.sd j).mp w))]
theorem TOk.room: ∃j,j<=t.mask/\ ¬pr t j:=by
 refine Classical.byContradiction λh=>?_
 have all: ∀j,j<=t.mask->pr t j:=λj hj=>Classical.byContradiction λn=>h ⟨j,hj,n⟩
 have nd:(t.place.toList++t.dummies.toList).Nodup:=by
  refine List.nodup_append.mpr ⟨T.sp.imp λh=>Nat.ne_of_lt h,T.sd.imp λh=>Nat.ne_of_lt h,λa ha b hb e=>?_⟩
  subst e;exact T.dj _ hb ha
 have:t.mask+1<=(t.place.toList++t.dummies.toList).length:=by
  have h1:(List.range (t.mask+1)).length<=(t.place.toList++t.dummies.toList).length:=by
   refine List.Nodup.length_le_of_subset List.nodup_range λj hj=>?_
   rw[List.mem_range] at hj;rw[List.mem_append];exact all j (by omega)
  simpa using h1
 have fl:=T.fl
 unfold SetTable.fill at fl;rw[List.length_append,Array.length_toList,Array.length_toList] at this;omega
theorem TOk.first(h:Int): ∃M,M<=10*(13+t.mask)/\ ¬pr t (Jx t.mask h M)/\ ∀m,m<M->pr t (Jx t.mask h m):=by
 obtain⟨k,_,_,e⟩:=T.pw
 obtain⟨j,hj,hn⟩:=T.room
 obtain⟨m,hm,em⟩:=EX e h hj
 have ex: ∀n,(∃m,m<=n/\ ¬pr t (Jx t.mask h m))-> ∃M,M<=n/\ ¬pr t (Jx t.mask h M)/\ ∀m,m<M->pr t (Jx t.mask h m):=by
  intro n
  induction n with
  |zero=>rintro⟨m,hm,q⟩;obtain rfl:m=0:=(by omega);exact⟨0,by omega,q,λ_ h=>absurd h (by omega)⟩
  |succ n ih=>
   rintro⟨m,hm,q⟩
   by_cases c: ∃m,m<=n/\ ¬pr t (Jx t.mask h m)
   ·obtain⟨M,h1,h2,h3⟩:=ih c;exact⟨M,by omega,h2,h3⟩
   ·have:m=n+1:=Classical.byContradiction λw=>c ⟨m,by omega,q⟩
    subst this;exact⟨n+1,by omega,q,λm' hm'=>Classical.byContradiction λw=>c ⟨m',by omega,w⟩⟩
 obtain⟨M,h1,h2,h3⟩:=ex (10*(13+t.mask)) ⟨m,hm,by rw[em];exact hn⟩
 exact⟨M,h1,h2,h3⟩
end
def GN(t:SetTable)(h:Int)(M:Nat)(d:Option Nat):Prop:= ∀x,d=some x->x∈t.dummies.toList/\ ∃m,m<M/\Jx t.mask h m=x
def Fk(t:SetTable)(hashAt:Nat->Int)(h:Int)(m n:Nat):Prop:= ∀m',m<=m'->m'<n-> ∀i:Nat,t.place[i]? =some (Jx t.mask h m')->hashAt i≠h
theorem rq(mask:Nat)(h:Int)(m:Nat)(d:Option Nat):eG mask m (qp mask h d)=⟨Jx mask h m,(eG mask m (qp mask h none)).more,(eG mask m (qp mask h none)).i,(eG mask m (qp mask h none)).perturb,d⟩:=kE mask d m (qp mask h none)
section
variable {t:SetTable}{hs:List Int}(T:TOk t hs)
include T
theorem n4(hashAt:Nat->Int){h:Int}{M:Nat}(h1: ¬pr t (Jx t.mask h M))(h2: ∀m,m<M->pr t (Jx t.mask h m)): ∀(fuel m:Nat) (d:Option Nat),M<m+fuel->m<=M->GN t h M d->
 ∃r,SetTable.probe.go t hashAt h fuel (eG t.mask m (qp t.mask h d))=some r/\
  ((∃d',r=.empty (Jx t.mask h M) d'/\GN t h M d'/\Fk t hashAt h m M)\/
   (∃c i d',m<=c/\c<M/\t.place[i]? =some (Jx t.mask h c)/\hashAt i=h/\r=.candidate (Jx t.mask h c) i (eG t.mask (c+1) (qp t.mask h d'))/\GN t h M d'/\Fk t hashAt h m c))
 |0,m,d,q1,q2,_=>absurd q1 (by omega)
 |fuel+1,m,d,q1,q2,hd=>by
  unfold SetTable.probe.go;rw[Fc]
  by_cases em:m=M
  ·subst em
   rw[ux T h1];have ed:(eG t.mask m (qp t.mask h d)).dummy=d:=by rw[rq]
   exact⟨_,rfl,.inl ⟨d,by rw[ed],hd,λm' a b=>absurd a (by omega)⟩⟩
  ·have lt:m<M:=by omega
   rcases h2 m lt with hu|hu
   ·obtain⟨i,hi⟩:=List.mem_iff_getElem?.mp hu
    rw[Array.getElem?_toList] at hi;rw[mo T hi];dsimp only
    by_cases eh:hashAt i=h
    ·rw[if_pos (beq_iff_eq.mpr eh),uq,<-iF]
     exact⟨_,rfl,.inr ⟨m,i,d,Nat.le_refl _,lt,hi,eh,rfl,hd,λm' a b=>absurd a (by omega)⟩⟩
    ·rw[if_neg (λw=>eh (beq_iff_eq.mp w)),uq,<-iF]
     obtain⟨r,hr,hc⟩:=n4 hashAt h1 h2 fuel (m+1) d (by omega) (by omega) hd
     have nc: ∀n,Fk t hashAt h (m+1) n->Fk t hashAt h m n:=λn q m' a b i' hi'=>by
      by_cases e:m'=m
      ·subst e;rw[T.sp.inj hi' hi];exact eh
      ·exact q m' (by omega) b i' hi'
     refine⟨r,hr,?_⟩
     rcases hc with⟨d',e,dd,q⟩|⟨c,i',d',a,b,e1,e2,e3,dd,q⟩
     ·exact .inl ⟨d',e,dd,nc _ q⟩
     ·exact .inr ⟨c,i',d',by omega,b,e1,e2,e3,dd,nc _ q⟩
   ·rw[oo T hu]
    dsimp only;have e:(⟨Jx t.mask h m,(eG t.mask m (qp t.mask h d)).more,(eG t.mask m (qp t.mask h d)).i,(eG t.mask m (qp t.mask h d)).perturb,some (Jx t.mask h m)⟩:Pb)=eG t.mask m (qp t.mask h (some (Jx t.mask h m))):=by
     rw[rq,rq t.mask h m (some _)]
    rw[uq,e,<-iF];obtain⟨r,hr,hc⟩:=n4 hashAt h1 h2 fuel (m+1) (some (Jx t.mask h m)) (by omega) (by omega) (λx hx=>by cases hx;exact⟨hu,m,lt,rfl⟩)
    have nc: ∀n,Fk t hashAt h (m+1) n->Fk t hashAt h m n:=λn q m' a b i' hi'=>by
     by_cases e:m'=m
     ·subst e;exact absurd (List.mem_of_getElem? (by rw[Array.getElem?_toList];exact hi')) (T.dj _ hu)
     ·exact q m' (by omega) b i' hi'
    refine⟨r,hr,?_⟩
    rcases hc with⟨d',e,dd,q⟩|⟨c,i',d',a,b,e1,e2,e3,dd,q⟩
    ·exact .inl ⟨d',e,dd,nc _ q⟩
    ·exact .inr ⟨c,i',d',by omega,b,e1,e2,e3,dd,nc _ q⟩
end
theorem fK {α:Type}(xs:Array α)(p:Nat):(SetTable.eraseAt xs p).toList=xs.toList.eraseIdx p:=by
 unfold SetTable.eraseAt;rw[List.eraseIdx_eq_take_drop_succ];simp[List.extract_eq_take_drop,List.take_of_length_le]
theorem pJ {l:List Nat}(r:l.Pairwise (·< ·)){p j:Nat}(hp:l[p]? =some j)(x:Nat):x∈l.eraseIdx p↔x∈l/\x≠j:=by
 rw[List.mem_eraseIdx_iff_getElem?];constructor
 ·rintro⟨i,ne,e⟩
  refine⟨List.mem_of_getElem? e,λw=>ne ?_⟩
  subst w;obtain⟨h1,e1⟩:=List.getElem?_eq_some_iff.mp e
  obtain⟨h2,e2⟩:=List.getElem?_eq_some_iff.mp hp
  rcases Nat.lt_trichotomy i p with c|c|c
  ·have:=List.pairwise_iff_getElem.mp r i p h1 h2 c;omega
  ·exact c
  ·have:=List.pairwise_iff_getElem.mp r p i h2 h1 c;omega
 ·rintro⟨h,ne⟩
  obtain⟨i,hi⟩:=List.mem_iff_getElem?.mp h
  exact⟨i,λw=>by subst w;rw[hp] at hi;cases hi;exact ne rfl,hi⟩
theorem nL {xs:Array Nat}(r:Ris xs){j:Nat}(n:j∉xs.toList):Ris (SetTable.insertAt xs (SetTable.below xs j) j):=by
 have b:=Gu r j
 unfold Ris;rw[SetTable.toList_insertAt,List.pairwise_append];have hlo: ∀a∈xs.toList.take (SetTable.below xs j),a<j:=λa ha=>by
  obtain⟨i,hi⟩:=List.mem_iff_getElem?.mp ha
  rw[List.getElem?_take] at hi;split at hi
  ·rename_i c;rw[Array.getElem?_toList] at hi;exact b.lo i a c hi
  ·cases hi
 have hhi: ∀a∈xs.toList.drop (SetTable.below xs j),j<a:=λa ha=>by
  obtain⟨i,hi⟩:=List.mem_iff_getElem?.mp ha
  rw[List.getElem?_drop] at hi;have hm:=List.mem_of_getElem? hi
  rw[Array.getElem?_toList] at hi;have:=b.hi _ a (Nat.le_add_right _ _) hi
  have:a≠j:=λw=>n (w▸hm)
  omega
 refine⟨List.Pairwise.sublist (List.take_sublist _ _) r,?_,λa ha c hc=>?_⟩
 ·exact List.pairwise_cons.mpr ⟨hhi,List.Pairwise.sublist (List.drop_sublist _ _) r⟩
 ·rcases List.mem_cons.mp hc with rfl|hc
  ·exact hlo a ha
  ·exact Nat.lt_trans (hlo a ha) (hhi c hc)
theorem oO {α:Type}(xs:Array α)(p:Nat)(x y:α):y∈(SetTable.insertAt xs p x).toList↔y=x\/y∈xs.toList:=by
 rw[SetTable.toList_insertAt,List.mem_append,List.mem_cons]
 conv=>rhs;rw[<-List.take_append_drop p xs.toList,List.mem_append]
 constructor
 ·rintro(h|h|h)
  ·exact .inr (.inl h)
  ·exact .inl h
  ·exact .inr (.inr h)
 ·rintro(h|h|h)
  ·exact .inr (.inl h)
  ·exact .inl h
  ·exact .inr (.inr h)
def fR {α:Type}(l:List α)(p:Nat)(x:α):List α:=l.take p++x::l.drop p
theorem Bl {α β:Type}(l:List α)(m:List β)(p:Nat)(a:α)(b:β)(h:l.length=m.length):(fR l p a).zip (fR m p b)=fR (l.zip m) p (a,b):=by
 unfold fR;rw[List.zip_append (by rw[List.length_take,List.length_take,h]),List.zip_cons_cons]
 unfold List.zip;rw[List.take_zipWith,List.drop_zipWith]
theorem TOk.put {t:SetTable}{hs:List Int}(T:TOk t hs){h:Int}{j:Nat}(hj:j<=t.mask)(n:j∉t.place.toList)(rc: ∃m,Jx t.mask h m=j/\ ∀m',m'<m->pr t (Jx t.mask h m'))
 (fl:(t.put j).1.fill<=t.mask):TOk (t.put j).1 (fR hs (t.put j).2 h):=by
 have el:(t.put j).1.place.toList=fR t.place.toList (t.put j).2 j:=SetTable.toList_insertAt _ _ _
 have mp: ∀y,y∈(t.put j).1.place.toList↔y=j\/y∈t.place.toList:=oO t.place _ j
 have md: ∀y,y∈(t.put j).1.dummies.toList↔y∈t.dummies.toList/\y≠j:=λy=>by
  show y∈(if SetTable.has t.dummies j=true then SetTable.eraseAt t.dummies (SetTable.below t.dummies j) else t.dummies).toList↔_
  split
  ·rename_i c
   have c2:=(jG T.sd j).mp c
   obtain⟨i,hi⟩:=List.mem_iff_getElem?.mp c2
   rw[fK,qv T.sd (by rw[<-Array.getElem?_toList];exact hi)]
   exact pJ T.sd hi y
  ·rename_i c
   exact⟨λq=>⟨q,λw=>c ((jG T.sd j).mpr (w▸q))⟩,λq=>q.1⟩
 have us: ∀y,pr t y->y∈(t.put j).1.place.toList\/y∈(t.put j).1.dummies.toList:=λy q=>by
  rcases q with q|q
  ·exact .inl ((mp y).mpr (.inr q))
  ·by_cases e:y=j
   ·exact .inl ((mp y).mpr (.inl e))
   ·exact .inr ((md y).mpr ⟨q,e⟩)
 refine⟨T.pw,?_,nL T.sp n,?_,λy q=>?_,λy q=>T.ld y ((md y).mp q).1,λy q w=>?_,fl,λx hx=>?_⟩
 ·rw[<-Array.length_toList,el]
  unfold fR;have:=T.sz
  rw[<-Array.length_toList] at this;simp[this]
 ·show Ris (if SetTable.has t.dummies j=true then SetTable.eraseAt t.dummies (SetTable.below t.dummies j) else t.dummies)
  split
  ·unfold Ris
   rw[fK];exact List.Pairwise.sublist (List.eraseIdx_sublist _ _) T.sd
  ·exact T.sd
 ·rcases(mp y).mp q with rfl|q
  ·exact hj
  ·exact T.lp y q
 ·have q':=(md y).mp q
  rcases(mp y).mp w with rfl|w
  ·exact q'.2 rfl
  ·exact T.dj y q'.1 w
 ·rw[el,Bl _ _ _ _ _ (by rw[Array.length_toList];exact T.sz.symm)] at hx
  unfold fR at hx;have hx:x=(h,j)\/x∈hs.zip t.place.toList:=by
   rcases List.mem_append.mp hx with q|q
   ·exact .inr (List.mem_of_mem_take q)
   ·rcases List.mem_cons.mp q with q|q
    ·exact .inl q
    ·exact .inr (List.mem_of_mem_drop q)
  rcases hx with rfl|hx
  ·obtain⟨m,e,q⟩:=rc
   exact⟨m,e,λm' hm=>us _ (q m' hm)⟩
  ·obtain⟨m,e,q⟩:=T.rc x hx
   exact⟨m,e,λm' hm=>us _ (q m' hm)⟩
theorem TOk.drop {t:SetTable}{hs:List Int}(T:TOk t hs){i j:Nat}(hi:t.place[i]? =some j):TOk (t.drop i) (hs.eraseIdx i):=by
 have ed:t.drop i={t with place:=SetTable.eraseAt t.place i,dummies:=SetTable.insertAt t.dummies (SetTable.below t.dummies j) j}:=by
  unfold SetTable.drop;rw[hi]
 have hi':t.place.toList[i]? =some j:=by rw[Array.getElem?_toList];exact hi
 have jm:j∈t.place.toList:=List.mem_of_getElem? hi'
 have lt:i<t.place.size:=(Array.getElem?_eq_some_iff.mp hi).1
 rw[ed];have el:(SetTable.eraseAt t.place i).toList=t.place.toList.eraseIdx i:=fK _ _
 have mp: ∀y,y∈(SetTable.eraseAt t.place i).toList↔y∈t.place.toList/\y≠j:=λy=>by rw[el];exact pJ T.sp hi' y
 have md:=oO t.dummies (SetTable.below t.dummies j) j
 have us: ∀y,pr t y->y∈(SetTable.eraseAt t.place i).toList\/y∈(SetTable.insertAt t.dummies (SetTable.below t.dummies j) j).toList:=λy q=>by
  rcases q with q|q
  ·by_cases e:y=j
   ·exact .inr ((md y).mpr (.inl e))
   ·exact .inl ((mp y).mpr ⟨q,e⟩)
  ·exact .inr ((md y).mpr (.inr q))
 refine⟨T.pw,?_,?_,nL T.sd λw=>T.dj j w jm,λy q=>T.lp y ((mp y).mp q).1,λy q=>?_,λy q w=>?_,?_,λx hx=>?_⟩
 ·show(SetTable.eraseAt t.place i).size=_
  rw[<-Array.length_toList,el,List.length_eraseIdx,List.length_eraseIdx,Array.length_toList,T.sz]
 ·show Ris (SetTable.eraseAt t.place i)
  unfold Ris;rw[el];exact List.Pairwise.sublist (List.eraseIdx_sublist _ _) T.sp
 ·rcases(md y).mp q with rfl|q
  ·exact T.lp y jm
  ·exact T.ld y q
 ·have w':=(mp y).mp w
  rcases(md y).mp q with rfl|q
  ·exact w'.2 rfl
  ·exact T.dj y q w'.1
 ·show(SetTable.eraseAt t.place i).size+(SetTable.insertAt t.dummies (SetTable.below t.dummies j) j).size<=t.mask
  have fl:=T.fl
  unfold SetTable.fill at fl;rw[<-Array.length_toList,el,List.length_eraseIdx,<-Array.length_toList (xs:=SetTable.insertAt _ _ _),SetTable.toList_insertAt,if_pos (by rw[Array.length_toList];exact lt)]
  simp;omega
 ·have hx:x∈(hs.eraseIdx i).zip (t.place.toList.eraseIdx i):=by rw[<-el];exact hx
  have:x∈hs.zip t.place.toList:=by
   obtain⟨n,hn⟩:=List.mem_iff_getElem?.mp hx
   rw[List.getElem?_zip_eq_some,List.getElem?_eraseIdx,List.getElem?_eraseIdx] at hn;obtain⟨h1,h2⟩:=hn
   split at h1
   ·rw[if_pos (by assumption)] at h2;exact List.mem_iff_getElem?.mpr ⟨n,List.getElem?_zip_eq_some.mpr ⟨h1,h2⟩⟩
   ·rw[if_neg (by assumption)] at h2;exact List.mem_iff_getElem?.mpr ⟨n+1,List.getElem?_zip_eq_some.mpr ⟨h1,h2⟩⟩
  obtain⟨m,e,q⟩:=T.rc x this
  exact⟨m,e,λm' hm=>us _ (q m' hm)⟩
abbrev mG:=Array (Option Nat)
def A1(ow:mG)(j:Nat):Prop:=ow[j]? =some none
def By(ow:mG)(j:Nat):Prop:= ∃k,ow[j]? =some (some k)
theorem fre_is {ow:mG}{j:Nat}:(ow.getD j (some 0)).isNone=true↔A1 ow j:=by
 unfold A1 Array.getD
 by_cases h:j<ow.size
 ·simp only[h,dite_true]
  rw[Array.getElem?_eq_getElem h];show(ow[j]).isNone=true↔_;rw[Option.isNone_iff_eq_none,Option.some.injEq]
 ·simp[h]
theorem uS {ow:mG}{j:Nat}(h:j<ow.size)(n: ¬A1 ow j):By ow j:=by
 unfold A1 at n;unfold By;rw[Array.getElem?_eq_getElem h] at n⊢;cases e:ow[j] with
 |none=>rw[e] at n;exact absurd rfl n
 |some k=>exact⟨k,rfl⟩
def Jl(mask i p m:Nat):Nat:=(eG mask m (j5 mask i p none)).j
theorem mF {mask i:Nat}(hi:i<=mask):SetTable.runEnd mask i<=mask/\i<=SetTable.runEnd mask i:=by
 unfold SetTable.runEnd;split<;>omega
theorem uF {mask i p m:Nat}(h:i+m<=SetTable.runEnd mask i):Jl mask i p m=i+m:=by
 unfold Jl;rw[qV mask m _ (show m<=SetTable.runEnd mask i-i by omega)]
 rfl
theorem vY(mask i p m:Nat):Jl mask i p ((SetTable.runEnd mask i-i)+1+m)=Jl mask ((i*5+1+p / 32) % (mask+1)) (p / 32) m:=by
 unfold Jl;rw[lb];have:=sQ mask (j5 mask i p none)
 have e:(j5 mask i p none).more=SetTable.runEnd mask i-i:=rfl
 rw[e] at this;rw[this];rfl
theorem vL {mask:Nat}{ow:mG}(hz:ow.size=mask+1): ∀(fuel i p:Nat),i<=mask->(∃n,n<fuel/\A1 ow (lp mask n (i,p)).1)->
 ∃j m,SetTable.layClean.free mask ow fuel i p=some j/\A1 ow j/\Jl mask i p m=j/\ ∀m',m'<m->By ow (Jl mask i p m')
 |0,i,p,_,⟨n,h,_⟩=>absurd h (Nat.not_lt_zero _)
 |fuel+1,i,p,hi,⟨n,h,hf⟩=>by
  have re:=mF hi
  unfold SetTable.layClean.free;cases e:(List.range (SetTable.runEnd mask i+1-i)).find? λk=>(ow.getD (i+k) (some 0)).isNone with
  |some k=>
   have h1:=List.find?_some e
   have hk:k<SetTable.runEnd mask i+1-i:=List.mem_range.mp (List.mem_of_find?_eq_some e)
   refine⟨i+k,k,rfl,fre_is.mp h1,uF (by omega),λm' hm=>?_⟩
   rw[uF (by omega)]
   refine uS (by omega) λw=>?_
   rw[List.find?_range_eq_some] at e;have:=e.2.2 m' hm
   rw[fre_is.mpr w] at this;exact absurd this (by decide)
  |none=>
   have no: ∀k,k<SetTable.runEnd mask i+1-i-> ¬A1 ow (i+k):=λk hk w=>by
    have:=List.find?_eq_none.mp e k (List.mem_range.mpr hk)
    exact this (fre_is.mpr w)
   dsimp only;obtain⟨j,m,g1,g2,g3,g4⟩:=vL hz fuel ((i*5+1+p / 32) % (mask+1)) (p / 32) (Nat.lt_succ_iff.mp (Nat.mod_lt _ (by omega))) (by
    cases n with
    |zero=>exact absurd hf (no 0 (by omega))
    |succ n=>exact⟨n,by omega,hf⟩)
   refine⟨j,(SetTable.runEnd mask i-i)+1+m,g1,g2,by rw[vY];exact g3,λm' hm=>?_⟩
   by_cases c:m'<=SetTable.runEnd mask i-i
   ·rw[uF (by omega)]
    exact uS (by omega) (no m' (by omega))
   ·obtain⟨m2,rfl⟩:=Nat.exists_eq_add_of_le (show SetTable.runEnd mask i-i+1<=m' by omega)
    rw[vY];exact g4 m2 (by omega)
structure LInv(mask:Nat)(ow:mG)(hs:List Int):Prop where
 sz:ow.size=mask+1
 lt: ∀(j k:Nat),ow[j]? =some (some k)->k<hs.length
 un: ∀(j j' k:Nat),ow[j]? =some (some k)->ow[j']? =some (some k)->j=j'
 ex: ∀(k:Nat) (h:Int),hs[k]? =some h-> ∃j m:Nat,ow[j]? =some (some k)/\Jx mask h m=j/\ ∀m',m'<m->By ow (Jx mask h m')
theorem LInv.room {mask:Nat}{ow:mG}{hs:List Int}(I:LInv mask ow hs)(hl:hs.length<=mask): ∃j,j<=mask/\A1 ow j:=by
 refine Classical.byContradiction λh=>?_
 have all: ∀j,j<=mask->By ow j:=λj hj=>uS (by rw[I.sz];omega) λw=>h ⟨j,hj,w⟩
 let f:Nat->Nat:=λj=>((ow[j]?).getD none).getD 0
 have hf: ∀j,j<=mask->ow[j]? =some (some (f j)):=λj hj=>by
  obtain⟨k,e⟩:=all j hj
  show _=some (some (((ow[j]?).getD none).getD 0));rw[e];rfl
 have nd:((List.range (mask+1)).map f).Nodup:=by
  rw[List.Nodup,List.pairwise_map];refine List.Pairwise.imp_of_mem (λ{a b} ha hb hab e=>?_) List.pairwise_lt_range
  rw[List.mem_range] at ha hb;have:=I.un a b (f a) (hf a (by omega)) (by rw[e];exact hf b (by omega))
  omega
 have:=pB nd (n:=hs.length) λz hz=>by
  obtain⟨j,hj,rfl⟩:=List.mem_map.mp hz
  exact I.lt j _ (hf j (by rw[List.mem_range] at hj;omega))
 simp at this;omega
theorem Az {k mask:Nat}(hk:mask+1=2^k){ow:mG}{hs:List Int}(I:LInv mask ow hs)(hl:hs.length<=mask)(h:Int):
 ∃j,SetTable.layClean.free mask ow (SetTable.turns mask) (SetTable.bits h % (mask+1)) (SetTable.bits h)=some j/\LInv mask (ow.setIfInBounds j (some hs.length)) (hs++[h]):=by
 obtain⟨jf,h1,h2⟩:=I.room hl
 have hi:SetTable.bits h % (mask+1)<=mask:=Nat.lt_succ_iff.mp (Nat.mod_lt _ (by omega))
 obtain⟨n,hn,e⟩:=yV hk hi (wB h) h1
 obtain⟨j,m,g1,g2,g3,g4⟩:=vL I.sz (SetTable.turns mask) _ _ hi ⟨n,by unfold SetTable.turns;omega,by rw[e];exact h2⟩
 have jl:j<ow.size:=by
  unfold A1 at g2;exact(Array.getElem?_eq_some_iff.mp g2).1
 have gs: ∀x,(ow.setIfInBounds j (some hs.length))[x]? =if j=x then some (some hs.length) else ow[x]? :=λx=>by
  rw[Array.getElem?_setIfInBounds];split<;>rfl
 have occ': ∀x,By ow x->By (ow.setIfInBounds j (some hs.length)) x:=λx hq_=>by
  obtain⟨q,hq⟩:=hq_
  unfold By;rw[gs];split
  ·exact⟨_,rfl⟩
  ·exact⟨q,hq⟩
 refine⟨j,g1,by rw[Array.size_setIfInBounds];exact I.sz,λx q hq=>?_,λx x' q hq hq'=>?_,λq z hz=>?_⟩
 ·rw[gs] at hq
  rw[List.length_append,List.length_singleton];split at hq
  ·cases hq;omega
  ·have:=I.lt x q hq;omega
 ·rw[gs] at hq hq'
  split at hq
  ·rename_i c
   cases hq
   split at hq'
   ·rename_i c';rw[<-c,<-c']
   ·have:=I.lt _ _ hq';omega
  ·split at hq'
   ·cases hq';have:=I.lt _ _ hq;omega
   ·exact I.un x x' q hq hq'
 ·by_cases c:q<hs.length
  ·rw[List.getElem?_append_left c] at hz
   obtain⟨x,m',e1,e2,e3⟩:=I.ex q z hz
   refine⟨x,m',?_,e2,λm'' hm=>occ' _ (e3 m'' hm)⟩
   rw[gs,if_neg λw=>?_]
   ·exact e1
   ·subst w;unfold A1 at g2;rw[g2] at e1;cases e1
  ·have hq:q=hs.length:=by
    have:=(List.getElem?_eq_some_iff.mp hz).1
    rw[List.length_append,List.length_singleton] at this;omega
   subst hq;rw[List.getElem?_append_right (Nat.le_refl _),Nat.sub_self] at hz;cases hz
   exact⟨j,m,by rw[gs,if_pos rfl],g3,λm' hm=>occ' _ (g4 m' hm)⟩
theorem v0 {k mask:Nat}(hk:mask+1=2^k): ∀(rest hs:List Int) (ow:mG),LInv mask ow hs->hs.length+rest.length<=mask+1->
 ∃ow',rest.foldl (λacc h=>do
  let(owner,k) <-acc
  let j <-SetTable.layClean.free mask owner (SetTable.turns mask) (SetTable.bits h % (mask+1)) (SetTable.bits h)
  pure (owner.setIfInBounds j (some k),k+1)) (some (ow,hs.length))=some (ow',hs.length+rest.length)/\LInv mask ow' (hs++rest)
 | [],hs,ow,I,_=>⟨ow,rfl,by rw[List.append_nil];exact I⟩
 |h::rest,hs,ow,I,hl=>by
  rw[List.length_cons] at hl;obtain⟨j,e,I'⟩:=Az hk I (by omega) h
  obtain⟨ow',e2,I2⟩:=v0 hk rest (hs++[h]) _ I' (by rw[List.length_append,List.length_singleton];omega)
  rw[List.length_append,List.length_singleton] at e2;refine⟨ow',?_,by rw[List.append_assoc] at I2;exact I2⟩
  rw[List.foldl_cons];have:(do
   let(owner,k) <-some (ow,hs.length)
   let j <-SetTable.layClean.free mask owner (SetTable.turns mask) (SetTable.bits h % (mask+1)) (SetTable.bits h)
   pure (owner.setIfInBounds j (some k),k+1):Option (mG×Nat))=some (ow.setIfInBounds j (some hs.length),hs.length+1):=by
   show(SetTable.layClean.free mask ow (SetTable.turns mask) (SetTable.bits h % (mask+1)) (SetTable.bits h)).bind (λj=>some (ow.setIfInBounds j (some hs.length),hs.length+1))=_
   rw[e];rfl
  rw[this,e2,List.length_cons];congr 2;omega
theorem xf(mask:Nat):LInv mask (Array.replicate (mask+1) none) [] where
 sz:=by simp
 lt:=λj k h=>by
  rw[Array.getElem?_replicate] at h;split at h<;>cases h
 un:=λj j' k h=>by
  rw[Array.getElem?_replicate] at h;split at h<;>cases h
 ex:=λk h e=>by simp at e
def h8(mask:Nat)(ow:mG):List (Nat×Nat):=(List.range (mask+1)).filterMap λj=>(ow.getD j none).map (j, ·)
theorem yL {mask:Nat}{ow:mG}(hz:ow.size=mask+1){x:Nat×Nat}:x∈h8 mask ow↔ow[x.1]? =some (some x.2):=by
 unfold h8;rw[List.mem_filterMap];constructor
 ·rintro⟨j,hj,e⟩
  rw[List.mem_range] at hj;have:j<ow.size:=by omega
  simp only[Array.getD,this,dite_true] at e;obtain⟨k,e1,rfl⟩:=Option.map_eq_some_iff.mp e
  show ow[j]? =some (some k);rw[Array.getElem?_eq_getElem this,<-e1];rfl
 ·intro h
  obtain⟨h1,h2⟩:=Array.getElem?_eq_some_iff.mp h
  refine⟨x.1,List.mem_range.mpr (by omega),?_⟩
  simp only[Array.getD,h1,dite_true];have:ow.getInternal x.1 h1=some x.2:=h2
  rw[this];rfl
theorem sV(mask:Nat)(ow:mG):((h8 mask ow).map (·.1)).Pairwise (·< ·):=by
 unfold h8;have: ∀l:List Nat,(l.filterMap λj=>(ow.getD j none).map (j, ·)).map (·.1)=l.filter λj=>(ow.getD j none).isSome:=by
  intro l
  induction l with
  |nil=>rfl
  |cons j l ih=>
   rw[List.filterMap_cons,List.filter_cons];cases e:ow.getD j none with
   |none=>exact ih
   |some k=>show j::_=_;rw[ih];rfl
 rw[this];exact List.Pairwise.filter _ List.pairwise_lt_range
theorem Cy {k mask:Nat}(h3:3<=k)(h12:k<=12)(hk:mask+1=2^k)(finger moves:Nat)(led plain:Bool)(hs:Array Int)(hl:hs.size<=mask):
 ∃place order:Array Nat,SetTable.laid mask finger moves led plain hs=some (⟨mask,place, #[],finger,led,moves,plain⟩,order)/\order.toList.Perm (List.range hs.size)/\
  TOk ⟨mask,place, #[],finger,led,moves,plain⟩ (order.toList.map λk=>hs.toList.getD k 0):=by
 obtain⟨ow,e,I⟩:=v0 hk hs.toList [] _ (xf mask) (by simp;omega)
 rw[List.nil_append] at I;have elay:SetTable.layClean mask hs=some ow:=by
  unfold SetTable.layClean;rw[<-Array.foldl_toList];have e:hs.toList.foldl _ (some (Array.replicate (mask+1) none,0))=_:=e
  rw[e];rfl
 have mem:= @yL mask ow I.sz
 have o1:((h8 mask ow).map (·.2)).Nodup:=by
  rw[List.Nodup,List.pairwise_map];have:=sV mask ow
  rw[List.pairwise_map] at this;refine this.imp_of_mem λ{a b} ha hb hab w=>?_
  have h1:=mem.mp ha
  have h2:=mem.mp hb
  rw[<-w] at h2;have:=I.un _ _ _ h1 h2
  omega
 have o2: ∀k,k∈(h8 mask ow).map (·.2)↔k∈List.range hs.size:=λk=>by
  rw[List.mem_map,List.mem_range];constructor
  ·rintro⟨x,hx,rfl⟩
   have:=I.lt _ _ (mem.mp hx)
   simpa using this
  ·intro h
   obtain⟨j,m,h1,_⟩:=I.ex k (hs.toList[k]'(by simpa using h)) (List.getElem?_eq_getElem _)
   exact⟨(j,k),mem.mpr h1,rfl⟩
 have occ: ∀x,By ow x->x∈(h8 mask ow).map (·.1):=λx ⟨q,hq⟩=>List.mem_map.mpr ⟨(x,q),mem.mpr hq,rfl⟩
 refine⟨((h8 mask ow).map (·.1)).toArray,((h8 mask ow).map (·.2)).toArray,?_,?_,⟨k,h3,h12,hk⟩,?_,?_,?_,?_,?_,?_,?_,?_⟩
 ·unfold SetTable.laid
  rw[elay];rfl
 ·exact(List.perm_ext_iff_of_nodup o1 List.nodup_range).mpr o2
 ·simp
 ·exact sV mask ow
 ·exact List.Pairwise.nil
 ·intro j hj
  obtain⟨x,hx,rfl⟩:=List.mem_map.mp hj
  have:=(Array.getElem?_eq_some_iff.mp (mem.mp hx)).1
  show x.1<=mask;rw[I.sz] at this;omega
 ·intro j hj;cases hj
 ·intro j hj;cases hj
 ·show((h8 mask ow).map (·.1)).toArray.size+0<=mask
  have hp:=((List.perm_ext_iff_of_nodup o1 List.nodup_range).mpr o2).length_eq
  simp at hp⊢;omega
 ·intro x hx
  have hx:x∈((((h8 mask ow).map (·.2)).map λk=>hs.toList.getD k 0)).zip ((h8 mask ow).map (·.1)):=hx
  rw[List.map_map,List.zip_map'] at hx;obtain⟨y,hy,rfl⟩:=List.mem_map.mp hx
  have hy':=mem.mp hy
  have lt:=I.lt _ _ hy'
  obtain⟨j,m,e1,e2,e3⟩:=I.ex y.2 (hs.toList[y.2]'lt) (List.getElem?_eq_getElem _)
  have ej:=I.un _ _ _ e1 hy'
  have eg:hs.toList.getD y.2 0=hs.toList[y.2]'lt:=by rw[List.getD,List.getElem?_eq_getElem lt];rfl
  refine⟨m,?_,λm' hm=>.inl ?_⟩
  ·show Jx mask (hs.toList.getD y.2 0) m=y.1
   rw[eg,e2,ej]
  ·show Jx mask (hs.toList.getD y.2 0) m'∈((h8 mask ow).map (·.1))
   rw[eg];exact occ _ (e3 m' hm)
theorem kZ: ∀(fuel s n:Nat),n<s*2^fuel-> ∃e,e<=fuel/\SetTable.sizeAbove.go n fuel s=s*2^e/\n<s*2^e/\(e=0\/s*2^e<=2*n)
 |0,s,n,h=>⟨0,by omega,by simp[SetTable.sizeAbove.go],h,.inl rfl⟩
 |fuel+1,s,n,h=>by
  unfold SetTable.sizeAbove.go
  by_cases c:s<=n
  ·rw[if_pos c]
   obtain⟨e,h1,h2,h3,h4⟩:=kZ fuel (s*2) n (by rw[Nat.pow_succ'] at h;rw[Nat.mul_assoc];exact h)
   refine⟨e+1,by omega,by rw[h2,Nat.pow_succ',Nat.mul_assoc],by rw[Nat.pow_succ',<-Nat.mul_assoc];exact h3,.inr ?_⟩
   rw[Nat.pow_succ',<-Nat.mul_assoc];rcases h4 with rfl|h4
   ·simp;omega
   ·exact h4
  ·rw[if_neg c]
   exact⟨0,by omega,by simp,by simp;omega,.inl rfl⟩
theorem lj {n:Nat}(hn:n<=4095): ∃k,3<=k/\k<=12/\SetTable.sizeAbove n=2^k/\n<2^k:=by
 obtain⟨e,h1,h2,h3,h4⟩:=kZ 64 8 n (Nat.lt_of_le_of_lt hn (by decide))
 have hp:8*2^e=2^(3+e):=by rw[Nat.pow_add]
 refine⟨3+e,by omega,?_,h2.trans hp,by rw[<-hp];exact h3⟩
 rcases h4 with rfl|h4
 ·omega
 ·refine Classical.byContradiction λc=>?_
  have:=Nat.pow_le_pow_right (n:=2) (by omega) (show 13<=3+e by omega)
  rw[<-hp] at this;have:(2:Nat)^13=8192:=by decide
  omega
open PySem PySem.Spec PyProof.Rows
def th(ks:List Int):Int:=reduceHash (Builtin.Tuple.tupleHashOf (ks.map hashInt))
abbrev KI(prog:Program)(w:World):HeapKind prog w (List Int):=tupleKind (intKind prog w)
theorem zC(prog:Program)(w:World)(ks:List Int):(KI prog w).hash ks=th ks:=rfl
def BG(x:List Int×Addr):Int×Value:=(th x.1,.ref x.2)
abbrev lz:=List (List Int×Addr)
def sM(xs:lz):List Int:=xs.map λx=>th x.1
def Bw(prog:Program)(w:World)(h:Heap)(xs:lz):Prop:= ∀x∈xs,(KI prog w).is h x.1 x.2
structure SetAt(w:World)(o:Obj)(es:Array (Int×Value))(ep:Nat)(t:SetTable)(xs:lz):Prop where
 ex:o.ExactSet
 hd:o.data=.set es ep t
 he:es.toList=xs.map BG
 T:TOk t (sM xs)
 led:t.led= !w.params.followText "set-order"
 pl:t.plain=true
 nd:(xs.map (·.1)).Nodup
section
variable {prog:Program}{w:World}{A:Around}{E:Value->Shared->Prop}{s:Shared}{a b:Addr}{o:Obj}{es:Array (Int×Value)}{ep:Nat}{t:SetTable}{xs:lz}{k:List Int}
theorem SetAt.size(S:SetAt w o es ep t xs):es.size=xs.length:=by
 have:=congrArg List.length S.he
 simpa using this
theorem SetAt.fits(S:SetAt w o es ep t xs):t.fits es.size=true:=by
 have h1:=S.T.sz
 have h2:=S.T.fl
 unfold sM at h1;rw[List.length_map] at h1;unfold SetTable.fits;rw[S.size,h1];simp[h2]
theorem SetAt.at_(S:SetAt w o es ep t xs)(i:Nat):es[i]? =(xs[i]?).map BG:=by
 rw[<-Array.getElem?_toList,S.he,List.getElem?_map]
theorem mL {k:List Int}(hk:(KI prog w).is s.heap k b){Q:Bool->Shared->Prop}(h:Q false s):wpAny (model prog w) A (ofAClassStatement 8 (.ref b)) Q E s:=by
 have hT:=IsTupleKey.typeIs (s:=s) hk
 obtain⟨o,items,n,ho,hc,hd,hi⟩:=hk
 unfold ofAClassStatement;refine wpAny_bind (wpAny_typeOf hT ?_)
 dsimp only;rw[if_pos (by decide)]
 refine wpAny_bind (wpAny_pure ?_)
 simp only[Bool.not_true,Bool.false_eq_true,if_false];refine wpAny_bind (wpAny_seqItems ho hd ?_)
 dsimp only;refine wpAny_bind ?_
 rw[<-Array.forIn_toList];refine wpAny_forIn_list _ (λrest r s'=>r.1=none/\s'=s/\ ∀v∈rest,carriedByValue v=true) _ ?_ ?_ _ _ ⟨rfl,rfl,hi.byValue⟩
 ·rintro v rest r s' ⟨hr,rfl,hall⟩
  have hv:=hall v List.mem_cons_self
  have:ofAClassStatement 7 v=pure false:=by
   cases v with
   |ref a=>simp[carriedByValue] at hv
   |_=>rfl
  rw[this];refine wpAny_bind (wpAny_pure ?_)
  simp only[Bool.false_eq_true,if_false];exact wpAny_pure ⟨rfl,rfl,λu hu'=>hall u (List.mem_cons_of_mem _ hu')⟩
 ·rintro⟨r1,r2⟩ s' ⟨hr,rfl,_⟩
  simp only at hr;subst hr;exact wpAny_pure h
theorem qw {k:List Int}(hk:(KI prog w).is s.heap k b){vs:List Value}(hv: ∀v∈vs,∃k' c,v=.ref c/\(KI prog w).is s.heap k' c){Q:Bool->Shared->Prop}(h:Q false s):wpAny (model prog w) A (searchCouldBeSeen (.ref b) vs) Q E s:=by
 unfold searchCouldBeSeen;refine wpAny_bind ?_
 refine wpAny_forIn_list _ (λrest r s'=>r.1=none/\s'=s/\ ∀v∈rest,∃k' c,v=.ref c/\(KI prog w).is s.heap k' c) _ ?_ ?_ _ _ ⟨rfl,rfl,hv⟩
 ·rintro v rest r s' ⟨hr,rfl,hall⟩
  obtain⟨k',c,rfl,hc⟩:=hall v List.mem_cons_self
  dsimp only;split
  ·exact wpAny_pure ⟨rfl,rfl,λu hu'=>hall u (List.mem_cons_of_mem _ hu')⟩
  ·refine wpAny_bind ((KI prog w).quiet hk ?_)
   simp only[Bool.not_true,Bool.false_eq_true,if_false];refine wpAny_bind ((KI prog w).quiet hc ?_)
   simp only[Bool.not_true,Bool.false_eq_true,if_false];refine wpAny_bind (mL hk ?_)
   simp only[Bool.false_eq_true,if_false];refine wpAny_bind (mL hc ?_)
   simp only[Bool.false_eq_true,if_false];exact wpAny_pure ⟨rfl,rfl,λu hu'=>hall u (List.mem_cons_of_mem _ hu')⟩
 ·rintro⟨r1,r2⟩ s' ⟨hr,rfl,_⟩
  simp only at hr;subst hr;exact wpAny_pure h
def HX(es:Array (Int×Value))(i:Nat):Int:=(es[i]?.map (·.1)).getD 0
theorem xI {α:Type}{m:Sem Bool}{U R:Sem α}{c:Bool}{Q:α->Shared->Prop}(hK:wpAny (model prog w) A R Q E s)(hm:wpAny (model prog w) A m (λb s'=>b=false/\s'=s) E s):
 wpAny (model prog w) A (if c=true then(m>>=λx=>if x=true then U else R) else R) Q E s:=by
 split
 ·refine wpAny_bind (wpAny_mono hm (λb s' ⟨h1,h2⟩=>?_) λ_ _ x=>x)
  subst h1 h2;simp only[Bool.false_eq_true,if_false];exact hK
 ·exact hK
theorem mU(ho:s.heap.get? a=some o)(S:SetAt w o es ep t xs)(hE:Bw prog w s.heap xs)(hu:A.units<cLine)(hk:(KI prog w).is s.heap k b)(adding:Bool){M:Nat}(hM:M<=10*(13+t.mask))
 (h1: ¬pr t (Jx t.mask (th k) M)) (h2: ∀m,m<M->pr t (Jx t.mask (th k) m)) {Q:SetFound->Shared->Prop}
 (hyes: ∀(i:Nat) (c:Addr),xs[i]? =some (k,c)->Q (.there (if adding then none else some i)) s)
 (hno:k∉xs.map (·.1)-> ∀(d:Option Nat),GN t (th k) M d->Q (.free (d.getD (Jx t.mask (th k) M)) d.isSome) s):
 ∀(fuel m:Nat) (st:Option Pb) (d:Option Nat),M<m+fuel->m<=M->GN t (th k) M d->st.getD (t.probeStart (th k))=eG t.mask m (qp t.mask (th k) d)->
  (∀(i:Nat) (c:Addr) (j:Nat),xs[i]? =some (k,c)->t.place[i]? =some j-> ∃m0,m<=m0/\m0<M/\Jx t.mask (th k) m0=j)->
  wpAny (model prog w) A (setSearchFrom a (.ref b) (th k) adding fuel st) Q E s
 |0,m,st,d,q1,q2,_,_,_=>absurd q1 (by omega)
 |fuel+1,m,st,d,q1,q2,hd,hst,hin=>by
  have T:=S.T
  have kiu:(KI prog w).room A:=hu
  have hsz: ∀i:Nat,(∃j,t.place[i]? =some j)↔ ∃x,xs[i]? =some x:=λi=>by
   have e1:=T.sz
   unfold sM at e1;rw[List.length_map] at e1;constructor
   ·rintro⟨j,hj⟩
    have:=(Array.getElem?_eq_some_iff.mp hj).1
    exact⟨_,List.getElem?_eq_getElem (show i<xs.length by omega)⟩
   ·rintro⟨x,hx⟩
    have:=(List.getElem?_eq_some_iff.mp hx).1
    exact⟨_,Array.getElem?_eq_getElem (show i<t.place.size by omega)⟩
  unfold setSearchFrom;refine wpAny_bind (wpAny_setState_of ho S.hd S.fits ?_)
  dsimp only;rw[T.noway];simp only[Bool.false_eq_true,if_false];rw[hst];unfold SetTable.probe;obtain⟨r,hr,hc⟩:=n4 T (HX es) h1 h2 (10*SetTable.turns t.mask) m d (by unfold SetTable.turns;omega) q2 hd
  generalize hP:SetTable.probe.go t _ (th k) _ _=P
  obtain rfl:P=some r:=hP.symm.trans hr
  dsimp only;have hat: ∀(i:Nat) (x:List Int×Addr),xs[i]? =some x->HX es i=th x.1:=λi x hx=>by
   unfold HX;rw[S.at_,hx];rfl
  rcases hc with⟨d',rfl,dd,nc⟩|⟨c,i,d',a1,a2,a3,a4,rfl,dd,nc⟩
  ·have nk:k∉xs.map (·.1):=λw=>by
    obtain⟨x,hx,rfl⟩:=List.mem_map.mp w
    obtain⟨i,hi⟩:=List.mem_iff_getElem?.mp hx
    obtain⟨j,hj⟩:=(hsz i).mpr ⟨x,hi⟩
    obtain⟨m0,g1,g2,g3⟩:=hin i x.2 j hi hj
    exact nc m0 g1 g2 i (by rw[g3];exact hj) (hat i x hi)
   have:=hno nk d' dd
   dsimp only;cases d' with
   |none=>exact wpAny_pure this
   |some z=>
    dsimp only;have e:(adding&&t.slot z !=SetTable.Slot.dummy)=false:=by
     rw[oo T (dd z rfl).1];simp
    rw[e];simp only[Bool.false_eq_true,if_false];exact wpAny_pure this
  ·obtain⟨x,hx⟩:=(hsz i).mp ⟨_,a3⟩
   have ex:es[i]? =some (th x.1,.ref x.2):=by rw[S.at_,hx];rfl
   have hxm:=List.mem_of_getElem? hx
   have hxk:=hE x hxm
   dsimp only;refine xI ?_ (qw hk (λv hv=>?_) ⟨rfl,rfl⟩)
   ·rw[ex]
    dsimp only;refine wpAny_bind (wpAny_holding ((KI prog w).eqBool (x:=x.1) (y:=k) kiu hxk hk ?_))
    refine wpAny_bind (wpAny_setState_of ho S.hd S.fits ?_)
    dsimp only;have sm:t.sameMemory t.moves t.mask=some true:=by unfold SetTable.sameMemory;rw[if_pos (beq_self_eq_true _)]
    by_cases ek:x.1=k
    ·rw[decide_eq_true ek]
     have hy:=hyes i x.2 (by rw[hx,<-ek])
     cases adding with
     |true=>simp only[Bool.and_self,if_true];exact wpAny_pure hy
     |false=>
      simp only[Bool.false_and,Bool.false_eq_true,if_false];rw[sm];dsimp only;rw[if_pos rfl,mo T a3];dsimp only;rw[ex];dsimp only;refine wpAny_bind (wpAny_isSame_ref_self ?_)
      simp only[if_true];refine wpAny_bind (wpAny_pure ?_)
      dsimp only;exact wpAny_pure hy
    ·rw[decide_eq_false ek,Bool.and_false]
     simp only[Bool.false_eq_true,if_false];rw[sm];dsimp only;rw[if_pos rfl,mo T a3];dsimp only;rw[ex];dsimp only;refine wpAny_bind (wpAny_isSame_ref_self ?_)
     simp only[if_true];refine wpAny_bind (wpAny_pure ?_)
     dsimp only;refine mU ho S hE hu hk adding hM h1 h2 hyes hno fuel (c+1) _ d' (by omega) (by omega) dd rfl λi' c' j' hi' hj'=>?_
     obtain⟨m0,g1,g2,g3⟩:=hin i' c' j' hi' hj'
     refine⟨m0,?_,g2,g3⟩
     refine Classical.byContradiction λw=>?_
     by_cases e:m0=c
     ·subst e
      have:=T.sp.inj a3 (by rw[g3];exact hj')
      subst this;rw[hx] at hi';cases hi'
      exact ek rfl
     ·exact nc m0 g1 (by omega) i' (by rw[g3];exact hj') (hat i' _ hi')
   ·obtain⟨e,he,rfl⟩:=List.mem_map.mp hv
    have he:e∈es:=(Array.mem_filter.mp (Array.mem_toList_iff.mp he)).1
    have he:e∈xs.map BG:=by rw[<-S.he];exact Array.mem_toList_iff.mpr he
    obtain⟨y,hy,rfl⟩:=List.mem_map.mp he
    exact⟨y.1,y.2,rfl,hE y hy⟩
end
theorem DD(mask:Nat)(p:Pb)(h:p.j+p.more<=mask):(vO mask p).j+(vO mask p).more<=mask:=by
 unfold vO;split
 ·dsimp only;omega
 ·have hi:(SetTable.leap mask p.i p.perturb).1<=mask:=Nat.lt_succ_iff.mp (Nat.mod_lt _ (by omega))
  have:=mF hi
  dsimp only;omega
theorem G1(mask:Nat)(h:Int)(m:Nat):Jx mask h m<=mask:=by
 have: ∀m,(eG mask m (qp mask h none)).j+(eG mask m (qp mask h none)).more<=mask:=λm=>by
  induction m with
  |zero=>
   have hi:SetTable.bits h % (mask+1)<=mask:=Nat.lt_succ_iff.mp (Nat.mod_lt _ (by omega))
   have:=mF hi
   show SetTable.bits h % (mask+1)+(SetTable.runEnd mask (SetTable.bits h % (mask+1)) -SetTable.bits h % (mask+1))<=mask;omega
  |succ m ih=>rw[iF];exact DD mask _ ih
 have:=this m
 unfold Jx;omega
structure SetOk(w:World)(o:Obj)(es:Array (Int×Value))(ep:Nat)(t:SetTable)(xs:lz):Prop extends SetAt w o es ep t xs where
 f5:t.fill*5<t.mask*3
section
variable {prog:Program}{w:World}{A:Around}{E:Value->Shared->Prop}{s:Shared}{a b:Addr}{o:Obj}{es:Array (Int×Value)}{ep:Nat}{t:SetTable}{xs:lz}{k:List Int}
theorem nR(ho:s.heap.get? a=some o)(S:SetAt w o es ep t xs)(hE:Bw prog w s.heap xs)(hu:A.units<cLine)(hk:(KI prog w).is s.heap k b)(adding:Bool){Q:SetFound->Shared->Prop}
 (hyes: ∀(i:Nat) (c:Addr),xs[i]? =some (k,c)->Q (.there (if adding then none else some i)) s)
 (hno:k∉xs.map (·.1)-> ∀(j:Nat) (wd:Bool),j<=t.mask->(wd=true->j∈t.dummies.toList)->(wd=false-> ¬pr t j)->(∃m,Jx t.mask (th k) m=j/\ ∀m',m'<m->pr t (Jx t.mask (th k) m'))->Q (.free j wd) s):
 wpAny (model prog w) A (setSearch a (.ref b) (th k) adding) Q E s:=by
 obtain⟨M,hM,h1,h2⟩:=S.T.first (th k)
 have mk:=S.T.mask
 unfold setSearch;refine mU ho S hE hu hk adding hM h1 h2 hyes (λnk d dd=>?_) 100000 0 none none (by omega) (by omega) (λx hx=>by cases hx) rfl λi c j hi hj=>?_
 ·cases d with
  |none=>exact hno nk _ _ (G1 _ _ _) (λw=>by cases w) (λ_=>h1) ⟨M,rfl,h2⟩
  |some z=>
   obtain⟨z1,m,z2,z3⟩:=dd z rfl
   exact hno nk z true (S.T.ld z z1) (λ_=>z1) (λw=>by cases w) ⟨m,z3,λm' hm=>h2 m' (by omega)⟩
 ·obtain⟨m0,e,q⟩:=S.T.rc (th k,j) (List.mem_iff_getElem?.mpr ⟨i,List.getElem?_zip_eq_some.mpr ⟨by unfold sM;rw[List.getElem?_map,hi];rfl,by rw[Array.getElem?_toList];exact hj⟩⟩)
  refine⟨m0,by omega,?_,e⟩
  have ju:pr t j:=.inl (List.mem_of_getElem? (by rw[Array.getElem?_toList];exact hj))
  rcases Nat.lt_trichotomy m0 M with c|c|c
  ·exact c
  ·subst c;rw[e] at h1;exact absurd ju h1
  ·exact absurd (q M c) h1
theorem nZ(b:Addr)(es:Array (Int×Value)):byScan (.ref b) es=false:=rfl
theorem tK(ho:s.heap.get? a=some o)(S:SetAt w o es ep t xs)(hE:Bw prog w s.heap xs)(hu:A.units<cLine)(hk:(KI prog w).is s.heap k b){Q:Option Nat->Shared->Prop}
 (hyes: ∀(i:Nat) (c:Addr),xs[i]? =some (k,c)->Q (some i) s) (hno:k∉xs.map (·.1)->Q none s):wpAny (model prog w) A (setFind a (.ref b) (th k)) Q E s:=by
 unfold setFind setFindIn;refine wpAny_bind (wpAny_setState_of ho S.hd S.fits ?_)
 dsimp only;rw[nZ];simp only[Bool.false_eq_true,if_false];refine wpAny_bind (nR ho S hE hu hk false (λi c hi=>?_) λnk j wd _ _ _ _=>?_)
 ·exact wpAny_pure (hyes i c hi)
 ·exact wpAny_pure (hno nk)
theorem yy {k:List Int}(hk:(KI prog w).is s.heap k b){Q:Bool->Shared->Prop}(h:Q true s):wpAny (model prog w) A (hashByValue 8 (.ref b)) Q E s:=by
 have hT:=IsTupleKey.typeIs (s:=s) hk
 obtain⟨o,items,n,ho,hc,hd,hi⟩:=hk
 unfold hashByValue;refine wpAny_bind (wpAny_specialOf hT F.slot_tuple_hash.lookup ?_)
 refine wpAny_bind (wpAny_seqItems ho hd ?_)
 dsimp only;refine wpAny_bind ?_
 show wpAny _ _ (forIn items _ _) _ _ _;rw[<-Array.forIn_toList];have hall: ∀v∈items.toList,∃(i:Int) (tk:Tok),v=.int i tk:=by
  intro v hv;clear ho hd hT
  generalize items.toList=l at hi hv
  induction hi with
  |nil=>cases hv
  | @cons k v' ks vs h1 _ ih=>
    rcases List.mem_cons.mp hv with rfl|hv
    ·obtain⟨tk,rfl⟩:=Value.isInt_shape h1;exact⟨_,_,rfl⟩
    ·exact ih hv
 refine wpAny_forIn_list _ (λrest r s'=>r.1=none/\s'=s/\ ∀v∈rest,∃(i:Int) (tk:Tok),v=.int i tk) _ ?_ ?_ _ _ ⟨rfl,rfl,hall⟩
 ·rintro v rest r s' ⟨hr,rfl,hall⟩
  obtain⟨i,tk,rfl⟩:=hall v List.mem_cons_self
  have:hashByValue 7 (.int i tk)=pure true:=rfl
  rw[this];refine wpAny_bind (wpAny_pure ?_)
  simp only[Bool.not_true,Bool.false_eq_true,if_false];exact wpAny_pure ⟨rfl,rfl,λu hu'=>hall u (List.mem_cons_of_mem _ hu')⟩
 ·rintro⟨r1,r2⟩ s' ⟨hr,rfl,_⟩
  simp only at hr;subst hr;exact wpAny_pure h
theorem wU(S:SetAt w o es ep t xs):(es.map (·.1)).toList=sM xs:=by
 rw[Array.toList_map,S.he,List.map_map];rfl
def xa(xs:lz)(ix:List Nat):lz:=ix.map λi=>xs.getD i ([],0)
theorem pZ {xs:lz}{ix:List Nat}(p:ix.Perm (List.range xs.length)):(xa xs ix).Perm xs:=by
 have e:(List.range xs.length).map (λi=>xs.getD i ([],0))=xs:=by
  refine List.ext_getElem (by simp) λi h1 h2=>?_
  simp[List.getD,h2]
 have:=p.map λi=>xs.getD i ([],0)
 rw[e] at this;exact this
theorem w8(S:SetAt w o es ep t xs){wanted:Nat}(hw:wanted<=4095)(hl:xs.length*5<wanted*3): ∃(place order:Array Nat) (mv:Nat),t.relaid (es.map (·.1)) wanted=some (⟨SetTable.sizeAbove wanted-1,place, #[],t.finger,t.led,mv,t.plain⟩,order)/\
 order.toList.Perm (List.range xs.length)/\(∀(o':Obj) (ep':Nat),o'.ExactSet->o'.data=.set (order.filterMap (es[·]?)) ep' ⟨SetTable.sizeAbove wanted-1,place, #[],t.finger,t.led,mv,t.plain⟩->
  SetOk w o' (order.filterMap (es[·]?)) ep' ⟨SetTable.sizeAbove wanted-1,place, #[],t.finger,t.led,mv,t.plain⟩ (xa xs order.toList))/\(order.filterMap (es[·]?)).size=es.size:=by
 obtain⟨q,h3,h12,e,hlt⟩:=lj hw
 have sz:(es.map (·.1)).size=xs.length:=by rw[Array.size_map,S.size]
 have hk:SetTable.sizeAbove wanted-1+1=2^q:=by rw[e];omega
 obtain⟨place,order,g1,g2,g3⟩:=Cy h3 h12 hk t.finger (t.movedTo (SetTable.sizeAbove wanted-1)) t.led t.plain (es.map (·.1)) (by rw[sz,e];omega)
 rw[sz] at g2;have lt: ∀i∈order.toList,i<xs.length:=λi hi=>List.mem_range.mp (g2.mem_iff.mp hi)
 have el:(order.filterMap (es[·]?)).toList=(xa xs order.toList).map BG:=by
  rw[Array.toList_filterMap];unfold xa;rw[List.map_map];have key: ∀l:List Nat,(∀i∈l,i<xs.length)->l.filterMap (λi=>es[i]?)=l.map (BG∘λi=>xs.getD i ([],0)):=by
   intro l
   induction l with
   |nil=>intro _;rfl
   |cons i l ih=>
    intro hl;have h1:=hl i List.mem_cons_self
    have e1:es[i]? =some (BG (xs.getD i ([],0))):=by
     rw[S.at_,List.getElem?_eq_getElem h1];simp[List.getD,h1]
    rw[List.filterMap_cons,e1,List.map_cons,ih λj hj=>hl j (List.mem_cons_of_mem _ hj)]
    rfl
  exact key _ lt
 have et:sM (xa xs order.toList)=order.toList.map λk=>(es.map (·.1)).toList.getD k 0:=by
  unfold sM xa;rw[List.map_map];refine List.map_congr_left λi hi=>?_
  have:=lt i hi
  rw[wU S];show th (xs.getD i ([],0)).1=(sM xs).getD i 0;unfold sM;simp[List.getD,this]
 have pp:=pZ g2
 refine⟨place,order,_,g1,g2,λo' ep' hex hd=>?_,?_⟩
 ·refine⟨⟨hex,hd,el,by rw[et];exact g3,S.led,S.pl,?_⟩,?_⟩
  ·exact((pp.map (·.1)).nodup_iff).mpr S.nd
  ·have z:=g3.sz
   rw[List.length_map,g2.length_eq,List.length_range] at z;show(place.size+0)*5<(SetTable.sizeAbove wanted-1)*3;have z:place.size=xs.length:=z
   rw[z,e];omega
 ·rw[<-Array.length_toList,el,List.length_map,pp.length_eq,S.size]
theorem AR(ho:s.heap.get? a=some o)(S:SetAt w o es ep t xs){wanted:Nat}(hw:wanted<=4095)(hl:xs.length*5<wanted*3){Q:Unit->Shared->Prop}
 (h: ∀h' o' es' ep' t' xs',Heap.SameBut a s.heap h'->h'.get? a=some o'->SetOk w o' es' ep' t' xs'->xs'.Perm xs->Q () {s with heap:=h'}):wpAny (model prog w) A (setRelay a wanted) Q E s:=by
 obtain⟨place,order,mv,g1,g2,g3,g4⟩:=w8 S hw hl
 obtain⟨q,h3,h12,e,hlt⟩:=lj hw
 have e0:setRelay a wanted=(do
  let(es,_,t) <-setState a
  if SetTable.sizeAbove wanted>sizeLine then unsupported "set:memory"
  let(es,t) <-(do
   let some (t,order):=t.relaid (es.map (·.1)) wanted|unsupported "internal:set-table-without-room"
   let es':=order.filterMap (es[·]?)
   if es'.size !=es.size then unsupported "internal:set-table-lost-an-element"
   pure (es',t):Sem (Array (Int×Value)×SetTable))
  storeSet a es t):=rfl
 rw[e0];refine wpAny_bind (wpAny_setState_of ho S.hd S.fits ?_)
 dsimp only;have p12:2^q<=2^12:=Nat.pow_le_pow_right (by omega) h12
 rw[if_neg (by rw[e,sizeLine_eq];have:(2:Nat)^12=4096:=by decide
               omega),g1]
 dsimp only;rw[g4,bne_self_eq_false];simp only[Bool.false_eq_true,if_false];refine wpAny_bind (wpAny_pure ?_)
 dsimp only;have sl:(order.filterMap (es[·]?)).size<=sizeLine:=by
  rw[g4,S.size,sizeLine_eq];omega
 refine wpAny_storeSet_of ho S.hd ?_ sl
 have hg:=Heap.get?_update_self (Obj.putSet (order.filterMap (es[·]?)) ⟨SetTable.sizeAbove wanted-1,place, #[],t.finger,t.led,mv,t.plain⟩) ho (by rw[putSet_of _ _ S.hd];rfl)
 rw[putSet_of _ _ S.hd] at hg;exact h _ _ _ _ _ _ (Heap.SameBut.update s.heap a _) hg (g3 _ _ S.ex rfl) (pZ g2)
end
theorem AC {t:SetTable}{hs:List Int}(T:TOk t hs){j:Nat}(wd:Bool)(h1:wd=true->j∈t.dummies.toList)(h2:wd=false-> ¬pr t j):(t.put j).1.fill=if wd then t.fill else t.fill+1:=by
 have e1:(SetTable.insertAt t.place (SetTable.below t.place j) j).size=t.place.size+1:=by
  have:=congrArg List.length (SetTable.toList_insertAt t.place (SetTable.below t.place j) j)
  rw[Array.length_toList] at this;rw[this];have b:=(Gu T.sp j).le
  simp;omega
 show(SetTable.insertAt t.place (SetTable.below t.place j) j).size+(if SetTable.has t.dummies j=true then SetTable.eraseAt t.dummies (SetTable.below t.dummies j) else t.dummies).size=_
 rw[e1];unfold SetTable.fill;cases wd with
 |true=>
  have hm:=h1 rfl
  obtain⟨i,hi⟩:=List.mem_iff_getElem?.mp hm
  rw[Array.getElem?_toList] at hi;have lt:=(Array.getElem?_eq_some_iff.mp hi).1
  have e2:(SetTable.eraseAt t.dummies (SetTable.below t.dummies j)).size=t.dummies.size-1:=by
   rw[<-Array.length_toList,fK,List.length_eraseIdx,qv T.sd hi,if_pos (by rw[Array.length_toList];exact lt),Array.length_toList]
  rw[if_pos ((jG T.sd j).mpr hm),if_pos rfl,e2];omega
 |false=>
  have hn:=h2 rfl
  rw[if_neg λw=>hn (.inr ((jG T.sd j).mp w)),if_neg (by decide)];omega
theorem oj {α β:Type}(f:α->β): ∀(l:List α) (i:Nat),(l.map f).eraseIdx i=(l.eraseIdx i).map f
 | [],_=>rfl
 |_::_,0=>rfl
 |a::l,i+1=>by rw[List.map_cons,List.eraseIdx_cons_succ,List.eraseIdx_cons_succ,List.map_cons,oj f l i]
section
variable {prog:Program}{w:World}{A:Around}{E:Value->Shared->Prop}{s:Shared}{a b:Addr}{o:Obj}{es:Array (Int×Value)}{ep:Nat}{t:SetTable}{xs:lz}{k:List Int}
theorem zW {α:Type}(l:List α)(p:Nat)(x:α):(fR l p x).Perm (l++[x]):=by
 unfold fR;refine List.perm_middle.trans ?_
 rw[List.take_append_drop];exact(List.perm_append_singleton x l).symm
theorem Be(ho:s.heap.get? a=some o)(S:SetOk w o es ep t xs)(hE:Bw prog w s.heap xs)(hu:A.units<cLine)(hk:(KI prog w).is s.heap k b)(hlen:xs.length<=1000){Q:Bool->Shared->Prop}
 (hyes:k∈xs.map (·.1)->Q false s)
 (hno:k∉xs.map (·.1)-> ∀h' o' es' ep' t' xs',Heap.SameBut a s.heap h'->h'.get? a=some o'->SetOk w o' es' ep' t' xs'->xs'.Perm (xs++[(k,b)])->Q true {s with heap:=h'}):
 wpAny (model prog w) A (setAddHashed a (.ref b) (th k)) Q E s:=by
 have S':=S.toSetAt
 unfold setAddHashed setAddHashedIn;refine wpAny_holding (wpAny_bind (wpAny_setState_of ho S.hd S'.fits ?_))
 dsimp only;rw[nZ];simp only[Bool.false_eq_true,if_false];refine wpAny_bind (nR ho S' hE hu hk true (λi c hi=>?_) λnk j wd hj hd1 hd2 hrc=>?_)
 ·exact wpAny_pure (hyes (List.mem_map.mpr ⟨(k,c),List.mem_of_getElem? hi,rfl⟩))
 ·dsimp only
  refine wpAny_bind (wpAny_setState_of ho S.hd S'.fits ?_)
  dsimp only;have T:=S.T
  have nj:j∉t.place.toList:=λw=>by
   cases wd with
   |true=>exact T.dj j (hd1 rfl) w
   |false=>exact hd2 rfl (.inl w)
  have fp:=AC T wd hd1 hd2
  have f5:=S.f5
  obtain⟨q,q3,q12,qe⟩:=T.pw
  have p3:2^3<=2^q:=Nat.pow_le_pow_right (by omega) q3
  have fl:(t.put j).1.fill<=t.mask:=by rw[fp];split<;>omega
  have T2:=T.put hj nj hrc fl
  have pl:(t.put j).1.plain=true:=S.pl
  have hsz:=S'.size
  have el:(SetTable.insertAt es (t.put j).2 (th k,Value.ref b)).toList=(fR xs (t.put j).2 (k,b)).map BG:=by
   rw[SetTable.toList_insertAt,S.he];unfold fR;rw[List.map_append,List.map_cons,List.map_take,List.map_drop];rfl
  have et:sM (fR xs (t.put j).2 (k,b))=fR (sM xs) (t.put j).2 (th k):=by
   unfold sM fR;rw[List.map_append,List.map_cons,List.map_take,List.map_drop]
  have pp:=zW xs (t.put j).2 (k,b)
  have nd2:((fR xs (t.put j).2 (k,b)).map (·.1)).Nodup:=by
   refine((pp.map (·.1)).nodup_iff).mpr ?_
   rw[List.map_append,List.nodup_append];exact⟨S.nd,by simp,λx hx y hy=>by
    simp only[List.map_cons,List.map_nil,List.mem_singleton] at hy;subst hy;exact λe=>nk (e▸hx)⟩
  have sz2:(SetTable.insertAt es (t.put j).2 (th k,Value.ref b)).size=xs.length+1:=by
   rw[<-Array.length_toList,el,List.length_map,pp.length_eq];simp
  have S2: ∀(o':Obj) (ep':Nat),o'.ExactSet->o'.data=.set (SetTable.insertAt es (t.put j).2 (th k,Value.ref b)) ep' (t.put j).1->SetAt w o' (SetTable.insertAt es (t.put j).2 (th k,Value.ref b)) ep' (t.put j).1 (fR xs (t.put j).2 (k,b)):=
   λo' ep' hex hd=>⟨hex,hd,el,by rw[et];exact T2,S.led,pl,nd2⟩
  have hg:=Heap.get?_update_self (Obj.putSet (SetTable.insertAt es (t.put j).2 (th k,Value.ref b)) (t.put j).1) ho (by rw[putSet_of _ _ S.hd];rfl)
  rw[putSet_of _ _ S.hd] at hg;rw[pl];simp only[if_true];refine wpAny_bind (yy hk ?_)
  simp only[if_true];refine wpAny_bind (wpAny_storeSet_of ho S.hd ?_ (by rw[sz2,sizeLine_eq];omega))
  have hb:=Heap.SameBut.update s.heap a (Obj.putSet (SetTable.insertAt es (t.put j).2 (th k,Value.ref b)) (t.put j).1)
  split
  ·rename_i hc
   rw[Bool.and_eq_true] at hc;refine wpAny_bind (AR (s:={s with heap:=s.heap.update a (Obj.putSet (SetTable.insertAt es (t.put j).2 (th k,Value.ref b)) (t.put j).1)}) hg (S2 _ _ S.ex rfl) ?_ ?_ λh' o' es' ep' t' xs' g1 g2 g3 g4=>?_)
   ·rw[hsz];unfold SetTable.grown;split<;>omega
   ·rw[hsz,pp.length_eq];unfold SetTable.grown
    rw[List.length_append,List.length_singleton];split<;>omega
   ·exact wpAny_pure (hno nk h' o' es' ep' t' xs' (hb.trans g1) g2 g3 (g4.trans pp))
  ·rename_i hc
   refine wpAny_pure (hno nk _ _ _ _ _ _ hb hg ⟨S2 _ _ S.ex rfl,?_⟩ pp)
   show(t.put j).1.fill*5<t.mask*3;rw[fp];cases wd with
   |true=>exact f5
   |false=>
    have hc: ¬(t.put j).1.tooFull=true:=λw=>hc (by rw[w];rfl)
    unfold SetTable.tooFull at hc;rw[decide_eq_true_eq,fp] at hc;have:(t.put j).1.mask=t.mask:=rfl
    rw[this] at hc;simp only[Bool.false_eq_true,if_false] at hc⊢;omega
theorem su(ho:s.heap.get? a=some o)(S:SetOk w o es ep t xs)(hE:Bw prog w s.heap xs)(hu:A.units<cLine)(hk:(KI prog w).is s.heap k b)(hlen:xs.length<=1000){Q:Bool->Shared->Prop}
 (hno:k∉xs.map (·.1)->Q false s)
 (hyes:k∈xs.map (·.1)-> ∀h' o' es' ep' t' xs',Heap.SameBut a s.heap h'->h'.get? a=some o'->SetOk w o' es' ep' t' xs'->(∃i c,xs[i]? =some (k,c)/\xs'=xs.eraseIdx i)->Q true {s with heap:=h'}):
 wpAny (model prog w) A (setDiscardHashed a (.ref b) (th k)) Q E s:=by
 have S':=S.toSetAt
 unfold setDiscardHashed;refine wpAny_bind (tK ho S' hE hu hk (λi c hi=>?_) λnk=>?_)
 ·dsimp only
  refine wpAny_bind (wpAny_setState_of ho S.hd S'.fits ?_)
  dsimp only;have T:=S.T
  have zz:=T.sz
  unfold sM at zz;rw[List.length_map] at zz;have il:=(List.getElem?_eq_some_iff.mp hi).1
  have hp:t.place[i]? =some (t.place[i]'(by omega)):=Array.getElem?_eq_getElem (by omega)
  have T2:=T.drop hp
  have el:(SetTable.eraseAt es i).toList=(xs.eraseIdx i).map BG:=by
   rw[fK,S.he,oj]
  have et:sM (xs.eraseIdx i)=(sM xs).eraseIdx i:=by unfold sM;rw[oj]
  have sz2:(SetTable.eraseAt es i).size<=1000:=by
   rw[<-Array.length_toList,el,List.length_map];exact Nat.le_trans (List.length_eraseIdx_le _ _) hlen
  have hg:=Heap.get?_update_self (Obj.putSet (SetTable.eraseAt es i) (t.drop i)) ho (by rw[putSet_of _ _ S.hd];rfl)
  rw[putSet_of _ _ S.hd] at hg;have ed:t.drop i={t with place:=SetTable.eraseAt t.place i,dummies:=SetTable.insertAt t.dummies (SetTable.below t.dummies (t.place[i]'(by omega))) (t.place[i]'(by omega))}:=by
   unfold SetTable.drop;rw[hp]
  refine wpAny_bind (wpAny_storeSet_of ho S.hd ?_ (by rw[sizeLine_eq];omega))
  refine wpAny_bind (wpAny_point ?_)
  refine wpAny_pure (hyes (List.mem_map.mpr ⟨(k,c),List.mem_of_getElem? hi,rfl⟩) _ _ _ _ _ (xs.eraseIdx i) (Heap.SameBut.update s.heap a _) hg ⟨⟨S.ex,rfl,el,by rw[et];exact T2,by rw[ed];exact S.led,by rw[ed];exact S.pl,?_⟩,?_⟩ ⟨i,c,hi,rfl⟩)
  ·rw[<-oj]
   exact List.Nodup.sublist (List.eraseIdx_sublist _ _) S.nd
  ·have f5:=S.f5
   have ff:(t.drop i).fill=t.fill:=by
    rw[ed];show(SetTable.eraseAt t.place i).size+(SetTable.insertAt t.dummies _ _).size=t.place.size+t.dummies.size;rw[<-Array.length_toList,fK,List.length_eraseIdx,<-Array.length_toList (xs:=SetTable.insertAt _ _ _),SetTable.toList_insertAt,if_pos (by rw[Array.length_toList];omega)]
    have b:=(Gu T.sd (t.place[i]'(by omega))).le
    simp;omega
   rw[ff,ed];exact f5
 ·exact wpAny_pure (hno nk)
end
abbrev bQ:=Sum Int Str
def pK:bQ->Value->Bool
 | .inl k,v=>Value.isInt k v
 | .inr x,v=>Value.isStrOf x v
def Ih(w:World):bQ->Int
 | .inl k=>hashInt k
 | .inr x=>hashStr w x
theorem cc: ∀ {k:bQ} {v:Value},pK k v=true->(∃i t,k=Sum.inl i/\v=Value.int i t)\/(∃x t,k=Sum.inr x/\v=Value.str x t)
 | .inl i,v,h=>by
   obtain⟨t,e⟩:=Value.isInt_shape (k:=i) (v:=v) h
   exact .inl ⟨i,t,rfl,e⟩
 | .inr x,v,h=>by
   obtain⟨t,e⟩:=Value.isStrOf_shape (x:=x) (v:=v) h
   exact .inr ⟨x,t,rfl,e⟩
theorem xc(i:Int)(t:Tok):pK (.inl i) (.int i t)=true:=by simp[pK,Value.isInt]
theorem xp(x:Str)(t:Tok):pK (.inr x) (.str x t)=true:=by simp[pK,Value.isStrOf]
theorem EE(a b:Int):decide ((Sum.inl a:bQ)=Sum.inl b)=(a==b):=by
 by_cases e:a=b
 ·subst e;simp
 ·have h: ¬(Sum.inl a:bQ)=Sum.inl b:=λq=>e (Sum.inl.inj q)
  rw[decide_eq_false h];exact(beq_eq_false_iff_ne.mpr e).symm
theorem EM(a b:Str):decide ((Sum.inr a:bQ)=Sum.inr b)=decide (a=b):=by
 by_cases e:a=b
 ·subst e;simp
 ·have h: ¬(Sum.inr a:bQ)=Sum.inr b:=λq=>e (Sum.inr.inj q)
  rw[decide_eq_false h,decide_eq_false e]
theorem Ej(a:Int)(b:Str):decide ((Sum.inl a:bQ)=Sum.inr b)=false:=decide_eq_false (λq=>nomatch q)
theorem Eu(a:Str)(b:Int):decide ((Sum.inr a:bQ)=Sum.inl b)=false:=decide_eq_false (λq=>nomatch q)
def ce(prog:Program)(w:World):PySem.KeyKind prog w bQ where
 is:=pK
 hash:=Ih w
 inj:=λv a b ha hb=>by
  rcases cc ha with⟨i,t,rfl,rfl⟩|⟨x,t,rfl,rfl⟩
  ·rcases cc hb with⟨j,u,rfl,e⟩|⟨y,u,rfl,e⟩
   ·injection e with e1 _;rw[e1]
   ·exact nomatch e
  ·rcases cc hb with⟨j,u,rfl,e⟩|⟨y,u,rfl,e⟩
   ·exact nomatch e
   ·injection e with e1 _;rw[e1]
 byValue:=λk v h=>by
  rcases cc h with⟨i,t,rfl,rfl⟩|⟨x,t,rfl,rfl⟩<;>rfl
 pyHash:=λhv h=>by
  rcases cc hv with⟨i,t,rfl,rfl⟩|⟨x,t,rfl,rfl⟩
  ·exact wpAny_pyHash_int h
  ·exact wpAny_pyHash_str h
 eqBool:=λhu hv h=>by
  rcases cc hu with⟨i,t,rfl,rfl⟩|⟨x,t,rfl,rfl⟩
  ·rcases cc hv with⟨j,u,rfl,rfl⟩|⟨y,u,rfl,rfl⟩
   ·rw[EE] at h;exact wpAny_eqBool_int h
   ·rw[Ej] at h;exact SeqAt.EqAt.int_str i t y u _ _ _ _ h
  ·rcases cc hv with⟨j,u,rfl,rfl⟩|⟨y,u,rfl,rfl⟩
   ·rw[Eu] at h;exact SeqAt.EqAt.str_int x t j u _ _ _ _ h
   ·rw[EM] at h;exact wpAny_eqBool_str h
 «strs»:=λk x t v h=>by
  rcases cc h with⟨i,u,rfl,e⟩|⟨y,u,rfl,e⟩
  ·exact nomatch e
  ·injection e with e1 _
   subst e1;cases v<;>rfl
theorem rW(prog:Program)(w:World)(i:Int)(t:Tok):(ce prog w).is (.inl i) (.int i t)=true:=xc i t
theorem tD(prog:Program)(w:World)(x:Str)(t:Tok):(ce prog w).is (.inr x) (.str x t)=true:=xp x t
inductive V where
 |non|bl (b:Bool)|int (i:Int)|str (x:Str)|byt (b:Array UInt8)|flt (b:UInt64)|ref (a:Addr)|ty (n:String)
 deriving DecidableEq
def RelV:V->Value->Prop
 | .non,u=>u=Value.none
 | .bl b,u=>u=Value.bool b
 | .int i,u=> ∃t,u=Value.int i t
 | .str x,u=> ∃t,u=Value.str x t
 | .byt b,u=> ∃t,u=Value.bytes b t
 | .flt b,u=> ∃t,u=Value.float b t
 | .ref a,u=>u=Value.ref a
 | .ty n,u=>u=Value.type n
abbrev Vals:List V->List Value->Prop:=Paired RelV
theorem Vals.length {xs:List V}{us:List Value}(r:Vals xs us):xs.length=us.length:=Paired.length r
theorem Vals.get: ∀ {xs:List V} {us:List Value} {i:Nat} {x:V},Vals xs us->xs[i]? =some x-> ∃u,us[i]? =some u/\RelV x u
 |_,_,_,_,.nil,e=>by simp at e
 |_,_,0,_,.cons r _,e=>by simp at e;subst e;exact⟨_,rfl,r⟩
 |_,_,i+1,x,.cons _ t,e=>by
  obtain⟨u,h1,h2⟩:=Vals.get (i:=i) (x:=x) t (by simpa using e)
  exact⟨u,by simpa using h1,h2⟩
theorem Vals.set {x:V}{u:Value}(r:RelV x u): ∀ {xs:List V} {us:List Value} (i:Nat),Vals xs us->Vals (xs.set i x) (us.set i u)
 |_,_,_,.nil=>.nil
 |_,_,0,.cons _ t=>.cons r t
 |_,_,i+1,.cons q t=>.cons q (Vals.set r i t)
theorem Vals.append: ∀ {xs ys:List V} {us ws:List Value},Vals xs us->Vals ys ws->Vals (xs++ys) (us++ws)
 |_,_,_,_,.nil,s=>s
 |_,_,_,_,.cons r t,s=>.cons r (Vals.append t s)
theorem Vals.take: ∀ {xs:List V} {us:List Value} (n:Nat),Vals xs us->Vals (xs.take n) (us.take n)
 |_,_,0,_=>.nil
 |_,_,_+1,.nil=>.nil
 |_,_,n+1,.cons r t=>.cons r (Vals.take n t)
theorem Vals.drop: ∀ {xs:List V} {us:List Value} (n:Nat),Vals xs us->Vals (xs.drop n) (us.drop n)
 |_,_,0,r=>r
 |_,_,_+1,.nil=>.nil
 |_,_,n+1,.cons _ t=>Vals.drop n t
def RelO:Option V->Option Value->Prop
 |some v,some u=>RelV v u
 |none,none=>True
 |_,_=>False
def KV {κ:Type}:List (κ×V)->List (κ×Value)->Prop:=Paired λ(p:κ×V) (q:κ×Value)=>p.1=q.1/\RelV p.2 q.2
def kV:bQ->V
 | .inl i=>.int i
 | .inr x=>.str x
inductive HO where
 |lst (xs:List V)
 |tup (xs:List V)
 |dK (kvs:List (bQ×V))|dT (kvs:List (List bQ×V))
 |set (S:Int->Bool) (n:Nat)
 |tst (xs:List (List Int×Addr))
 |ins (C dx:Addr) (fs:List (Str×V))
 |own (x:Addr)
 |xd (fs:List (Str×V))
 |met (f x:Addr)
 |rng (lo hi:Int)
 |frz (o:Obj) (u:HO)
 |tbl (ps:Array Value)
 |ext (φ:Heap->Prop)
abbrev Hp:=Addr->Option HO
def bM(H:Hp)(a:Addr)(o:HO):Hp:=λb=>if b=a then some o else H b
theorem aK {H:Hp}{a:Addr}{o:HO}:bM H a o a=some o:=by unfold bM;rw[if_pos rfl]
theorem aH {H:Hp}{a b:Addr}{o:HO}(h:b≠a):bM H a o b=H b:=by unfold bM;rw[if_neg h]
theorem FI {H:Hp}{a b:Addr}{o u:HO}(h:H a=some o)(h':H b=some u)(d:o≠u):a≠b:=by
 intro e;subst e;rw[h] at h';exact d (Option.some.inj h')
theorem bd {H:Hp}{a b:Addr}{o:HO}(h:H a=some o)(h':H b=none):a≠b:=by
 intro e;subst e;rw[h] at h';cases h'
section
variable(P:Program)(w:World)
def ObjOk(H:Hp)(h:Heap)(a:Addr):HO->Prop
 | .lst xs=>xs.length<=sizeLine/\ ∃(its:List Value) (n:Nat),Vals xs its/\h.get? a=some {cls:=.type "list",data:=.seq its.toArray n}
 | .tup xs=>xs.length<=sizeLine/\ ∃its:List Value,Vals xs its/\IsTup h a its.toArray/\ ∃o,h.get? a=some o/\o.dict=none
 | .dK kvs=>kvs.length<=sizeLine/\(a==sysModules)=false/\ ∃vs,KV kvs vs/\h.DictOf (ce P w) a vs
 | .dT kvs=>kvs.length<=sizeLine/\(a==sysModules)=false/\ ∃xs:List (List bQ×Addr×Value),
    Paired (λ(p:List bQ×V) (q:List bQ×Addr×Value)=>p.1=q.1/\H q.2.1=some (.tup (p.1.map kV))/\RelV p.2 q.2.2) kvs xs/\
    ∃o es ep,h.get? a=some o/\o.ExactDict/\o.data=.dict es ep/\es.toList=xs.map (entryOfKey (tupleKind (ce P w)))/\(xs.map (·.1)).Nodup
 | .set S n=>h.SetOf (intKind P w) a S n
 | .tst xs=> ∃o es ep t,h.get? a=some o/\SetOk w o es ep t xs
 | .ins C dx fs=>H dx=some (.own a)/\fs.length<=1000/\dx≠a/\h.get? a=some (W.instObj C dx)/\
    ∃mA,h.Ns1 dx mA/\(∀f,RelO (fs.lookup f) (mA f))/\PySem.Within mA (fs.map (·.1))
 | .own _=> ∃o,h.get? a=some o
 | .xd fs=> ∃mA,h.Ns1 a mA/\ ∀f,RelO (fs.lookup f) (mA f)
 | .rng lo hi=> ∃t u v,h.get? a=some {cls:=.type "range",data:=.fields #[.int lo t,.int hi u,.int 1 v]}
 | .frz o u=>h.get? a=some o/\ObjOk H h a u
 | .tbl ps=>h.get? a=some {cls:=.none,data:=.fields ps}
 | .met f x=>h.get? a=some (W.methodObj (.ref f) (.ref x))
 | .ext φ=>φ h/\(∃o,h.get? a=some o)/\ ∀h1 h2:Heap,φ h1->(∀o,h1.get? a=some o->h2.get? a=some o)->φ h2
def HOk(H:Hp)(h:Heap):Prop:= ∀a o,H a=some o->ObjOk P w H h a o
end
section
variable {P:Program}{w:World}{H H':Hp}{h h':Heap}{a:Addr}{o:HO}
theorem ObjOk.lt(x:ObjOk P w H h a o):a<h.objs.size:=by
 cases o with
 |lst xs=>obtain⟨_,_,_,_,e⟩:=x;exact Heap.lt_size e
 |tup xs=>obtain⟨_,_,_,p,_⟩:=x;exact p.lt
 |dK kvs=>obtain⟨_,_,_,_,o,_,_,e,_⟩:=x;exact Heap.lt_size e
 |dT kvs=>obtain⟨_,_,_,_,o,_,_,e,_⟩:=x;exact Heap.lt_size e
 |set S n=>obtain⟨o,_,_,_,e,_⟩:=x;exact Heap.lt_size e
 |tst xs=>obtain⟨o,_,_,_,e,_⟩:=x;exact Heap.lt_size e
 |ins C dx fs=>obtain⟨_,_,_,e,_⟩:=x;exact Heap.lt_size e
 |own y=>obtain⟨_,e⟩:=x;exact Heap.lt_size e
 |xd fs=>obtain⟨_,⟨_,_,_,e,_⟩,_⟩:=x;exact Heap.lt_size e
 |rng lo hi=>obtain⟨_,_,_,e⟩:=x;exact Heap.lt_size e
 |frz ob u=>obtain⟨e,_⟩:=x;exact Heap.lt_size e
 |tbl ps=>exact Heap.lt_size (show h.get? a=some _ from x)
 |met f y=>exact Heap.lt_size (show h.get? a=some _ from x)
 |ext φ=>obtain⟨_,⟨_,e⟩,_⟩:=x;exact Heap.lt_size e
theorem Paired.mapP {α β:Type}{F G:α->β->Prop}: ∀ {l₁:List α} {l₂:List β},Paired F l₁ l₂->(∀a b,F a b->G a b)->Paired G l₁ l₂
 |_,_,.nil,_=>.nil
 |_,_,.cons r t,f=>.cons (f _ _ r) (Paired.mapP t f)
theorem ObjOk.stay(x:ObjOk P w H h a o)(k: ∀b u,(b=a\/H b=some (.own a))->h.get? b=some u->h'.get? b=some u)
 (ho: ∀b,H b=some (.own a)->H' b=some (.own a)) (ht: ∀b xs,H b=some (.tup xs)->H' b=some (.tup xs)):ObjOk P w H' h' a o:=by
 induction o with
 |lst xs=>obtain⟨z,its,n,r,e⟩:=x;exact⟨z,its,n,r,k _ _ (.inl rfl) e⟩
 |tup xs=>obtain⟨z,its,r,⟨ob,e,c⟩,ob2,e2,c2⟩:=x;exact⟨z,its,r,⟨ob,k _ _ (.inl rfl) e,c⟩,ob2,k _ _ (.inl rfl) e2,c2⟩
 |dK kvs=>obtain⟨z,y,vs,r,ob,es,ep,e,c⟩:=x;exact⟨z,y,vs,r,ob,es,ep,k _ _ (.inl rfl) e,c⟩
 |dT kvs=>
  obtain⟨z,y,xs,r,ob,es,ep,e,c⟩:=x
  exact⟨z,y,xs,Paired.mapP r λp q z=>⟨z.1,ht _ _ z.2.1,z.2.2⟩,ob,es,ep,k _ _ (.inl rfl) e,c⟩
 |set S n=>obtain⟨ob,es,ep,t,e,c⟩:=x;exact⟨ob,es,ep,t,k _ _ (.inl rfl) e,c⟩
 |tst xs=>obtain⟨ob,es,ep,t,e,c⟩:=x;exact⟨ob,es,ep,t,k _ _ (.inl rfl) e,c⟩
 |ins C dx fs=>
  obtain⟨d,z,ne,e,mA,⟨od,es,ep,e2,c⟩,r⟩:=x
  exact⟨ho _ d,z,ne,k _ _ (.inl rfl) e,mA,⟨od,es,ep,k _ _ (.inr d) e2,c⟩,r⟩
 |own y=>obtain⟨ob,e⟩:=x;exact⟨ob,k _ _ (.inl rfl) e⟩
 |xd fs=>obtain⟨mA,⟨od,es,ep,e,c⟩,r⟩:=x;exact⟨mA,⟨od,es,ep,k _ _ (.inl rfl) e,c⟩,r⟩
 |rng lo hi=>obtain⟨t,u,v,e⟩:=x;exact⟨t,u,v,k _ _ (.inl rfl) e⟩
 |frz ob u ih=>obtain⟨e,q⟩:=x;exact⟨k _ _ (.inl rfl) e,ih q⟩
 |tbl ps=>
  have e:h.get? a=some {cls:=.none,data:=.fields ps}:=x
  show h'.get? a=some {cls:=.none,data:=.fields ps};exact k a _ (.inl rfl) e
 |met f y=>
  have e:h.get? a=some (W.methodObj (.ref f) (.ref y)):=x
  show h'.get? a=some (W.methodObj (.ref f) (.ref y));exact k a _ (.inl rfl) e
 |ext φ=>obtain⟨p,⟨o,e⟩,st⟩:=x;exact⟨st _ _ p λo q=>k _ _ (.inl rfl) q,⟨o,k _ _ (.inl rfl) e⟩,st⟩
theorem HOk.lt(x:HOk P w H h)(e:H a=some o):a<h.objs.size:=(x a o e).lt
theorem HOk.fresh(x:HOk P w H h)(e:h.objs.size<=a):H a=none:=by
 cases q:H a with
 |none=>rfl
 |some u=>exact absurd (Nat.lt_of_lt_of_le (x.lt q) e) (Nat.lt_irrefl _)
theorem HOk.kept(x:HOk P w H h)(k: ∀b u,h.get? b=some u->h'.get? b=some u):HOk P w H h':=λa o e=>
 (x a o e).stay (λb u _ q=>k b u q) (λ_ q=>q) λ_ _ q=>q
theorem HOk.laid(x:HOk P w H h)(k: ∀b u,h.get? b=some u->h'.get? b=some u)(hp:h.objs.size<=a)(new:ObjOk P w (bM H a o) h' a o):HOk P w (bM H a o) h':=λb u e=>by
 have hn:=x.fresh hp
 by_cases hb:b=a
 ·subst hb;rw[aK] at e;cases e;exact new
 ·rw[aH hb] at e
  exact(x b u e).stay (λc v _ q=>k c v q) (λc q=>by rw[aH (bd q hn)];exact q) λc xs q=>by rw[aH (bd q hn)];exact q
end
def Rd(H:Hp)(a:Addr)(u:HO):Prop:=H a=some u\/ ∃o,H a=some (.frz o u)
theorem Rd.ok {P:Program}{w:World}{H:Hp}{h:Heap}{a:Addr}{u:HO}(r:Rd H a u)(x:HOk P w H h):ObjOk P w H h a u:=by
 rcases r with r|⟨o,r⟩
 ·exact x a u r
 ·obtain⟨_,q⟩:=x a _ r
  exact q
def GV:Option HO->Prop
 |some (.lst _)=>True
 |some (.dK _)=>True
 |some (.dT _)=>True
 |some (.set _ _)=>True
 |some (.tst _)=>True
 |some (.ins _ _ _)=>True
 |some (.ext _)=>True
 |_=>False
section
variable {P:Program}{w:World}{H:Hp}{h h':Heap}{x e:Addr}{o':HO}
theorem HOk.write(ok:HOk P w H h)(mu:GV (H x))(he:e=x\/H e=some (.own x))(k: ∀b u,b≠e->h.get? b=some u->h'.get? b=some u)(heo: ∃u,h'.get? e=some u)
 (new:ObjOk P w (bM H x o') h' x o'):HOk P w (bM H x o') h':=λb u q=>by
 have nown: ∀c y,H c=some (.own y)->c≠x:=λc y r z=>by subst z;rw[r] at mu;exact mu
 have ntup: ∀c xs,H c=some (.tup xs)->c≠x:=λc xs r z=>by subst z;rw[r] at mu;exact mu
 by_cases hb:b=x
 ·subst hb;rw[aK] at q;cases q;exact new
 ·rw[aH hb] at q
  by_cases hbe:b=e
  ·have q':H b=some (.own x):=by
    rcases he with z|z
    ·exact absurd (hbe.trans z) hb
    ·rw[hbe];exact z
   rw[q] at q';cases q';obtain⟨v,hv⟩:=heo
   exact⟨v,by rw[hbe];exact hv⟩
  ·refine(ok b u q).stay (λc v hc r=>k c v ?_ r) (λc r=>by rw[aH (nown c b r)];exact r) λc xs r=>by rw[aH (ntup c xs r)];exact r
   rcases hc with rfl|hc
   ·exact hbe
   ·rintro rfl
    rcases he with z|z
    ·exact nown c b hc z
    ·rw[hc] at z;cases z;exact hb rfl
end
structure Un(fs ex:List Addr)(H H':Hp)(h h':Heap):Prop where
 keep: ∀b o,h.get? b=some o->H b=none->b∉fs->b∉ex->h'.get? b=some o
 slot: ∀b o,h.get? b=some o->H b=none->b∈fs->b∉ex-> ∃sl,h'.get? b=some {o with slots:=sl}
 free: ∀b o,h.get? b=some o->H b=none->b∉ex->H' b=none
 there: ∀b o,h.get? b=some o->b∉ex-> ∃o',h'.get? b=some o'
 tups: ∀b xs,H b=some (.tup xs)->H' b=some (.tup xs)
 frzs: ∀b o u,H b=some (.frz o u)->H' b=some (.frz o u)
 tbls: ∀b ps,H b=some (.tbl ps)-> ∃more,H' b=some (.tbl (ps++more))
section
variable {fs fs' ex ex':List Addr}{H H1 H2:Hp}{h h1 h2 h':Heap}{a x e:Addr}{o:HO}
theorem Un.any(u:Un fs ex H H1 h h1){b:Addr}{ob:Obj}(q:h.get? b=some ob)(n:H b=none)(hx:b∉ex): ∃sl,h1.get? b=some {ob with slots:=sl}:=by
 by_cases hb:b∈fs
 ·exact u.slot b ob q n hb hx
 ·exact⟨ob.slots,u.keep b ob q n hb hx⟩
theorem Un.trans(a:Un fs ex H H1 h h1)(b:Un fs ex H1 H2 h1 h2):Un fs ex H H2 h h2 where
 keep:=λc ob q n hc hx=>b.keep c ob (a.keep c ob q n hc hx) (a.free c ob q n hx) hc hx
 slot:=λc ob q n hc hx=>by
  obtain⟨sl,e1⟩:=a.slot c ob q n hc hx
  obtain⟨sl',e2⟩:=b.slot c _ e1 (a.free c ob q n hx) hc hx
  exact⟨sl',e2⟩
 free:=λc ob q n hx=>by
  obtain⟨o',e1⟩:=a.there c ob q hx
  exact b.free c o' e1 (a.free c ob q n hx) hx
 there:=λc ob q hx=>by
  obtain⟨o',e1⟩:=a.there c ob q hx
  exact b.there c o' e1 hx
 tups:=λc xs q=>b.tups c xs (a.tups c xs q)
 frzs:=λc ob xs q=>b.frzs c ob xs (a.frzs c ob xs q)
 tbls:=λc ps q=>by
  obtain⟨m1,e1⟩:=a.tbls c ps q
  obtain⟨m2,e2⟩:=b.tbls c _ e1
  exact⟨m1++m2,by rw[e2,Array.append_assoc]⟩
theorem Un.kept(k: ∀b u,h.get? b=some u->h'.get? b=some u):Un fs ex H H h h':=
 ⟨λb ob q _ _ _=>k b ob q,λb ob q _ _ _=>⟨ob.slots,k b ob q⟩,λ_ _ _ n _=>n,λb ob q _=>⟨ob,k b ob q⟩,λ_ _ q=>q,λ_ _ _ q=>q,λ_ ps q=>⟨#[],by rw[q];simp⟩⟩
theorem Un.refl:Un fs ex H H h h:=Un.kept λ_ _ q=>q
theorem Un.laid(k: ∀b u,h.get? b=some u->h'.get? b=some u)(hp:h.objs.size<=a)(hn:H a=none):Un fs ex H (bM H a o) h h' where
 keep:=λb u q _ _ _=>k b u q
 slot:=λb u q _ _ _=>⟨u.slots,k b u q⟩
 free:=λb u q n _=>by rw[aH (Nat.ne_of_lt (Nat.lt_of_lt_of_le (Heap.lt_size q) hp))];exact n
 there:=λb u q _=>⟨u,k b u q⟩
 tups:=λb xs q=>by rw[aH (bd q hn)];exact q
 frzs:=λb u xs q=>by rw[aH (bd q hn)];exact q
 tbls:=λb ps q=>⟨#[],by rw[aH (bd q hn),q];simp⟩
theorem Un.write(mu:GV (H x))(he:e=x\/H e=some (.own x))(k: ∀b u,b≠e->h.get? b=some u->h'.get? b=some u)(heo: ∃u,h'.get? e=some u):Un fs ex H (bM H x o) h h':=by
 have hx: ∀b,H b=none->b≠x:=λb n z=>by subst z;rw[n] at mu;exact mu
 have hb: ∀b,H b=none->b≠e:=λb n z=>by
  subst z;rcases he with r|r
  ·exact hx b n r
  ·rw[n] at r;cases r
 have hm: ∀b u,H b=some u-> ¬GV (some u)->b≠x:=λb u q nm z=>by subst z;rw[q] at mu;exact nm mu
 refine⟨λb u q n _ _=>k b u (hb b n) q,λb u q n _ _=>⟨u.slots,k b u (hb b n) q⟩,λb u q n _=>by rw[aH (hx b n)];exact n,λb u q _=>?_,
  λb xs q=>by rw[aH (hm b _ q λz=>z)];exact q,λb u xs q=>by rw[aH (hm b _ q λz=>z)];exact q,λb ps q=>⟨#[],by rw[aH (hm b _ q λz=>z),q];simp⟩⟩
 by_cases hbe:b=e
 ·subst hbe;exact heo
 ·exact⟨u,k b u hbe q⟩
end
def trk(h:Heap)(H:Hp):List Addr:=(List.range h.objs.size).filter λa=>(H a).isSome
def rJ(h:Heap)(H:Hp):Heap:=W.hideAll h (trk h H)
theorem wM(h:Heap)(H:Hp):(rJ h H).objs.size=h.objs.size:=W.hideAll_size _ _
theorem AT {h:Heap}{H:Hp}{b:Addr}{o:Obj}(e:h.get? b=some o)(n:H b=none):(rJ h H).get? b=some o:=
 W.hideAll_get _ e λhm=>by
  have q:(H b).isSome=true:=(List.mem_filter.mp hm).2
  rw[n] at q;simp at q
theorem CZ {h:Heap}{H:Hp}{b:Addr}{o:Obj}(e:(rJ h H).get? b=some o):h.get? b=some o/\H b=none:=by
 have e':h.get? b=some o:=W.of_hideAll (trk h H) e
 refine⟨e',?_⟩
 cases q:H b with
 |none=>rfl
 |some x=>
  have hm:b∈trk h H:=List.mem_filter.mpr ⟨List.mem_range.mpr (Heap.lt_size e'),by simp[q]⟩
  have z:(rJ h H).get? b=none:=W.hideAll_none (trk h H) hm
  rw[z] at e;cases e
structure Mod(K:W.Frag)(mg:Str->Option Value)(base:Heap):Prop where
 kin:K.In base
 glob:base.Ns mainGlobals mg
 blt: ∃mb,base.Ns builtinsNs mb/\ ∀x:Str,x≠"__name__"->mb x=bootBuiltins x
 nolimit:base.NoLimit
structure Cx where
 prog:Program
 w:World
 K:W.Frag
 mg:Str->Option Value
 base:Heap
 A:Around
 N:List Str
 s₀:Shared
 H₀:Hp
 env:Env
 outer:List Env
 stack:List Env
 ex:List Addr
 fn:Str->Bool
 calm:Bool
 pn:List (Addr×Obj)
 xe:Value->Shared->Prop
def pS(l:List Env):List Addr:=l.filterMap (·.frame)
abbrev Cx.fs(X:Cx):List Addr:=pS X.outer
def qI(sc:Scope)(x:Str):Prop:=sc.names.lookup x=some .local\/sc.names.lookup x=some .cell\/sc.names.lookup x=some .free
def yc(sc:Scope)(x:Str):Prop:=sc.names.lookup x=some .local\/sc.names.lookup x=some .cell
def Hd(env:Env)(h:Heap)(m:Str->Option Value)(x:Str)(u:Value):Prop:=
 (env.kindOf x=some .local/\m x=some u)\/((env.kindOf x=some .cell\/env.kindOf x=some .free)/\ ∃c,env.cells.lookup x=some c/\h.IsCell c (some u))
structure Cx.Ok(X:Cx):Prop where
 mod:Mod X.K X.mg X.base
 kind:X.env.scope.kind=.function
 glob:X.env.globals=mainGlobals
 blt:X.env.builtins=builtinsNs
 above:X.s₀.heap.objs.size<=X.env.locals
 inj: ∀x y c,X.env.cells.lookup x=some c->X.env.cells.lookup y=some c->x=y
 has: ∀x,(X.env.kindOf x=some .cell\/X.env.kindOf x=some .free)-> ∃c,X.env.cells.lookup x=some c
 cab: ∀x c,X.fn x=true->X.env.cells.lookup x=some c->X.s₀.heap.objs.size<=c
 hd:X.calm=true->X.A.handled=none
 frames:X.A.frames=some X.stack
 stk:X.stack=X.outer\/(X.stack=X.env::X.outer/\X.env.frame=some X.env.locals)
 exf: ∀b∈X.ex,b≠X.env.locals/\ ∀x c,X.env.cells.lookup x=some c->c≠b
 bs: ∀b o,X.base.get? b=some o->X.s₀.heap.get? b=some o/\X.H₀ b=none
 bsz:X.base.objs.size<=X.s₀.heap.objs.size
 noex: ∀b o,X.base.get? b=some o->b∉X.ex
 exfs: ∀b∈X.ex,b∉X.fs
 funs:X.s₀.heap.FunFrames X.base X.outer
 frf: ∀b∈X.fs,X.H₀ b=none
structure Inv(X:Cx)(ae:List (Addr×Obj))(σ:List (Option V))(H:Hp)(s:Shared):Prop where
 ok:X.Ok
 os:s.os=X.s₀.os
 bare:AllBare s.gens
 base:Un X.fs X.ex X.H₀ H X.s₀.heap s.heap
 loc: ∃m,s.heap.Ns X.env.locals m/\ ∀(i:Nat) (x:Str) (v:V),X.N[i]? =some x->σ[i]? =some (some v)->qI X.env.scope x-> ∃u,RelV v u/\Hd X.env s.heap m x u
 cell: ∀x c,X.env.cells.lookup x=some c-> ∃v,s.heap.IsCell c v
 free:H X.env.locals=none
 freeC: ∀x c,X.env.cells.lookup x=some c->H c=none
 pin: ∀p∈X.pn++ae,s.heap.get? p.1=some p.2/\H p.1=none/\p.1≠X.env.locals/\p.1∉X.fs/\ ∀v,p.2.data≠ .cell v
 hok:HOk X.prog X.w H s.heap
 len:σ.length=X.N.length
section
variable {X:Cx}{ae:List (Addr×Obj)}{σ:List (Option V)}{H H':Hp}{s:Shared}{h':Heap}
theorem Cx.Ok.nofr(ok:X.Ok){b:Addr}{o:Obj}(e:X.base.get? b=some o):b∉X.fs:=λhb=>by
 have:=(ok.funs.mem hb).1
 rw[e] at this;cases this
theorem Inv.bs(I:Inv X ae σ H s): ∀b o,X.base.get? b=some o->s.heap.get? b=some o/\H b=none:=λb o e=>
 ⟨I.base.keep b o (I.ok.bs b o e).1 (I.ok.bs b o e).2 (I.ok.nofr e) (I.ok.noex b o e),I.base.free b o (I.ok.bs b o e).1 (I.ok.bs b o e).2 (I.ok.noex b o e)⟩
theorem Inv.bk(I:Inv X ae σ H s): ∀b o,X.base.get? b=some o->s.heap.get? b=some o:=λb o e=>(I.bs b o e).1
theorem Inv.mod(I:Inv X ae σ H s):Mod X.K X.mg X.base:=I.ok.mod
theorem Inv.kIn(I:Inv X ae σ H s):X.K.In s.heap:=I.ok.mod.kin.keeps I.bk
theorem Inv.fr(I:Inv X ae σ H s): ∃m,Fr X.base X.env.locals s.heap m:=
 let⟨m,hn,_⟩:=I.loc
 ⟨m,hn,I.bk,Nat.le_trans I.ok.bsz I.ok.above⟩
theorem Inv.lt(I:Inv X ae σ H s):X.env.locals<s.heap.objs.size:=let⟨_,hn,_⟩:=I.loc;hn.lt
theorem Inv.sz(I:Inv X ae σ H s):X.s₀.heap.objs.size<=s.heap.objs.size:=Nat.le_trans I.ok.above (Nat.le_of_lt I.lt)
theorem Inv.nofs(I:Inv X ae σ H s){a:Addr}(h:s.heap.objs.size<=a):a∉X.fs:=λhb=>by
 obtain⟨_,o,ho,_⟩:=I.ok.funs.mem hb
 exact absurd (Nat.lt_of_lt_of_le (Heap.lt_size ho) (Nat.le_trans I.sz h)) (Nat.lt_irrefl _)
theorem Inv.cne(I:Inv X ae σ H s): ∀x c,X.env.cells.lookup x=some c->c≠X.env.locals:=λx c e z=>by
 obtain⟨v,o,ho,hd⟩:=I.cell x c e
 obtain⟨m,⟨o',es,ep,ho',hd',_⟩,_⟩:=I.loc
 rw[z,ho'] at ho;cases ho;rw[hd'] at hd;cases hd
theorem Inv.funs(I:Inv X ae σ H s):s.heap.FunFrames X.base X.outer:=by
 have all: ∀(l:List Env),(∀b∈pS l,b∈X.fs)->X.s₀.heap.FunFrames X.base l->s.heap.FunFrames X.base l:=by
  intro l
  induction l with
  |nil=>intro _ _;trivial
  |cons env r ih=>
   intro hs hl;obtain⟨hk,⟨L,o,hf,hn,ho,hd⟩,hr⟩:=hl
   have hL:L∈X.fs:=hs L (by unfold pS;rw[List.filterMap_cons,hf];exact List.mem_cons_self)
   obtain⟨sl,e⟩:=I.base.slot L o ho (I.ok.frf L hL) hL λz=>I.ok.exfs L z hL
   exact⟨hk,⟨L,_,hf,hn,e,hd⟩,ih (λb hb=>hs b (by unfold pS;rw[List.filterMap_cons,hf];exact List.mem_cons_of_mem _ hb)) hr⟩
 exact all X.outer (λ_ hb=>hb) I.ok.funs
theorem Inv.stack(I:Inv X ae σ H s):s.heap.FunFrames X.base X.stack:=by
 rcases I.ok.stk with e|⟨e,hf⟩
 ·rw[e];exact I.funs
 ·rw[e]
  obtain⟨m,hn,_⟩:=I.loc
  refine .cons (by rw[I.ok.kind];decide) hf hn ?_ I.funs
  exact Heap.get?_none_of_le (Nat.le_trans I.ok.bsz I.ok.above)
theorem Inv.stkSub(I:Inv X ae σ H s): ∀b∈pS X.stack,b∈X.env.locals::X.fs:=λb hb=>by
 rcases I.ok.stk with e|⟨e,hf⟩
 ·rw[e] at hb;exact List.mem_cons_of_mem _ hb
 ·rw[e] at hb
  unfold pS at hb;rw[List.filterMap_cons,hf] at hb;exact hb
theorem Inv.stkFree(I:Inv X ae σ H s): ∀b∈pS X.stack,H b=none:=λb hb=>by
 rcases List.mem_cons.mp (I.stkSub b hb) with e|hb
 ·rw[e];exact I.free
 ·obtain⟨_,o,ho,_⟩:=I.ok.funs.mem hb
  exact I.base.free b o ho (I.ok.frf b hb) λz=>I.ok.exfs b z hb
theorem Inv.step {g':Array GenState}{t':Nat}{d':Drawn}{ch:List Addr}(I:Inv X ae σ H s)
 (hch: ∀b∈ch,(b∈X.ex\/X.s₀.heap.objs.size<=b)/\b≠X.env.locals/\(∀x c,X.env.cells.lookup x=some c->c≠b)/\ ∀p∈X.pn++ae,p.1≠b)
 (keep: ∀b o,b≠X.env.locals->b∉X.fs->b∉ch->s.heap.get? b=some o->H b=none->h'.get? b=some o)
 (slot: ∀b o,b≠X.env.locals->b∈X.fs->b∉ch->s.heap.get? b=some o->H b=none-> ∃sl,h'.get? b=some {o with slots:=sl}) (free: ∀b o,b∉ch->s.heap.get? b=some o->H b=none->H' b=none)
 (there: ∀b o,b∉ch->s.heap.get? b=some o-> ∃o',h'.get? b=some o')
 (tups: ∀b xs,H b=some (.tup xs)->H' b=some (.tup xs)) (frzs: ∀b o u,H b=some (.frz o u)->H' b=some (.frz o u)) (tbls: ∀b ps,H b=some (.tbl ps)-> ∃more,H' b=some (.tbl (ps++more)))
 (ns: ∀m,s.heap.Ns X.env.locals m->h'.Ns X.env.locals m) (hok:HOk X.prog X.w H' h') (hg:AllBare g'):
 Inv X ae σ H' {s with heap:=h',gens:=g',drawn:=d',toks:=t'}:=by
 have neL: ∀b o,X.s₀.heap.get? b=some o->b≠X.env.locals:=λb o e=>Nat.ne_of_lt (Nat.lt_of_lt_of_le (Heap.lt_size e) I.ok.above)
 have neC: ∀b o,X.s₀.heap.get? b=some o->b∉X.ex->b∉ch:=λb o e hx hb=>by
  rcases(hch b hb).1 with z|z
  ·exact hx z
  ·exact absurd (Nat.lt_of_lt_of_le (Heap.lt_size e) z) (Nat.lt_irrefl _)
 have cellK: ∀x c,X.env.cells.lookup x=some c-> ∀v,s.heap.IsCell c v->h'.IsCell c v:=λx c e v hq_=>by
  obtain⟨o,ho,hd⟩:=hq_
  have nch:c∉ch:=λz=>(hch c z).2.2.1 x c e rfl
  by_cases hc:c∈X.fs
  ·obtain⟨sl,q⟩:=slot c o (I.cne x c e) hc nch ho (I.freeC x c e)
   exact⟨_,q,hd⟩
  ·exact⟨o,keep c o (I.cne x c e) hc nch ho (I.freeC x c e),hd⟩
 refine⟨I.ok,I.os,hg,⟨λb o e n hb hx=>?_,λb o e n hb hx=>?_,λb o e n hx=>?_,λb o e hx=>?_,λb xs e=>tups b xs (I.base.tups b xs e),λb o xs e=>frzs b o xs (I.base.frzs b o xs e),λb ps e=>?_⟩,?_,λx c e=>?_,?_,λx c e=>?_,λp hp=>?_,hok,I.len⟩
 ·exact keep b o (neL b o e) hb (neC b o e hx) (I.base.keep b o e n hb hx) (I.base.free b o e n hx)
 ·obtain⟨sl,e1⟩:=I.base.slot b o e n hb hx
  obtain⟨sl',e2⟩:=slot b _ (neL b o e) hb (neC b o e hx) e1 (I.base.free b o e n hx)
  exact⟨sl',e2⟩
 ·obtain⟨o',e1⟩:=I.base.there b o e hx
  exact free b o' (neC b o e hx) e1 (I.base.free b o e n hx)
 ·obtain⟨o',e1⟩:=I.base.there b o e hx
  exact there b o' (neC b o e hx) e1
 ·obtain⟨m1,e1⟩:=I.base.tbls b ps e
  obtain⟨m2,e2⟩:=tbls b _ e1
  exact⟨m1++m2,by rw[e2,Array.append_assoc]⟩
 ·obtain⟨m,hn,hl⟩:=I.loc
  refine⟨m,ns m hn,λi x v e1 e2 e3=>?_⟩
  obtain⟨u,r,l⟩:=hl i x v e1 e2 e3
  refine⟨u,r,?_⟩
  rcases l with l|⟨k,c,e,z⟩
  ·exact .inl l
  ·exact .inr ⟨k,c,e,cellK x c e _ z⟩
 ·obtain⟨v,z⟩:=I.cell x c e
  exact⟨v,cellK x c e v z⟩
 ·obtain⟨m,⟨o,_,_,ho,_⟩,_⟩:=I.loc
  exact free _ o (λz=>(hch _ z).2.1 rfl) ho I.free
 ·obtain⟨v,o,ho,hd⟩:=I.cell x c e
  exact free c o (λz=>(hch c z).2.2.1 x c e rfl) ho (I.freeC x c e)
 ·obtain⟨e,n,ne,nf,d⟩:=I.pin p hp
  have nch:p.1∉ch:=λz=>(hch p.1 z).2.2.2 p hp rfl
  exact⟨keep p.1 p.2 ne nf nch e n,free p.1 p.2 nch e n,ne,nf,d⟩
theorem Inv.un {t':Nat}(I:Inv X ae σ H s)(u:Un X.fs [] H H' s.heap h')(hok:HOk X.prog X.w H' h'):Inv X ae σ H' {s with heap:=h',toks:=t'}:=by
 obtain⟨m,⟨o,es,ep,ho,r⟩,_⟩:=id I.loc
 obtain⟨sl,hL⟩:=u.any ho I.free (by simp)
 exact I.step (g':=s.gens) (d':=s.drawn) (ch:=[]) (λ_ z=>nomatch z) (λb o _ hb _ e n=>u.keep b o e n hb (by simp)) (λb o _ hb _ e n=>u.slot b o e n hb (by simp)) (λb o _ e n=>u.free b o e n (by simp)) (λb o _ e=>u.there b o e (by simp)) u.tups u.frzs u.tbls (λm' hm=>by
  obtain⟨o',es',ep',ho',r'⟩:=hm
  rw[ho] at ho';cases ho';exact⟨_,es',ep',hL,r'⟩) hok I.bare
theorem Inv.call {g':Array GenState}{t':Nat}{d':Drawn}{ch:List Addr}(I:Inv X ae σ H s)(u:Un (pS X.stack) ch H H' s.heap h')(hok:HOk X.prog X.w H' h')(hg:AllBare g')
 (hch: ∀b∈ch,(b∈X.ex\/X.s₀.heap.objs.size<=b)/\b≠X.env.locals/\(∀x c,X.env.cells.lookup x=some c->c≠b)/\ ∀p∈X.pn++ae,p.1≠b):
 Inv X ae σ H' {s with heap:=h',gens:=g',drawn:=d',toks:=t'}:=by
 obtain⟨m,⟨o,es,ep,ho,r⟩,_⟩:=id I.loc
 obtain⟨sl,hL⟩:=u.any ho I.free λz=>(hch _ z).2.1 rfl
 exact I.step (ch:=ch) hch (λb o hL hb hc e n=>u.keep b o e n (λz=>(List.mem_cons.mp (I.stkSub b z)).elim hL hb) hc) (λb o _ _ hc e n=>u.any e n hc) (λb o hc e n=>u.free b o e n hc) (λb o hc e=>u.there b o e hc) u.tups u.frzs u.tbls (λm' hm=>by
  obtain⟨o',es',ep',ho',r'⟩:=hm
  rw[ho] at ho';cases ho';exact⟨_,es',ep',hL,r'⟩) hok hg
theorem Inv.turned {t':Nat}{it:Addr}(I:Inv X ae σ H s)(k: ∀b o,b≠it->s.heap.get? b=some o->h'.get? b=some o)(hn:H it=none)(hL:it≠X.env.locals)
 (h1:it∈X.ex\/X.s₀.heap.objs.size<=it) (h2: ∀x c,X.env.cells.lookup x=some c->c≠it) (h3: ∀p∈X.pn++ae,p.1≠it):Inv X ae σ H {s with heap:=h',toks:=t'}:=by
 have nit: ∀b u,H b=some u->b≠it:=λb u e z=>by rw[z,hn] at e;cases e
 refine I.step (g':=s.gens) (d':=s.drawn) (ch:=[it]) (λb hb=>?_) (λb o _ _ hc e _=>k b o (λz=>hc (by simp[z])) e) (λb o _ _ hc e _=>⟨o.slots,k b o (λz=>hc (by simp[z])) e⟩) (λ_ _ _ _ n=>n)
  (λb o hc e=>⟨o,k b o (λz=>hc (by simp[z])) e⟩) (λ_ _ e=>e) (λ_ _ _ e=>e) (λb ps e=>⟨#[],by rw[e];simp⟩) (λm hm=>?_) (λb u e=>?_) I.bare
 ·have e:b=it:=by simpa using hb
  subst e;exact⟨h1,hL,h2,h3⟩
 ·obtain⟨o,es,ep,ho,r⟩:=hm
  exact⟨o,es,ep,k _ o (Ne.symm hL) ho,r⟩
 ·refine(I.hok b u e).stay (λc v hc q=>k c v ?_ q) (λ_ q=>q) λ_ _ q=>q
  rcases hc with z|z
  ·rw[z];exact nit b u e
  ·exact nit c _ z
theorem Inv.tok(I:Inv X ae σ H s)(t:Nat):Inv X ae σ H {s with toks:=t}:=I.un (h':=s.heap) (t':=t) Un.refl I.hok
theorem Inv.kept {t':Nat}(I:Inv X ae σ H s)(k: ∀b u,s.heap.get? b=some u->h'.get? b=some u):Inv X ae σ H {s with heap:=h',toks:=t'}:=I.un (Un.kept k) (I.hok.kept k)
theorem Inv.laid {a:Addr}{o:HO}{t':Nat}(I:Inv X ae σ H s)(k: ∀b u,s.heap.get? b=some u->h'.get? b=some u)(hp:s.heap.objs.size<=a)(new:ObjOk X.prog X.w (bM H a o) h' a o):
 Inv X ae σ (bM H a o) {s with heap:=h',toks:=t'}:=I.un (Un.laid k hp (I.hok.fresh hp)) (I.hok.laid k hp new)
theorem Inv.write {x e:Addr}{o:HO}{t':Nat}(I:Inv X ae σ H s)(mu:GV (H x))(he:e=x\/H e=some (.own x))(k: ∀b u,b≠e->s.heap.get? b=some u->h'.get? b=some u)(heo: ∃u,h'.get? e=some u)
 (new:ObjOk X.prog X.w (bM H x o) h' x o):Inv X ae σ (bM H x o) {s with heap:=h',toks:=t'}:=I.un (Un.write mu he k heo) (I.hok.write mu he k heo new)
theorem Inv.pins_of {pins':List (Addr×Obj)}(I:Inv X ae σ H s)(h: ∀p∈pins',s.heap.get? p.1=some p.2/\H p.1=none/\p.1≠X.env.locals/\p.1∉X.fs/\ ∀v,p.2.data≠ .cell v):Inv X pins' σ H s:=
 ⟨I.ok,I.os,I.bare,I.base,I.loc,I.cell,I.free,I.freeC,λp hp=>(List.mem_append.mp hp).elim (λz=>I.pin p (List.mem_append_left _ z)) (h p),I.hok,I.len⟩
theorem sF {N:List Str}(hN:N.Nodup){i j:Nat}{x:Str}(a:N[i]? =some x)(b:N[j]? =some x):i=j:=by
 obtain⟨h1,e1⟩:=List.getElem?_eq_some_iff.mp a
 obtain⟨h2,e2⟩:=List.getElem?_eq_some_iff.mp b
 exact(List.getElem_inj hN).mp (e1.trans e2.symm)
theorem lU {M:Model}{A:Around}{E:Value->Shared->Prop}{i:Nat}{x:Str}{v:V}{u:Value}{Q:Unit->Shared->Prop}(I:Inv X ae σ H s)(hN:X.N.Nodup)(hi:X.N[i]? =some x)(hx:yc X.env.scope x)(r:RelV v u)
 (h: ∀s',Inv X ae (σ.set i (some v)) H s'->(∃a,Heap.SameBut a s.heap s'.heap/\(a=X.env.locals\/X.env.cells.lookup x=some a))->Q () s') (hf:X.fn x=true\/X.env.scope.names.lookup x=some .local:=by first|exact .inl rfl|exact .inr rfl|assumption):wpAny M A (storeName X.env x u) Q E s:=by
 obtain⟨m,hn,hl⟩:=id I.loc
 have hcls:(X.env.scope.kind== .class||(X.env.scope.kind== .module&&X.env.locals !=X.env.globals))=false:=by rw[I.ok.kind];rfl
 have hiσ:i<σ.length:=by rw[I.len];exact(List.getElem?_eq_some_iff.mp hi).1
 have cne:=I.cne
 have tracked: ∀ {a:Addr} {h':Heap},(∃o,s.heap.get? a=some o/\H a=none)->Heap.SameBut a s.heap h'->HOk X.prog X.w H h':=λ{a h'} ha hs b ob e=>by
  obtain⟨_,_,hfree⟩:=ha
  refine(I.hok b ob e).stay (λc w' hc q=>(hs.2 c ?_).trans q) (λ_ q=>q) λ_ _ q=>q
  rintro rfl
  rcases hc with rfl|hc
  ·rw[hfree] at e;cases e
  ·rw[hfree] at hc;cases hc
 rcases hx with hk|hk
 ·refine wpAny_storeName_local hk hn (λh' hn' hs=>?_) hcls
  obtain⟨oL,_,_,hoL,_⟩:=id hn
  refine h _ ⟨I.ok,I.os,I.bare,⟨λb o e n hb hx=>?_,λb o e n hb hx=>?_,I.base.free,λb o e hx=>?_,I.base.tups,I.base.frzs,I.base.tbls⟩,⟨_,hn',λj y v' e1 e2 e3=>?_⟩,λy c e=>?_,I.free,I.freeC,λp hp=>?_,tracked ⟨oL,hoL,I.free⟩ hs,by simpa using I.len⟩ ⟨_,hs,.inl rfl⟩
  ·exact(hs.2 b (Nat.ne_of_lt (Nat.lt_of_lt_of_le (Heap.lt_size e) I.ok.above))).trans (I.base.keep b o e n hb hx)
  ·obtain⟨sl,e1⟩:=I.base.slot b o e n hb hx
   exact⟨sl,(hs.2 b (Nat.ne_of_lt (Nat.lt_of_lt_of_le (Heap.lt_size e) I.ok.above))).trans e1⟩
  ·obtain⟨o',e1⟩:=I.base.there b o e hx
   exact⟨o',(hs.2 b (Nat.ne_of_lt (Nat.lt_of_lt_of_le (Heap.lt_size e) I.ok.above))).trans e1⟩
  ·by_cases hj:j=i
   ·subst hj
    rw[hi] at e1;cases e1;rw[List.getElem?_set_self hiσ] at e2;cases e2
    exact⟨u,r,.inl ⟨hk,by simp⟩⟩
   ·rw[List.getElem?_set_ne (Ne.symm hj)] at e2
    obtain⟨u',r',q⟩:=hl j y v' e1 e2 e3
    refine⟨u',r',?_⟩
    rcases q with⟨k,e⟩|⟨k,c,e,z⟩
    ·refine .inl ⟨k,?_⟩
     have:y≠x:=λe=>hj (sF hN e1 (e▸hi))
     simp[this,e]
    ·exact .inr ⟨k,c,e,z.sameBut hs (cne y c e)⟩
  ·obtain⟨w',z⟩:=I.cell y c e
   exact⟨w',z.sameBut hs (cne y c e)⟩
  ·obtain⟨e,n,ne,nf,d⟩:=I.pin p hp
   exact⟨(hs.2 p.1 ne).trans e,n,ne,nf,d⟩
 ·have hfn:X.fn x=true:=by
   rcases hf with z|z
   ·exact z
   ·rw[z] at hk;cases hk
  obtain⟨c,hc⟩:=I.ok.has x (.inl hk)
  obtain⟨w',z⟩:=I.cell x c hc
  refine wpAny_storeName_cell I.ok.kind hk hc z (λh' hc' hs=>?_)
  obtain⟨oc,hoc,hocd⟩:=id z
  refine h {s with heap:=h'} ⟨I.ok,I.os,I.bare,⟨λb o e n hb hx=>?_,λb o e n hb hx=>?_,I.base.free,λb o e hx=>?_,I.base.tups,I.base.frzs,I.base.tbls⟩,⟨m,hn.sameBut hs (Ne.symm (cne x c hc)),λj y v' e1 e2 e3=>?_⟩,λy c' e=>?_,I.free,I.freeC,λp hp=>?_,tracked ⟨oc,hoc,I.freeC x c hc⟩ hs,by simpa using I.len⟩ ⟨c,hs,.inr hc⟩
  ·exact(hs.2 b (Nat.ne_of_lt (Nat.lt_of_lt_of_le (Heap.lt_size e) (I.ok.cab x c hfn hc)))).trans (I.base.keep b o e n hb hx)
  ·obtain⟨sl,e1⟩:=I.base.slot b o e n hb hx
   exact⟨sl,(hs.2 b (Nat.ne_of_lt (Nat.lt_of_lt_of_le (Heap.lt_size e) (I.ok.cab x c hfn hc)))).trans e1⟩
  ·obtain⟨o',e1⟩:=I.base.there b o e hx
   exact⟨o',(hs.2 b (Nat.ne_of_lt (Nat.lt_of_lt_of_le (Heap.lt_size e) (I.ok.cab x c hfn hc)))).trans e1⟩
  ·by_cases hj:j=i
   ·subst hj
    rw[hi] at e1;cases e1;rw[List.getElem?_set_self hiσ] at e2;cases e2
    exact⟨u,r,.inr ⟨.inl hk,c,hc,hc'⟩⟩
   ·rw[List.getElem?_set_ne (Ne.symm hj)] at e2
    obtain⟨u',r',q⟩:=hl j y v' e1 e2 e3
    refine⟨u',r',?_⟩
    rcases q with q|⟨k,c',e,z'⟩
    ·exact .inl q
    ·refine .inr ⟨k,c',e,z'.sameBut hs ?_⟩
     rintro rfl
     exact hj (sF hN e1 (I.ok.inj _ _ _ e hc▸hi))
  ·by_cases hcc:c'=c
   ·subst hcc;exact⟨_,hc'⟩
   ·obtain⟨w2,z2⟩:=I.cell y c' e
    exact⟨w2,z2.sameBut hs hcc⟩
  ·obtain⟨e,n,ne,nf,d⟩:=I.pin p hp
   refine⟨(hs.2 p.1 ?_).trans e,n,ne,nf,d⟩
   intro q;rw[q,hoc] at e;have q':oc=p.2:=Option.some.inj e
   exact d w' (by rw[<-q'];exact hocd)
theorem nV {M:Model}{A:Around}{E:Value->Shared->Prop}{i:Nat}{x:Str}{v:V}{u:Value}{Q:Unit->Shared->Prop}(I:Inv X ae σ H s)(hN:X.N.Nodup)(hi:X.N[i]? =some x)(hx:yc X.env.scope x)(r:RelV v u)
 (h: ∀s',Inv X ae (σ.set i (some v)) H s'->Q () s') (hf:X.fn x=true\/X.env.scope.names.lookup x=some .local:=by first|exact .inl rfl|exact .inr rfl|assumption):wpAny M A (storeName X.env x u) Q E s:=
 lU I hN hi hx r (λs' I' _=>h s' I') hf
theorem Inv.call' {s':Shared}{ch:List Addr}(I:Inv X ae σ H s)(ho:s'.os=s.os)(u:Un (pS X.stack) ch H H' s.heap s'.heap)(hok:HOk X.prog X.w H' s'.heap)(hg:AllBare s'.gens)
 (hch: ∀b∈ch,(b∈X.ex\/X.s₀.heap.objs.size<=b)/\b≠X.env.locals/\(∀x c,X.env.cells.lookup x=some c->c≠b)/\ ∀p∈X.pn++ae,p.1≠b):Inv X ae σ H' s':=by
 obtain⟨h',g',d',t',o'⟩:=s'
 have e:o'=s.os:=ho
 subst e;exact I.call (g':=g') (t':=t') (d':=d') u hok hg hch
end
abbrev XK:=Value->Option Addr->Hp->Prop
abbrev St:=List (Option V)
abbrev VK:=V->Hp->Prop
abbrev TE:=St->Hp->VK->Prop
abbrev TT:=St->Hp->(Bool->Hp->Prop)->Prop
abbrev TA:=St->Hp->(List V->Hp->Prop)->Prop
structure Ends where
 nx:St->Hp->Prop
 rt:VK
 bk:St->Hp->Prop:=λ_ _=>False
 ct:St->Hp->Prop:=λ_ _=>False
abbrev TS:=Ends->St->Hp->Prop
def EP(X:Cx)(ae:List (Addr×Obj))(σ:St)(Q:VK)(u:Value)(s':Shared):Prop:= ∃v H',Inv X ae σ H' s'/\RelV v u/\Q v H'
def TP(X:Cx)(ae:List (Addr×Obj))(σ:St)(Q:Bool->Hp->Prop)(b:Bool)(s':Shared):Prop:= ∃H',Inv X ae σ H' s'/\Q b H'
def AP(X:Cx)(ae:List (Addr×Obj))(σ:St)(Q:List V->Hp->Prop)(us:List Value)(s':Shared):Prop:= ∃vs H',Inv X ae σ H' s'/\Vals vs us/\Q vs H'
def SP(X:Cx)(ae:List (Addr×Obj))(D:Ends)(f:Flow)(s':Shared):Prop:=
 match f with
 | .next=> ∃σ' H',Inv X ae σ' H' s'/\D.nx σ' H'
 | .brk=> ∃σ' H',Inv X ae σ' H' s'/\D.bk σ' H'
 | .cont=> ∃σ' H',Inv X ae σ' H' s'/\D.ct σ' H'
 | .ret u=> ∃v σ' H',Inv X ae σ' H' s'/\RelV v u/\D.rt v H'
def PE(X:Cx)(e:Expr)(t:TE):Prop:=
 ∀(ae:List (Addr×Obj)) (s:Shared) (σ:St) (H:Hp) (Q:VK),Inv X ae σ H s->t σ H Q->wpAny (model X.prog X.w) X.A (eval e X.env) (EP X ae σ Q) X.xe s
def PT(X:Cx)(e:Expr)(t:TT):Prop:=
 ∀(ae:List (Addr×Obj)) (s:Shared) (σ:St) (H:Hp) (Q:Bool->Hp->Prop),Inv X ae σ H s->t σ H Q->wpAny (model X.prog X.w) X.A (isTrue e X.env (eval e X.env)) (TP X ae σ Q) X.xe s
def PW(X:Cx)(e:Expr)(t:TT):Prop:=
 ∀(whole:Sem Value) (ae:List (Addr×Obj)) (s:Shared) (σ:St) (H:Hp) (Q:Bool->Hp->Prop),Inv X ae σ H s->t σ H Q->wpAny (model X.prog X.w) X.A (isTrue e X.env whole) (TP X ae σ Q) X.xe s
theorem PW.pt {X:Cx}{e:Expr}{t:TT}(h:PW X e t):PT X e t:=h _
def PA(X:Cx)(es:List Expr)(t:TA):Prop:=
 ∀(pos:Pos) (ae:List (Addr×Obj)) (s:Shared) (σ:St) (H:Hp) (Q:List V->Hp->Prop),Inv X ae σ H s->t σ H Q->wpAny (model X.prog X.w) X.A (spliced (backTo pos (starEach es X.env))) (AP X ae σ Q) X.xe s
def PS(X:Cx)(st:Stmt)(t:TS):Prop:=
 ∀(ae:List (Addr×Obj)) (s:Shared) (σ:St) (H:Hp) (D:Ends),Inv X ae σ H s->t D σ H->wpAny (model X.prog X.w) X.A (exec st X.env) (SP X ae D) X.xe s
def PSs(X:Cx)(st:List Stmt)(t:TS):Prop:=
 ∀(ae:List (Addr×Obj)) (s:Shared) (σ:St) (H:Hp) (D:Ends),Inv X ae σ H s->t D σ H->wpAny (model X.prog X.w) X.A (execs st X.env) (SP X ae D) X.xe s
theorem bI {α:Type}{t:Sem α}{Q Q':α->Shared->Prop}{M:Model}{A:Around}{E:Value->Shared->Prop}{s:Shared}(h:wpAny M A t Q E s)(hQ: ∀a s,Q a s->Q' a s):wpAny M A t Q' E s:=wpAny_mono h hQ λ_ _ x=>x
section
variable {X:Cx}
def GL(i:Nat):TE:=λσ H Q=> ∃v,σ[i]? =some (some v)/\Q v H
def tC(v:V):TE:=λ_ H Q=>Q v H
theorem EY {i:Nat}{x:Str}{pos:Pos}(hN:X.N[i]? =some x)(hv:qI X.env.scope x)(hd:(x==("__debug__":Str))=false:=by decide)(hcd:(x==("__classdict__":Str))=false:=by decide):PE X (.Name x pos) (GL i):=by
 intro ae s σ H Q I h;obtain⟨v,e,h⟩:=h
 obtain⟨m,hn,hl⟩:=I.loc
 obtain⟨u,r,l⟩:=hl i x v hN e hv
 have fin:EP X ae σ Q u s:=⟨v,H,I,r,h⟩
 rcases l with⟨hk,hm⟩|⟨hk,c,hc,hcell⟩
 ·exact wpAny_Name (wpAny_loadName_local I.ok.kind hk hn hm fin) hd
 ·rcases hk with hk|hk
  ·exact wpAny_Name (wpAny_loadName_cell I.ok.kind hk hc hcell fin) hd
  ·exact wpAny_Name (wpAny_loadName_free I.ok.kind hk hc hcell fin hcd) hd
theorem EN {i j pos}:PE X (.Constant (.int i) j pos) (tC (.int i)):=λ_ _ _ H _ I h=>wpAny_Constant_int ⟨.int i,H,I.tok _,⟨_,rfl⟩,h⟩
theorem FK {b j pos}:PE X (.Constant (.bool b) j pos) (tC (.bl b)):=λ_ _ _ H _ I h=>Constant_bool ⟨.bl b,H,I,rfl,h⟩
theorem DX {j pos}:PE X (.Constant .none j pos) (tC .non):=λ_ _ _ H _ I h=>Constant_none ⟨.non,H,I,rfl,h⟩
def Gl(X:Cx)(x:Str):Prop:=X.env.kindOf x=some .globalImplicit
theorem CQ {E:Value->Shared->Prop}{ae:List (Addr×Obj)}{s:Shared}{σ:St}{H:Hp}{x:Str}{u:Value}{pos:Pos}{Q:Value->Shared->Prop}(I:Inv X ae σ H s)(hg:Gl X x)(hm:X.mg x=some u)(h:Q u s)
 (hd:(x==("__debug__":Str))=false:=by decide):wpAny (model X.prog X.w) X.A (eval (.Name x pos) X.env) Q E s:=
 Calls.Name_function_global I.ok.kind hg (Calls.loadGlobal_global (by rw[I.ok.glob];exact I.mod.glob.keeps I.bk) hm h) hd
theorem mf {E:Value->Shared->Prop}{ae:List (Addr×Obj)}{s:Shared}{σ:St}{H:Hp}{x:Str}{u:Value}{pos:Pos}{Q:Value->Shared->Prop}(I:Inv X ae σ H s)(hg:Gl X x)(hm:X.mg x=none)(hv:bootBuiltins x=some u)(h:Q u s)
 (hn:x≠"__name__":=by decide) (hd:(x==("__debug__":Str))=false:=by decide):wpAny (model X.prog X.w) X.A (eval (.Name x pos) X.env) Q E s:=by
 obtain⟨mb,h1,h2⟩:=I.mod.blt
 exact Calls.Name_function_global I.ok.kind hg (Calls.loadGlobal_builtin (by rw[I.ok.glob];exact I.mod.glob.keeps I.bk) hm (by rw[I.ok.blt];exact h1.keeps I.bk) ((h2 x hn).trans hv) h) hd
theorem CP {x:Str}{v:V}{u:Value}{pos:Pos}(hg:Gl X x)(hm:X.mg x=none)(hv:bootBuiltins x=some u)(r:RelV v u)(hn:x≠"__name__":=by decide)(hd:(x==("__debug__":Str))=false:=by decide):PE X (.Name x pos) (tC v):=
 λ_ _ _ H _ I h=>mf I hg hm hv ⟨v,H,I,r,h⟩ hn hd
variable {a b:Expr}{ta tb:TE}{pos:Pos}
def PC(X:Cx)(op:CmpOp)(a b:Expr)(t:TE):Prop:=
 ∀(ae:List (Addr×Obj)) (s:Shared) (σ:St) (H:Hp) (Q:VK),Inv X ae σ H s->t σ H Q->
  wpAny (model X.prog X.w) X.A (eval a X.env) (λv s₁=>wpAny (model X.prog X.w) X.A (eval b X.env) (λu s₂=>wpAny (model X.prog X.w) X.A (compareOp op v u) (EP X ae σ Q) X.xe s₂) X.xe s₁) X.xe s
def tB(t:TE):TT:=λσ H Q=>t σ H λx H1=> ∃c,x=.bl c/\Q c H1
theorem Et {op:CmpOp}{t:TE}(h:PC X op a b t)(h1:behindInMarks op b=false:=by first|exact nobehind _ (by decide) (by decide)|rfl):PT X (.Compare a [op] [b] pos) (tB t):=by
 intro ae s σ H Q I hw;refine wpAny_isTrue_Compare1 (bI (h ae s σ H _ I hw) λv s1 h1=>bI h1 λu s2 h2=>bI h2 λc s3 ⟨x,H1,I1,r1,q1⟩=>?_) h1
 obtain⟨d,rfl,q⟩:=q1
 cases r1
 exact wpAny_truthy_bool ⟨H1,I1,q⟩
variable {tA tB':TT}{rest:List Expr}
def He(t u:TT):TT:=λσ H Q=>t σ H λc H1=>if c=true then u σ H1 Q else Q false H1
def IJ(t u:TT):TT:=λσ H Q=>t σ H λc H1=>if c=true then Q true H1 else u σ H1 Q
def HS(t:TT):TT:=λσ H Q=>t σ H λc H1=>Q (!c) H1
theorem pw_and1(ha:PT X a tA):PW X (.BoolOp .And [a] pos) tA:=by
 intro wh ae s σ H Q I h;refine isTrue_and (bI (ha ae s σ H Q I h) λc s1 e=>?_)
 cases c with
 |true=>exact isTrue_and_nil e
 |false=>exact e
theorem pw_or1(ha:PT X a tA):PW X (.BoolOp .Or [a] pos) tA:=by
 intro wh ae s σ H Q I h;refine isTrue_or (bI (ha ae s σ H Q I h) λc s1 e=>?_)
 cases c with
 |false=>exact isTrue_or_nil e
 |true=>exact e
theorem pw_and(ha:PT X a tA)(hb:PW X (.BoolOp .And (b::rest) pos) tB'):PW X (.BoolOp .And (a::b::rest) pos) (He tA tB'):=by
 intro wh ae s σ H Q I h;refine isTrue_and (bI (ha ae s σ H _ I h) λc s1 hq_=>?_)
 obtain⟨H1,I1,q1⟩:=hq_
 cases c with
 |true=>exact hb wh ae s1 σ H1 Q I1 q1
 |false=>exact⟨H1,I1,q1⟩
theorem pw_or(ha:PT X a tA)(hb:PW X (.BoolOp .Or (b::rest) pos) tB'):PW X (.BoolOp .Or (a::b::rest) pos) (IJ tA tB'):=by
 intro wh ae s σ H Q I h;refine isTrue_or (bI (ha ae s σ H _ I h) λc s1 hq_=>?_)
 obtain⟨H1,I1,q1⟩:=hq_
 cases c with
 |true=>exact⟨H1,I1,q1⟩
 |false=>exact hb wh ae s1 σ H1 Q I1 q1
theorem zD(ha:PT X a tA):PT X (.UnaryOp .Not a pos) (HS tA):=by
 intro ae s σ H Q I h;exact isTrue_not (ha ae s σ H (λc H1=>Q (!c) H1) I h)
def Gm(ta tb:TE):TE:=λσ H Q=>ta σ H λx H1=> ∃c,x=.bl c/\if c=true then tb σ H1 Q else Q (.bl false) H1
def Hw(ta tb:TE):TE:=λσ H Q=>ta σ H λx H1=> ∃c,x=.bl c/\if c=true then Q (.bl true) H1 else tb σ H1 Q
def Fv(ta:TE):TE:=λσ H Q=>ta σ H λx H1=> ∃c,x=.bl c/\Q (.bl (!c)) H1
theorem EF {op}{t:TE}(h:PE X a t):PE X (.BoolOp op [a] pos) t:=λae s σ H Q I hw=>BoolOp_one (h ae s σ H Q I hw)
theorem Dw(ha:PE X a ta)(hb:PE X (.BoolOp .And (b::rest) pos) tb):PE X (.BoolOp .And (a::b::rest) pos) (Gm ta tb):=by
 intro ae s σ H Q I h;refine BoolOp_and (bI (ha ae s σ H _ I h) λv s1 hq_=>?_)
 obtain⟨x,H1,I1,r1,q1⟩:=hq_
 obtain⟨c,rfl,q1⟩:=q1
 cases r1
 refine wpAny_truthy_bool ?_
 cases c with
 |true=>exact hb ae s1 σ H1 Q I1 q1
 |false=>exact⟨.bl false,H1,I1,rfl,q1⟩
theorem FV(ha:PE X a ta)(hb:PE X (.BoolOp .Or (b::rest) pos) tb):PE X (.BoolOp .Or (a::b::rest) pos) (Hw ta tb):=by
 intro ae s σ H Q I h;refine BoolOp_or (bI (ha ae s σ H _ I h) λv s1 hq_=>?_)
 obtain⟨x,H1,I1,r1,q1⟩:=hq_
 obtain⟨c,rfl,q1⟩:=q1
 cases r1
 refine wpAny_truthy_bool ?_
 cases c with
 |false=>exact hb ae s1 σ H1 Q I1 q1
 |true=>exact⟨.bl true,H1,I1,rfl,q1⟩
theorem Er(ha:PE X a ta):PE X (.UnaryOp .Not a pos) (Fv ta):=by
 intro ae s σ H Q I h;refine UnaryOp_ (bI (ha ae s σ H _ I h) λv s1 hq_=>?_)
 obtain⟨x,H1,I1,r1,q1⟩:=hq_
 obtain⟨c,rfl,q1⟩:=q1
 cases r1
 exact not_of (wpAny_truthy_bool ⟨.bl (!c),H1,I1,rfl,q1⟩)
def IT(t:TT)(ta tb:TE):TE:=λσ H Q=>t σ H λc H1=>if c=true then ta σ H1 Q else tb σ H1 Q
theorem AI {c:Expr}(hc:PT X c tA)(ha:PE X a ta)(hb:PE X b tb):PE X (.IfExp c a b pos) (IT tA ta tb):=by
 intro ae s σ H Q I h;refine wpAny_IfExp (bI (hc ae s σ H _ I h) λd s1 hq_=>?_)
 obtain⟨H1,I1,q1⟩:=hq_
 cases d with
 |true=>exact ha ae s1 σ H1 Q I1 q1
 |false=>exact hb ae s1 σ H1 Q I1 q1
end
def SqL(K:W.Frag)(H:Hp)(a:Addr)(xs:List V):Prop:=
 Rd H a (.lst xs)\/
  ∃(o:Obj) (its:Array Value) (n:Nat),K.lookup a=some o/\o.cls=.type "list"/\o.dict=none/\o.data=.seq its n/\its.size<=sizeLine/\Vals xs its.toList
def SqT(K:W.Frag)(H:Hp)(a:Addr)(xs:List V):Prop:=
 Rd H a (.tup xs)\/
  ∃(o:Obj) (its:Array Value) (n:Nat),K.lookup a=some o/\o.cls=.type "tuple"/\o.data=.seq its n/\its.size<=sizeLine/\Vals xs its.toList/\o.dict=none
def Ir:Value->Option V
 | .none=>some .non
 | .bool b=>some (.bl b)
 | .int i _=>some (.int i)
 | .str x _=>some (.str x)
 | .bytes b _=>some (.byt b)
 | .float b _=>some (.flt b)
 | .ref a=>some (.ref a)
 | .type n=>some (.ty n)
 |_=>none
theorem RelV.abs {x:V}{u:Value}(r:RelV x u):Ir u=some x:=by
 cases x with
 |non=>cases r;rfl
 |bl _=>cases r;rfl
 |int _=>obtain⟨t,rfl⟩:=r;rfl
 |str _=>obtain⟨t,rfl⟩:=r;rfl
 |byt _=>obtain⟨t,rfl⟩:=r;rfl
 |flt _=>obtain⟨t,rfl⟩:=r;rfl
 |ref _=>cases r;rfl
 |ty _=>cases r;rfl
theorem RelV.inj {x y:V}{u:Value}(r:RelV x u)(q:RelV y u):x=y:=Option.some.inj (r.abs.symm.trans q.abs)
theorem Vals.inj: ∀ {xs ys:List V} {us:List Value},Vals xs us->Vals ys us->xs=ys
 |_,_,_,.nil,.nil=>rfl
 |_,_,_,.cons r t,.cons r' t'=>by rw[r.inj r',Vals.inj t t']
section
variable {X:Cx}{ae:List (Addr×Obj)}{σ:St}{H:Hp}{s:Shared}{a:Addr}{xs ys:List V}
theorem SqL.of {K:W.Frag}(h:H a=some (.lst xs)):SqL K H a xs:=.inl (.inl h)
theorem SqT.of {K:W.Frag}(h:H a=some (.tup xs)):SqT K H a xs:=.inl (.inl h)
theorem Inv.list(I:Inv X ae σ H s)(h:SqL X.K H a xs): ∃its:List Value,Vals xs its/\PlainL s.heap a its.toArray/\xs.length<=sizeLine:=by
 rcases h with h|⟨o,its,n,hk,hc,hd,hs,hz,r⟩
 ·obtain⟨z,its,n,r,e⟩:=h.ok I.hok
  exact⟨its,r,⟨_,n,e,rfl,rfl,rfl⟩,z⟩
 ·refine⟨its.toList,r,⟨o,n,I.kIn a o hk,hc,hd,by simpa using hs⟩,?_⟩
  have e:=r.length
  simp only[Array.length_toList] at e;omega
theorem Inv.tuple(I:Inv X ae σ H s)(h:SqT X.K H a xs): ∃its:List Value,Vals xs its/\IsTup s.heap a its.toArray/\xs.length<=sizeLine:=by
 rcases h with h|⟨o,its,n,hk,hc,hs,hz,r,_⟩
 ·obtain⟨z,its,r,p,_⟩:=h.ok I.hok
  exact⟨its,r,p,z⟩
 ·refine⟨its.toList,r,⟨o,I.kIn a o hk,hc,n,by simpa using hs⟩,?_⟩
  have e:=r.length
  simp only[Array.length_toList] at e;omega
theorem Inv.tupleN(I:Inv X ae σ H s)(h:SqT X.K H a xs):(∃o,s.heap.get? a=some o/\o.cls=.type "tuple")/\ ∃o,s.heap.get? a=some o/\o.dict=none:=by
 rcases h with h|⟨o,its,n,hk,hc,hs,hz,r,hd⟩
 ·obtain⟨z,its,r,⟨ob,e,c,_⟩,o2,e2,d2⟩:=h.ok I.hok
  exact⟨⟨ob,e,c⟩,o2,e2,d2⟩
 ·exact⟨⟨o,I.kIn a o hk,hc⟩,o,I.kIn a o hk,hd⟩
theorem Inv.list_inj(I:Inv X ae σ H s)(h:SqL X.K H a xs)(h':SqL X.K H a ys):xs=ys:=by
 obtain⟨its,r,⟨o,n,e,_,_,d⟩,_⟩:=I.list h
 obtain⟨its',r',⟨o',n',e',_,_,d'⟩,_⟩:=I.list h'
 rw[e] at e';cases e';rw[d] at d';injection d' with d1 _
 have:its=its':=by simpa using congrArg Array.toList d1
 subst this;exact r.inj r'
theorem Inv.tuple_inj(I:Inv X ae σ H s)(h:SqT X.K H a xs)(h':SqT X.K H a ys):xs=ys:=by
 obtain⟨its,r,⟨o,e,_,n,d⟩,_⟩:=I.tuple h
 obtain⟨its',r',⟨o',e',_,n',d'⟩,_⟩:=I.tuple h'
 rw[e] at e';cases e';rw[d] at d';injection d' with d1 _
 have:its=its':=by simpa using congrArg Array.toList d1
 subst this;exact r.inj r'
end
abbrev Cx.wish(X:Cx)(E:Value->Shared->Prop):Cx:={X with xe:=E}
abbrev Cx.nox(X:Cx):Cx:=X.wish λ_ _=>False
theorem Cx.Ok.wish {X:Cx}(ok:X.Ok)(E:Value->Shared->Prop):(X.wish E).Ok:=
 ⟨ok.mod,ok.kind,ok.glob,ok.blt,ok.above,ok.inj,ok.has,ok.cab,ok.hd,ok.frames,ok.stk,ok.exf,ok.bs,ok.bsz,ok.noex,ok.exfs,ok.funs,ok.frf⟩
theorem Cx.Ok.unwish {X:Cx}{E:Value->Shared->Prop}(ok:(X.wish E).Ok):X.Ok:=
 ⟨ok.mod,ok.kind,ok.glob,ok.blt,ok.above,ok.inj,ok.has,ok.cab,ok.hd,ok.frames,ok.stk,ok.exf,ok.bs,ok.bsz,ok.noex,ok.exfs,ok.funs,ok.frf⟩
section
variable {X:Cx}{ae:List (Addr×Obj)}{σ:St}{H:Hp}{s:Shared}{E:Value->Shared->Prop}
theorem Inv.wish(I:Inv X ae σ H s)(E:Value->Shared->Prop):Inv (X.wish E) ae σ H s:=⟨I.ok.wish E,I.os,I.bare,I.base,I.loc,I.cell,I.free,I.freeC,I.pin,I.hok,I.len⟩
theorem Inv.unwish(I:Inv (X.wish E) ae σ H s):Inv X ae σ H s:=⟨I.ok.unwish,I.os,I.bare,I.base,I.loc,I.cell,I.free,I.freeC,I.pin,I.hok,I.len⟩
theorem SP.unwish {D:Ends}{f:Flow}{s':Shared}(h:SP (X.wish E) ae D f s'):SP X ae D f s':=by
 cases f with
 |next=>obtain⟨σ',H',I,q⟩:=h;exact⟨σ',H',I.unwish,q⟩
 |brk=>obtain⟨σ',H',I,q⟩:=h;exact⟨σ',H',I.unwish,q⟩
 |cont=>obtain⟨σ',H',I,q⟩:=h;exact⟨σ',H',I.unwish,q⟩
 |ret u=>obtain⟨v,σ',H',I,r,q⟩:=h;exact⟨v,σ',H',I.unwish,r,q⟩
theorem PSs.nox {st:List Stmt}{t:TS}(h:PSs X.nox st t):PSs X st t:=λae s σ H D I hw=>
 wpAny_mono (h ae s σ H D (I.wish _) hw) (λ_ _ q=>q.unwish) λ_ _ z=>False.elim z
end
section
variable {X:Cx}{st:Stmt}{rest:List Stmt}{t u:TS}{e:Expr}{te:TE}{pos:Pos}
def GU:TS:=λD σ H=>D.nx σ H
def HF(t u:TS):TS:=λD σ H=>t {D with nx:=u D} σ H
theorem BN:PSs X [] GU:=λ_ _ σ H _ I h=>wpAny_execs_nil ⟨σ,H,I,h⟩
theorem yq(h1:PS X st t)(h2:PSs X rest u):PSs X (st::rest) (HF t u):=by
 intro ae s σ H D I h;refine wpAny_execs_cons (bI (h1 ae s σ H {D with nx:=u D} I h) λf s1 q=>?_)
 cases f with
 |next=>
  obtain⟨σ',H',I',q⟩:=q
  exact h2 ae s1 σ' H' D I' q
 |ret v=>exact q
 |brk=>exact q
 |cont=>exact q
theorem BL(h1:PS X st t):PSs X [st] t:=by
 intro ae s σ H D I h;refine wpAny_execs_cons (bI (h1 ae s σ H D I h) λf s1 q=>?_)
 cases f with
 |next=>exact wpAny_execs_nil q
 |ret v=>exact q
 |brk=>exact q
 |cont=>exact q
def Fb:TS:=λD σ H=>D.bk σ H
theorem Ae:PS X (.Break pos) Fb:=λ_ _ σ H _ I h=>wpAny_Break ⟨σ,H,I,h⟩
theorem Inv.quiet {ae:List (Addr×Obj)}{σ:St}{H:Hp}{s:Shared}(I:Inv X ae σ H s):interactive X.env=false:=by simp[interactive,I.ok.kind]
def FF(te:TE):TS:=λD σ H=>te σ H λ_ H1=>D.nx σ H1
theorem Bo(he:PE X e te)(hs:swapsWith e none pos.line X.env=pure false:=by rfl):PS X (.Expr e pos) (FF te):=by
 intro ae s σ H D I h;exact wpAny_Expr_any (bI (he ae s σ H _ I h) λv s1 ⟨x,H1,I1,r1,q1⟩=>⟨σ,H1,I1,q1⟩) I.quiet hs
def Hf(te:TE):TS:=λD σ H=>te σ H D.rt
theorem zF(he:PE X e te):PS X (.Return (some e) pos) (Hf te):=by
 intro ae s σ H D I h;exact wpAny_Return_some (bI (he ae s σ H _ I h) λv s1 ⟨x,H1,I1,r1,q1⟩=>⟨x,σ,H1,I1,r1,q1⟩)
def HZ(c:TT)(t u:TS):TS:=λD σ H=>c σ H λb H1=>if b=true then t D σ H1 else u D σ H1
theorem Dc {c:Expr}{a b:List Stmt}{tc:TT}(hc:PT X c tc)(ha:PSs X a t)(hb:PSs X b u):PS X (.If c a b pos) (HZ tc t u):=by
 intro ae s σ H D I h;refine wpAny_If (bI (hc ae s σ H _ I h) λd s1 hq_=>?_)
 obtain⟨H1,I1,q1⟩:=hq_
 cases d with
 |true=>exact ha ae s1 σ H1 D I1 q1
 |false=>exact hb ae s1 σ H1 D I1 q1
end
abbrev TG:=V->St->Hp->(St->Hp->Prop)->Prop
abbrev xo:=List V->St->Hp->(St->Hp->Prop)->Prop
def PG(X:Cx)(target:Expr)(t:TG):Prop:=
 ∀(ae:List (Addr×Obj)) (s:Shared) (σ:St) (H:Hp) (v:V) (u:Value) (Q:St->Hp->Prop),Inv X ae σ H s->RelV v u->t v σ H Q->
  wpAny (model X.prog X.w) X.A (assign target X.env u) (λ_ s'=> ∃σ' H',Inv X ae σ' H' s'/\Q σ' H') X.xe s
def PGs(X:Cx)(ts:List Expr)(t:xo):Prop:=
 ∀(ae:List (Addr×Obj)) (s:Shared) (σ:St) (H:Hp) (vs:List V) (us:List Value) (Q:St->Hp->Prop),Inv X ae σ H s->Vals vs us->t vs σ H Q->
  wpAny (model X.prog X.w) X.A (assignInOrder ((assignEach ts X.env).map (·.2)) us) (λ_ s'=> ∃σ' H',Inv X ae σ' H' s'/\Q σ' H') X.xe s
abbrev D4:=V->V->V->Hp->(Hp->Prop)->Prop
def Gg(X:Cx)(t:D4):Prop:=
 ∀(ae:List (Addr×Obj)) (s:Shared) (σ:St) (H:Hp) (o i v:V) (ov iv u:Value) (Q:Hp->Prop),Inv X ae σ H s->RelV o ov->RelV i iv->RelV v u->t o i v H Q->
  wpAny (model X.prog X.w) X.A (setItem ov iv u) (λ_ s'=> ∃H',Inv X ae σ H' s'/\Q H') X.xe s
abbrev G3:=V->V->Hp->VK->Prop
def Hl(X:Cx)(op:Operator)(t:G3):Prop:=
 ∀(ae:List (Addr×Obj)) (s:Shared) (σ:St) (H:Hp) (x y:V) (v u:Value) (Q:VK),Inv X ae σ H s->RelV x v->RelV y u->t x y H Q->
  wpAny (model X.prog X.w) X.A (inplaceOp op v u) (EP X ae σ Q) X.xe s
section
variable {X:Cx}{pos:Pos}
def vG(i:Nat):TG:=λv σ H Q=>Q (σ.set i (some v)) H
theorem CY {i:Nat}{x:Str}(hN:X.N.Nodup)(hi:X.N[i]? =some x)(hx:yc X.env.scope x)(hf:X.fn x=true\/X.env.scope.names.lookup x=some .local:=by first|exact .inl rfl|exact .inr rfl|assumption):PG X (.Name x pos) (vG i):=by
 intro ae s σ H v u Q I r h;exact wpAny_assign_Name (nV I hN hi hx r (λs' I'=>⟨_,H,I',h⟩) hf)
def HU:xo:=λvs σ H Q=>vs=[]/\Q σ H
def Fq(t:TG)(u:xo):xo:=λvs σ H Q=> ∃v r,vs=v::r/\t v σ H λσ' H'=>u r σ' H' Q
theorem vV:PGs X [] HU:=by
 intro ae s σ H vs us Q I r h;obtain⟨e,h⟩:=h
 subst e;cases r
 exact assignInOrder_nil ⟨σ,H,I,h⟩
theorem tR {e:Expr}{es:List Expr}{t:TG}{u:xo}(h1:PG X e t)(h2:PGs X es u)
 (hs:(assignEach (e::es) X.env).map (·.2)=assign e X.env::(assignEach es X.env).map (·.2):=by rfl):PGs X (e::es) (Fq t u):=by
 intro ae s σ H vs us Q I r h;obtain⟨v,vr,e1,h⟩:=h
 subst e1;cases r with
 |cons r rr=>
  rw[hs];refine assignInOrder_cons (bI (h1 ae s σ H _ _ _ I r h) λ_ s1 hq_=>?_)
  obtain⟨σ1,H1,I1,q1⟩:=hq_
  exact h2 ae s1 σ1 H1 _ _ Q I1 rr q1
def HD(K:W.Frag)(n:Nat)(t:xo):TG:=λv σ H Q=> ∃a xs,v=.ref a/\SqT K H a xs/\xs.length=n/\t xs σ H Q
theorem zt {es:List Expr}{k:Nat}{t:xo}{n:Nat}(hc:X.calm=true)(h:PGs X es t)
 (hn:(assignEach es X.env).length=n:=by rfl) (hst:(assignEach es X.env).findIdx? (·.1)=none:=by rfl):PG X (.Tuple es k pos) (HD X.K n t):=by
 intro ae s σ H v u Q I r hw;obtain⟨a,xs,e1,hq,hl,hw⟩:=hw
 subst e1;cases r
 obtain⟨its,rv,ht,hz⟩:=I.tuple hq
 refine assign_Tuple_tuple (I.ok.hd hc) ht (by simp[hn,<-hl,rv.length]) hst λh' hx=>?_
 have I1:Inv X ae σ H {s with heap:=h'}:=I.kept (t':=s.toks) λb o e=>hx b o (Nat.ne_of_lt (Heap.lt_size e)) e
 exact h ae _ σ H xs _ Q I1 (by simpa using rv) hw
def HN(to ti:TE)(t:D4):TG:=λv σ H Q=>to σ H λo H1=>ti σ H1 λi H2=>t o i v H2 λH3=>Q σ H3
theorem Dp {o i:Expr}{to ti:TE}{t:D4}(ho:PE X o to)(hi:PE X i ti)(hs:Gg X t)
 (ha: ∀v,assign (.Subscript o i pos) X.env v=(do
   let ov <-holding [v] (eval o X.env)
   let iv <-holding [v,ov] (eval i X.env)
   standAt pos
   holding [v,ov,iv] (setItem ov iv v)
   release [v,ov,iv] []):=by intro _;rfl):PG X (.Subscript o i pos) (HN to ti t):=by
 intro ae s σ H v u Q I r h;rw[ha];refine wpAny_bind (wpAny_holding (bI (ho ae s σ H _ I h) λov s1 hq_=>?_))
 obtain⟨x,H1,I1,r1,q1⟩:=hq_
 refine wpAny_bind (wpAny_holding (bI (hi ae s1 σ H1 _ I1 q1) λiv s2 hq_=>?_))
 obtain⟨y,H2,I2,r2,q2⟩:=hq_
 refine wpAny_bind (wpAny_standAt (wpAny_bind (wpAny_holding (bI (hs ae s2 σ H2 x y v ov iv u _ I2 r1 r2 r q2) λ_ s3 hq_=>?_))))
 obtain⟨H3,I3,q3⟩:=hq_
 exact wpAny_release ⟨σ,H3,I3,q3⟩
def BQ(te:TE)(g:TG):TS:=λD σ H=>te σ H λx H1=>g x σ H1 D.nx
theorem AH {tg e:Expr}{te:TE}{g:TG}(he:PE X e te)(hg:PG X tg g)(hs:swapsWithSole [tg] e pos.line X.env=pure false:=by rfl)(hw:swappedStores [tg] e X.env=pure none:=by rfl)
 (h1:(assignEach [tg] X.env).map (·.2)=[assign tg X.env]:=by rfl):PS X (.Assign [tg] e pos) (BQ te g):=by
 intro ae s σ H D I h;refine wpAny_Assign_stores (bI (he ae s σ H _ I h) λv s1 ⟨x,H1,I1,r1,q1⟩=>?_) hs hw
 rw[h1];exact bI (hg ae s1 σ H1 x v _ I1 r1 q1) λ_ s2 q=>q
theorem oC {i:Nat}{x:Str}{e:Expr}{te:TE}{pos':Pos}(hN:X.N.Nodup)(hi:X.N[i]? =some x)(hx:yc X.env.scope x)(he:PE X e te)(hs:swapsWith e (some (.Name x pos')) pos.line X.env=pure false:=by rfl)(hf:X.fn x=true\/X.env.scope.names.lookup x=some .local:=by first|exact .inl rfl|exact .inr rfl|assumption):
 PS X (.Assign [.Name x pos'] e pos) (BQ te (vG i)):=by
 intro ae s σ H D I h;refine wpAny_Assign_Name (bI (he ae s σ H _ I h) λv s1 ⟨y,H1,I1,r1,q1⟩=>?_) hs
 exact nV I1 hN hi hx r1 (λs2 I2=>⟨_,H1,I2,q1⟩) hf
def Iq(i:Nat)(te:TE)(ti:G3):TS:=λD σ H=> ∃x,σ[i]? =some (some x)/\te σ H λy H1=>ti x y H1 λz H2=>D.nx (σ.set i (some z)) H2
theorem Fg {i:Nat}{x:Str}{e:Expr}{te:TE}{op:Operator}{ti:G3}{pos':Pos}(hN:X.N.Nodup)(hi:X.N[i]? =some x)(hx:yc X.env.scope x)(he:PE X e te)(ho:Hl X op ti)(hf:X.fn x=true\/X.env.scope.names.lookup x=some .local:=by first|exact .inl rfl|exact .inr rfl|assumption):
 PS X (.AugAssign (.Name x pos') op e pos) (Iq i te ti):=by
 intro ae s σ H D I h;obtain⟨v,e1,h⟩:=h
 obtain⟨m,hn,hl⟩:=I.loc
 have vis:qI X.env.scope x:=by rcases hx with k|k;exact .inl k;exact .inr (.inl k)
 obtain⟨u,r,l⟩:=hl i x v hi e1 vis
 refine wpAny_AugAssign_Name ?_
 have go:wpAny (model X.prog X.w) X.A (eval e X.env) (λw s₂=>wpAny (model X.prog X.w) X.A (inplaceOp op u w) (λr s₃=>wpAny (model X.prog X.w) X.A (storeName X.env x r) (λ_=>SP X ae D .next) X.xe s₃) X.xe s₂) X.xe s:=by
  refine bI (he ae s σ H _ I h) λw s1 hq_=>?_
  obtain⟨y,H1,I1,r1,q1⟩:=hq_
  refine bI (ho ae s1 σ H1 v y u w _ I1 r r1 q1) λz s2 hq_=>?_
  obtain⟨zv,H2,I2,r2,q2⟩:=hq_
  exact nV I2 hN hi hx r2 (λs3 I3=>⟨_,H2,I3,q2⟩) hf
 rcases l with⟨hk,hm⟩|⟨hk,c,hc,hcell⟩
 ·exact wpAny_loadName_local I.ok.kind hk hn hm go
 ·rcases hk with hk|hk
  ·exact wpAny_loadName_cell I.ok.kind hk hc hcell go
  ·rcases hx with k|k
   ·have:X.env.scope.names.lookup x=some .free:=hk
    rw[k] at this;cases this
   ·have:X.env.scope.names.lookup x=some .free:=hk
    rw[k] at this;cases this
def Iu(f:Int->Int->Int):G3:=λx y H Q=> ∃i j,x=.int i/\y=.int j/\Q (.int (f i j)) H
theorem EJ:Hl X .Add (Iu λi j=>i+j):=by
 intro ae s σ H x y v u Q I r1 r2 h;obtain⟨i,j,e1,e2,q⟩:=h
 subst e1;subst e2;obtain⟨t,rfl⟩:=r1
 obtain⟨t',rfl⟩:=r2
 exact iadd_int ⟨.int _,H,I.tok _,⟨_,rfl⟩,q⟩
end
section
variable {X:Cx}{pos:Pos}
def Eo(c:TT)(tb:TS):TS:=λD σ H=> ∃W:Nat->St->Hp->Prop,(∃m,W m σ H)/\ ∀m σ H,W m σ H->
 c σ H λb H1=>if b=true then∃N:St->Hp->Prop,(∀σ' H',N σ' H'-> ∃m',m'<m/\W m' σ' H')/\tb {D with nx:=N,ct:=N,bk:=D.nx} σ H1 else D.nx σ H1
theorem Ac {c:Expr}{body:List Stmt}{tc:TT}{tb:TS}(hp:PassesOwn (model X.prog X.w) X.A X.env X.xe)(hc:PT X c tc)(hb:PSs X body tb):PS X (.While c body [] pos) (Eo tc tb):=by
 intro ae s σ H D I h;obtain⟨W,⟨m0,w0⟩,turn⟩:=h
 refine wpAny_While (codeAny_whileLoop (λn s'=> ∃σ' H',Inv X ae σ' H' s'/\W n σ' H') ?_ m0 ⟨σ,H,I,w0⟩)
 rintro n s1 ⟨σ1,H1,I1,w1⟩
 refine wpAny_passesOwn hp (bI (hc ae s1 σ1 H1 _ I1 (turn n σ1 H1 w1)) λb s2 hq_=>?_)
 obtain⟨H2,I2,q2⟩:=hq_
 cases b with
 |true=>
  obtain⟨N,hN,q2⟩:=q2
  rw[if_pos rfl];refine wpAny_passesOwn hp (bI (hb ae s2 σ1 H2 _ I2 q2) λf s3 q3=>?_)
  cases f with
  |next=>
   obtain⟨σ3,H3,I3,n3⟩:=q3
   obtain⟨m',hm,w3⟩:=hN σ3 H3 n3
   exact⟨m',hm,σ3,H3,I3,w3⟩
  |cont=>
   obtain⟨σ3,H3,I3,n3⟩:=q3
   obtain⟨m',hm,w3⟩:=hN σ3 H3 n3
   exact⟨m',hm,σ3,H3,I3,w3⟩
  |brk=>exact q3
  |ret v=>exact q3
 |false=>
  rw[if_neg Bool.false_ne_true];exact wpAny_execs_nil ⟨σ1,H2,I2,q2⟩
end
structure It where
 go:Nat->Hp->Prop
 yld:Nat->Hp->V->Hp->Prop
 stop:Nat->Hp->Prop
def iY(X:Cx)(ae:List (Addr×Obj))(H:Hp)(b:Addr):Prop:=
 H b=none/\b≠X.env.locals/\b∉X.fs/\(b∈X.ex\/X.s₀.heap.objs.size<=b)/\(∀x c,X.env.cells.lookup x=some c->c≠b)/\ ∀p∈X.pn++ae,p.1≠b
theorem Inv.fpOk {X:Cx}{ae:List (Addr×Obj)}{σ:St}{H H':Hp}{s:Shared}{b:Addr}(I:Inv X ae σ H s)(hb:s.heap.objs.size<=b)(hn:H' b=none):iY X ae H' b:=by
 refine⟨hn,Nat.ne_of_gt (Nat.lt_of_lt_of_le I.lt hb),I.nofs hb,.inr (Nat.le_trans I.sz hb),λx c e z=>?_,λp hp z=>?_⟩
 ·obtain⟨v,q⟩:=I.cell x c e
  exact absurd (Nat.lt_of_lt_of_le q.lt (by rw[z];exact hb)) (Nat.lt_irrefl _)
 ·exact absurd (Nat.lt_of_lt_of_le (Heap.lt_size (I.pin p hp).1) (by rw[z];exact hb)) (Nat.lt_irrefl _)
structure Turn(P:Program)(w:World)(K:W.Frag)(tg:Expr)(J:It)(fp:List Addr)(it:Addr)(tn:Nat->Heap->Prop):Prop where
 mem:it∈fp
 obj: ∀i h,tn i h-> ∀b∈fp,∃o,h.get? b=some o/\ ∀v,o.data≠ .cell v
 keep: ∀i h h',tn i h->(∀b∈fp,∀o,h.get? b=some o->h'.get? b=some o)->tn i h'
 item: ∀(X:Cx),X.prog=P->X.w=w->X.K=K->X.calm=true-> ∀(i:Nat) (ae:List (Addr×Obj)) (s:Shared) (σ:St) (H:Hp) (E:Value->Shared->Prop),Inv X ae σ H s->(∀b∈fp,iY X ae H b)->tn i s.heap->J.go i H->
  wpAny (model P w) X.A (pyNext (.ref it)) (λr s1=> ∃u,r=some u/\
   wpAny (model P w) X.A (letOwnedTupleGo tg (.ref it) u) (λ_ s2=> ∃x H',Inv X ae σ H' s2/\RelV x u/\J.yld i H x H'/\tn (i+1) s2.heap/\ ∀b∈fp,H' b=none) E s1) E s
 done: ∀(X:Cx),X.prog=P->X.w=w->X.K=K->X.calm=true-> ∀(i:Nat) (ae:List (Addr×Obj)) (s:Shared) (σ:St) (H:Hp) (E:Value->Shared->Prop),Inv X ae σ H s->(∀b∈fp,iY X ae H b)->tn i s.heap->J.stop i H->
  wpAny (model P w) X.A (pyNext (.ref it)) (λr s1=>r=none/\Inv X ae σ H s1) E s
 self: ∀(A:Around) (i:Nat) (s:Shared) (Q:Value->Shared->Prop) (E:Value->Shared->Prop),tn i s.heap->Q (.ref it) s->wpAny (model P w) A (pyIter (.ref it)) Q E s
abbrev TI:=St->Hp->(It->Hp->Prop)->Prop
def Ix(X:Cx)(ae:List (Addr×Obj))(σ:St)(tg:Expr)(R:It->Hp->Prop)(itv:Value)(s2:Shared):Prop:=
 ∃(it:Addr) (fp:List Addr) (tn:Nat->Heap->Prop) (J:It) (H':Hp),itv=.ref it/\Inv X ae σ H' s2/\Turn X.prog X.w X.K tg J fp it tn/\tn 0 s2.heap/\(∀b∈fp,iY X ae H' b)/\R J H'
def PI(X:Cx)(tg iter:Expr)(wi:TI):Prop:=
 ∀(ae:List (Addr×Obj)) (s:Shared) (σ:St) (H:Hp) (R:It->Hp->Prop),Inv X ae σ H s->wi σ H R->
  wpAny (model X.prog X.w) X.A (eval iter X.env) (λv s1=>wpAny (model X.prog X.w) X.A (pyIter v) (Ix X ae σ tg R) X.xe s1) X.xe s
theorem vF {M:Model}{A:Around}{E:Value->Shared->Prop}{s:Shared}{tg:Expr}{it:Addr}{u:Value}{o:Obj}{n:String}{vs:Array Value}{Q:Unit->Shared->Prop}(ho:s.heap.get? it=some o)(hc:o.cls=.type n)(hd:o.data=.fields vs)
 (hn:["enumerate","zip","dict_itemiterator","dict_reverseitemiterator","odict_iterator","itertools.zip_longest","itertools.pairwise"].contains n=false) (hQ:Q () s):wpAny M A (letOwnedTupleGo tg (.ref it) u) Q E s:=by
 unfold letOwnedTupleGo;cases tg<;>first
  |exact wpAny_pure hQ
  |(cases u<;>first
     |exact wpAny_pure hQ
     |(refine wpAny_bind (wpAny_load ho ?_)
       rw[hc,hd];show wpAny M A (if(["enumerate","zip","dict_itemiterator","dict_reverseitemiterator","odict_iterator","itertools.zip_longest","itertools.pairwise"].contains n&&vs[0]? ==some (rawInt _))=true then _ else _) Q E s
       rw[if_neg (by intro h;rw[hn,Bool.false_and] at h;cases h)]
       exact wpAny_pure hQ))
def Hz(K:W.Frag)(a:Addr):It:=
 ⟨λi H=> ∃xs x,SqL K H a xs/\xs[i]? =some x,λi H x H'=>H'=H/\ ∀xs,SqL K H a xs->xs[i]? =some x,λi H=> ∃xs,SqL K H a xs/\xs.length<=i⟩
def Hv(K:W.Frag)(a:Addr):It:=
 ⟨λi H=> ∃xs x,SqT K H a xs/\xs[i]? =some x,λi H x H'=>H'=H/\ ∀xs,SqT K H a xs->xs[i]? =some x,λi H=> ∃xs,SqT K H a xs/\xs.length<=i⟩
def FD(lo:Int)(n:Nat):It:=⟨λi _=>i<n,λi H x H'=>H'=H/\x=.int (lo+i),λi _=>n<=i⟩
theorem wS {P:Program}{w:World}{K:W.Frag}{tg:Expr}(a it:Addr):Turn P w K tg (Hz K a) [it] it (λi h=>h.IsListIter it a i) where
 mem:=by simp
 obj:=λi h st b hb=>by
  have e:b=it:=by simpa using hb
  subst e;obtain⟨o,e,c,d⟩:=st
  exact⟨o,e,λv z=>by rw[d] at z;cases z⟩
 keep:=λi h h' st k=>st.at λo e=>k it (by simp) o e
 item:=by
  intro X hP hw hK hc i ae s σ H E I hf st hg;subst hP hw hK;obtain⟨xs,x,hq,hx⟩:=hg
  obtain⟨its,rv,p,hz⟩:=I.list hq
  obtain⟨u,hu,ru⟩:=rv.get hx
  obtain⟨f0,f1,f2,f3,f4,f5⟩:=hf it (by simp)
  refine wpAny_pyNext_list_item st p.isList (x:=u) (by simpa using hu) λh' st' sb=>?_
  have I1:Inv X ae σ H {s with heap:=h'}:=I.turned (t':=s.toks) (λb o hb e=>(sb.2 b hb).trans e) f0 f1 f3 f4 f5
  obtain⟨o,e,c,d⟩:=id st'
  exact⟨u,rfl,vF (s:={s with heap:=h'}) e c d (by decide) ⟨x,H,I1,ru,⟨rfl,λys hy=>by rw[I.list_inj hy hq];exact hx⟩,st',λb hb=>(hf b hb).1⟩⟩
 done:=by
  intro X hP hw hK hc i ae s σ H E I hf st hg;subst hP hw hK;obtain⟨xs,hq,hx⟩:=hg
  obtain⟨its,rv,p,hz⟩:=I.list hq
  obtain⟨f0,f1,f2,f3,f4,f5⟩:=hf it (by simp)
  have hl:=rv.length
  exact wpAny_pyNext_list_end (I.ok.hd hc) st p.isList (by simp;omega) λh' eb=>⟨rfl,I.turned (t':=s.toks) (λb o hb e=>eb b o hb e) f0 f1 f3 f4 f5⟩
 self:=λ_ _ _ _ _ st h=>wpAny_pyIter_listiter st h
theorem uT {P:Program}{w:World}{K:W.Frag}{tg:Expr}(a it:Addr):Turn P w K tg (Hv K a) [it] it (λi h=>h.IsTupleIter it a i) where
 mem:=by simp
 obj:=λi h st b hb=>by
  have e:b=it:=by simpa using hb
  subst e;obtain⟨o,e,c,d⟩:=st
  exact⟨o,e,λv z=>by rw[d] at z;cases z⟩
 keep:=λi h h' st k=>st.at λo e=>k it (by simp) o e
 item:=by
  intro X hP hw hK hc i ae s σ H E I hf st hg;subst hP hw hK;obtain⟨xs,x,hq,hx⟩:=hg
  obtain⟨its,rv,p,hz⟩:=I.tuple hq
  obtain⟨u,hu,ru⟩:=rv.get hx
  obtain⟨f0,f1,f2,f3,f4,f5⟩:=hf it (by simp)
  refine wpAny_pyNext_tuple_item st (show s.heap.IsTuple a its.toArray from p) (x:=u) (by simpa using hu) λh' st' sb=>?_
  have I1:Inv X ae σ H {s with heap:=h'}:=I.turned (t':=s.toks) (λb o hb e=>(sb.2 b hb).trans e) f0 f1 f3 f4 f5
  obtain⟨o,e,c,d⟩:=id st'
  exact⟨u,rfl,vF (s:={s with heap:=h'}) e c d (by decide) ⟨x,H,I1,ru,⟨rfl,λys hy=>by rw[I.tuple_inj hy hq];exact hx⟩,st',λb hb=>(hf b hb).1⟩⟩
 done:=by
  intro X hP hw hK hc i ae s σ H E I hf st hg;subst hP hw hK;obtain⟨xs,hq,hx⟩:=hg
  obtain⟨its,rv,p,hz⟩:=I.tuple hq
  obtain⟨f0,f1,f2,f3,f4,f5⟩:=hf it (by simp)
  have hl:=rv.length
  exact wpAny_pyNext_tuple_end (I.ok.hd hc) st (show s.heap.IsTuple a its.toArray from p) (by simp;omega) λh' eb=>⟨rfl,I.turned (t':=s.toks) (λb o hb e=>eb b o hb e) f0 f1 f3 f4 f5⟩
 self:=λ_ _ _ _ _ st h=>wpAny_pyIter_tupleiter st h
theorem vb {P:Program}{w:World}{K:W.Frag}{tg:Expr}(it:Addr)(lo:Int)(n:Nat):Turn P w K tg (FD lo n) [it] it (λi h=>IsRangeIter h it (lo+(i:Nat)*1) ((n:Int) - (i:Nat)) 1) where
 mem:=by simp
 obj:=λi h st b hb=>by
  have e:b=it:=by simpa using hb
  subst e;exact⟨_,st,λv z=>by
   have z':Data.fields _=Data.cell v:=z
   cases z'⟩
 keep:=λi h h' st k=>k it (by simp) _ st
 item:=by
  intro X hP hw hK hc i ae s σ H E I hf st hg;subst hP hw hK;obtain⟨f0,f1,f2,f3,f4,f5⟩:=hf it (by simp)
  have W:=Walks.range (prog:=X.prog) (w:=X.w) (I.ok.hd hc) it lo 1 n
  refine W.item i s _ _ hg st λv h' tk hv st' kk=>?_
  obtain⟨t,rfl⟩:=hv
  have I1:Inv X ae σ H {s with heap:=h',toks:=tk}:=I.turned (λb o hb e=>kk b o (by simpa using hb) e) f0 f1 f3 f4 f5
  refine⟨_,rfl,vF (s:={s with heap:=h',toks:=tk}) (n:="range_iterator") st' rfl rfl (by decide) ⟨.int (lo+i),H,I1,⟨t,?_⟩,⟨rfl,rfl⟩,st',λb hb=>(hf b hb).1⟩⟩
  rw[Int.mul_one]
 done:=by
  intro X hP hw hK hc i ae s σ H E I hf st hg;subst hP hw hK;obtain⟨f0,f1,f2,f3,f4,f5⟩:=hf it (by simp)
  exact wpAny_pyNext_range_end (I.ok.hd hc) st (by have:n<=i:=hg;omega) λh' eb=>⟨rfl,I.turned (t':=s.toks) (λb o hb e=>eb b o hb e) f0 f1 f3 f4 f5⟩
 self:=λ_ _ _ _ _ st h=>wpAny_pyIter_rangeiter st h
section
variable {X:Cx}{tg:Expr}
def Fp(K:W.Frag)(tl:TE):TI:=λσ H R=>tl σ H λx H1=> ∃a,x=.ref a/\(∃xs,SqL K H1 a xs)/\R (Hz K a) H1
def Ii(K:W.Frag)(tl:TE):TI:=λσ H R=>tl σ H λx H1=> ∃a,x=.ref a/\(∃xs,SqT K H1 a xs)/\R (Hv K a) H1
theorem qk {l:Expr}{tl:TE}(hl:PE X l tl):PI X tg l (Fp X.K tl):=by
 intro ae s σ H R I h;refine bI (hl ae s σ H _ I h) λv s1 hq_=>?_
 obtain⟨x,H1,I1,r1,q1⟩:=hq_
 obtain⟨a,e,⟨xs,hq⟩,q⟩:=q1
 subst e;cases r1
 obtain⟨its,rv,p,hz⟩:=I1.list hq
 refine wpAny_pyIter_list p.isList ?_
 refine⟨s1.heap.objs.size,[s1.heap.objs.size],_,_,H1,rfl,I1.kept (t':=s1.toks) λb o e=>Heap.get?_push_of_some _ e,wS a _,⟨_,Heap.get?_push_size _ rfl,rfl,rfl⟩,λb hb=>?_,q⟩
 have e:b=s1.heap.objs.size:=by simpa using hb
 subst e;exact I1.fpOk (Nat.le_refl _) (I1.hok.fresh (Nat.le_refl _))
theorem EV {l:Expr}{tl:TE}(hl:PE X l tl):PI X tg l (Ii X.K tl):=by
 intro ae s σ H R I h;refine bI (hl ae s σ H _ I h) λv s1 hq_=>?_
 obtain⟨x,H1,I1,r1,q1⟩:=hq_
 obtain⟨a,e,⟨xs,hq⟩,q⟩:=q1
 subst e;cases r1
 obtain⟨its,rv,p,hz⟩:=I1.tuple hq
 refine wpAny_pyIter_tuple (show s1.heap.IsTuple a its.toArray from p) ?_
 refine⟨s1.heap.objs.size,[s1.heap.objs.size],_,_,H1,rfl,I1.kept (t':=s1.toks) λb o e=>Heap.get?_push_of_some _ e,uT a _,⟨_,Heap.get?_push_size _ rfl,rfl,rfl⟩,λb hb=>?_,q⟩
 have e:b=s1.heap.objs.size:=by simpa using hb
 subst e;exact I1.fpOk (Nat.le_refl _) (I1.hok.fresh (Nat.le_refl _))
theorem rX {ae:List (Addr×Obj)}{σ:St}{H:Hp}{s:Shared}{R:It->Hp->Prop}{E:Value->Shared->Prop}{lo hi:Int}{t u v:Tok}{tk:Nat}(I:Inv X ae σ H s)(h1: -(2^62)<=lo)(h2:lo<2^62)(h3: -(2^62)<=hi)(h4:hi<2^62)
 (q:R (FD lo (hi-lo).toNat) H):wpAny (model X.prog X.w) X.A (pyIter (.ref s.heap.objs.size)) (Ix X ae σ tg R) E {s with heap:=s.heap.push {cls:=.type "range",data:=.fields #[.int lo t,.int hi u,.int 1 v]},toks:=tk}:=by
 refine wpAny_pyIter_range (IsRange.new ..) (small_one h1 h2 h3 h4) ?_
 have I1:Inv X ae σ H {s with heap:=s.heap.push {cls:=.type "range",data:=.fields #[.int lo t,.int hi u,.int 1 v]},toks:=tk}:=I.kept λb o e=>Heap.get?_push_of_some _ e
 refine⟨(s.heap.push {cls:=.type "range",data:=.fields #[.int lo t,.int hi u,.int 1 v]}).objs.size,[(s.heap.push {cls:=.type "range",data:=.fields #[.int lo t,.int hi u,.int 1 v]}).objs.size],_,_,H,rfl,
  I1.kept (t':=tk) λb o e=>Heap.get?_push_of_some _ e,vb _ lo (hi-lo).toNat,?_,λb hb=>?_,q⟩
 ·have e1:lo+((0:Nat):Int)*1=lo:=by simp
  have e2:(((hi-lo).toNat:Nat):Int) - ((0:Nat):Int)=Builtin.Range.rangeSize lo hi 1:=by rw[rangeSize_one];split<;>omega
  show IsRangeIter _ _ (lo+((0:Nat):Int)*1) ((((hi-lo).toNat:Nat):Int) - ((0:Nat):Int)) 1;rw[e1,e2];exact Heap.get?_push_size _ rfl
 ·have e:b=(s.heap.push {cls:=.type "range",data:=.fields #[.int lo t,.int hi u,.int 1 v]}).objs.size:=by simpa using hb
  subst e;exact I1.fpOk (Nat.le_refl _) (I1.hok.fresh (Nat.le_refl _))
def FL(ta:TA):TI:=λσ H R=>ta σ H λvs H1=> ∃j:Int,vs=[.int j]/\ -(2^62)<=j/\j<2^62/\R (FD 0 j.toNat) H1
def G0(ta:TA):TI:=λσ H R=>ta σ H λvs H1=> ∃i j:Int,vs=[.int i,.int j]/\(-(2^62)<=i/\i<2^62/\ -(2^62)<=j/\j<2^62)/\R (FD i (j-i).toNat) H1
theorem qb {a:Expr}{ta:TA}{p pos:Pos}(hg:Gl X "range")(hm:X.mg "range"=none)(ha:PA X [a] ta)(hs:starEach [a] X.env=[(false,eval a X.env)]:=by rfl):PI X tg (.Call (.Name "range" p) [a] [] pos) (FL ta):=by
 intro ae s σ H R I h;refine Call_ (mf I hg hm boot_range (PyProof.Rows.callWith_type1 (bI (ha pos ae s σ H _ I h) λus s1 ⟨vs,H1,I1,r1,q1⟩=>?_) hs rfl))
 obtain⟨j,e,q1,q2,q⟩:=q1
 subst e;cases r1 with
 |cons r rr=>
  cases rr
  obtain⟨t,rfl⟩:=r
  exact call_range_1 (rX I1 (by omega) (by omega) q1 q2 (by simpa using q))
theorem xQ {a b:Expr}{ta:TA}{p pos:Pos}(hg:Gl X "range")(hm:X.mg "range"=none)(ha:PA X [a,b] ta)(hs:starEach [a,b] X.env=[(false,eval a X.env),(false,eval b X.env)]:=by rfl)(hs2:starEach [b] X.env=[(false,eval b X.env)]:=by rfl):
 PI X tg (.Call (.Name "range" p) [a,b] [] pos) (G0 ta):=by
 intro ae s σ H R I h;refine Call_ (mf I hg hm boot_range (PyProof.Rows.callWith_type1 (bI (ha pos ae s σ H _ I h) λus s1 ⟨vs,H1,I1,r1,q1⟩=>?_) (by rw[hs,hs2]) (by rw[hs2];rfl)))
 obtain⟨i,j,e,⟨q1,q2,q3,q4⟩,q⟩:=q1
 subst e;cases r1 with
 |cons r rr=>
  cases rr with
  |cons r' rr=>
   cases rr
   obtain⟨t,rfl⟩:=r
   obtain⟨t',rfl⟩:=r'
   exact call_range_2 (rX I1 q1 q2 q3 q4 q)
def HJ(wi:TI)(g:TG)(tb:TS):TS:=λD σ H=>wi σ H λJ H1=> ∃W:Nat->Nat->St->Hp->Prop,(∃m,W 0 m σ H1)/\ ∀i m σ H,W i m σ H->
 (J.stop i H/\D.nx σ H)\/(J.go i H/\ ∃N:St->Hp->Prop,(∀σ' H',N σ' H'-> ∃m',m'<m/\W (i+1) m' σ' H')/\ ∀x H',J.yld i H x H'->g x σ H' λσ2 H2=>tb {D with nx:=N,ct:=N,bk:=D.nx} σ2 H2)
def ku(fp:List Addr)(h:Heap):List (Addr×Obj):=fp.filterMap λb=>(h.get? b).map λo=>(b,o)
theorem dh {fp:List Addr}{h:Heap}{b:Addr}{o:Obj}(hb:b∈fp)(e:h.get? b=some o):(b,o)∈ku fp h:=List.mem_filterMap.mpr ⟨b,hb,by rw[e];rfl⟩
theorem xZ {fp:List Addr}{h:Heap}{p:Addr×Obj}(hp:p∈ku fp h):p.1∈fp/\h.get? p.1=some p.2:=by
 obtain⟨b,hb,e⟩:=List.mem_filterMap.mp hp
 cases q:h.get? b with
 |none=>rw[q] at e;cases e
 |some o=>
  rw[q] at e;have e':(b,o)=p:=Option.some.inj e
  subst e';exact⟨hb,q⟩
theorem Inv.pinned {ae:List (Addr×Obj)}{σ:St}{H:Hp}{s:Shared}{fp:List Addr}(I:Inv X ae σ H s)(hf: ∀b∈fp,iY X ae H b)(ho: ∀b∈fp,∃o,s.heap.get? b=some o/\ ∀v,o.data≠ .cell v):Inv X (ae++ku fp s.heap) σ H s:=
 I.pins_of λp hp=>(List.mem_append.mp hp).elim (λz=>I.pin p (List.mem_append_right _ z)) λz=>by
  obtain⟨hb,e⟩:=xZ z
  obtain⟨f0,f1,f2,_⟩:=hf p.1 hb
  obtain⟨o,e',d⟩:=ho p.1 hb
  rw[e] at e';cases e';exact⟨e,f0,f1,f2,d⟩
theorem Inv.unpinned {ae pl:List (Addr×Obj)}{σ:St}{H:Hp}{s:Shared}(I:Inv X (ae++pl) σ H s):Inv X ae σ H s:=I.pins_of λp hp=>I.pin p (List.mem_append_right _ (List.mem_append_left _ hp))
theorem Dv {iter:Expr}{body:List Stmt}{wi:TI}{g:TG}{tb:TS}{pos:Pos}(hp:PassesOwn (model X.prog X.w) X.A X.env X.xe)(hc:X.calm=true)(hi:PI X tg iter wi)(hg:PG X tg g)(hb:PSs X body tb)
 (hs: ∀x,foldedSetIterable iter X.env x=pure x:=by intro _;rfl):PS X (.For tg iter body [] pos) (HJ wi g tb):=by
 intro ae s σ H D I h;refine wpAny_For (bI (hi ae s σ H _ I h) λv s1 h1=>bI h1 λitv s2 h2=>?_) hs
 obtain⟨it,fp,tn,J,H2,e,I2,T,st2,f2,W,⟨m0,w0⟩,turn⟩:=h2
 subst e;have stat: ∀ {H':Hp},(∀b∈fp,H' b=none)-> ∀b∈fp,iY X ae H' b:=λhn b hb=>⟨hn b hb,(f2 b hb).2⟩
 refine codeAny_forLoop_any (λn s'=> ∃i σ' H',Inv X ae σ' H' s'/\tn i s'.heap/\(∀b∈fp,H' b=none)/\W i n σ' H') ?_ m0 ⟨0,σ,H2,I2,st2,λb hb=>(f2 b hb).1,w0⟩
 rintro n s3 ⟨i,σ3,H3,I3,st3,fr3,w3⟩
 rcases turn i n σ3 H3 w3 with⟨stop,qn⟩|⟨go,N,hN,step⟩
 ·refine wpAny_passesOwn hp (bI (T.done X rfl rfl rfl hc i ae s3 σ3 H3 X.xe I3 (stat fr3) st3 stop) λr s4 hq_=>?_)
  obtain⟨hr,I4⟩:=hq_
  subst hr;exact wpAny_execs_nil ⟨σ3,H3,I4,qn⟩
 ·refine wpAny_passesOwn hp (bI (T.item X rfl rfl rfl hc i ae s3 σ3 H3 X.xe I3 (stat fr3) st3 go) λr s4 hq_=>?_)
  obtain⟨u,hr,h4⟩:=hq_
  subst hr;refine wpAny_passesOwn hp (bI h4 λ_ s5 hq_=>?_)
  obtain⟨x,H5,I5,r5,y5,st5,fr5⟩:=hq_
  have I5':=I5.pinned (stat fr5) (T.obj _ _ st5)
  refine wpAny_passesOwn hp (bI (hg _ s5 σ3 H5 x u _ I5' r5 (step x H5 y5)) λ_ s6 hq_=>?_)
  obtain⟨σ6,H6,I6,q6⟩:=hq_
  refine wpAny_passesOwn hp (bI (hb _ s6 σ6 H6 _ I6 q6) λf s7 q7=>?_)
  have again: ∀ {σ7:St} {H7:Hp},Inv X (ae++ku fp s5.heap) σ7 H7 s7->N σ7 H7-> ∃m,m<n/\ ∃i σ' H',Inv X ae σ' H' s7/\tn i s7.heap/\(∀b∈fp,H' b=none)/\W i m σ' H':=λ{σ7 H7} I7 n7=>by
   obtain⟨m',hm,w7⟩:=hN σ7 H7 n7
   refine⟨m',hm,i+1,σ7,H7,I7.unpinned,T.keep _ _ _ st5 λb hb o e=>(I7.pin (b,o) (List.mem_append_right _ (List.mem_append_right _ (dh hb e)))).1,λb hb=>?_,w7⟩
   obtain⟨o,e,d⟩:=T.obj _ _ st5 b hb
   exact(I7.pin (b,o) (List.mem_append_right _ (List.mem_append_right _ (dh hb e)))).2.1
  cases f with
  |next=>obtain⟨σ7,H7,I7,n7⟩:=q7;exact again I7 n7
  |cont=>obtain⟨σ7,H7,I7,n7⟩:=q7;exact again I7 n7
  |brk=>obtain⟨σ7,H7,I7,q7⟩:=q7;exact⟨σ7,H7,I7.unpinned,q7⟩
  |ret v=>obtain⟨x7,σ7,H7,I7,r7,q7⟩:=q7;exact⟨x7,σ7,H7,I7.unpinned,r7,q7⟩
end
abbrev R2:=V->V->Hp->VK->Prop
def jL(X:Cx)(f:Value->Value->Sem Value)(r:R2):Prop:=
 ∀(ae:List (Addr×Obj)) (s:Shared) (σ:St) (H:Hp) (x y:V) (v u:Value) (Q:VK),Inv X ae σ H s->RelV x v->RelV y u->r x y H Q->
  wpAny (model X.prog X.w) X.A (f v u) (EP X ae σ Q) X.xe s
def Ij(X:Cx)(f:Value->Sem Value)(r:V->Hp->VK->Prop):Prop:=
 ∀(ae:List (Addr×Obj)) (s:Shared) (σ:St) (H:Hp) (x:V) (v:Value) (Q:VK),Inv X ae σ H s->RelV x v->r x H Q->
  wpAny (model X.prog X.w) X.A (f v) (EP X ae σ Q) X.xe s
def dP(X:Cx)(f:Value)(r:List V->Hp->VK->Prop):Prop:=
 ∀(ae:List (Addr×Obj)) (s:Shared) (σ:St) (H:Hp) (xs:List V) (us:List Value) (Q:VK),Inv X ae σ H s->Vals xs us->r xs H Q->
  wpAny (model X.prog X.w) X.A (call f us) (EP X ae σ Q) X.xe s
def HV(X:Cx)(r:V->Hp->(Bool->Hp->Prop)->Prop):Prop:=
 ∀(ae:List (Addr×Obj)) (s:Shared) (σ:St) (H:Hp) (x:V) (v:Value) (Q:Bool->Hp->Prop),Inv X ae σ H s->RelV x v->r x H Q->
  wpAny (model X.prog X.w) X.A (truthy v) (TP X ae σ Q) X.xe s
def Fj(r:R2)(ta tb:TE):TE:=λσ H Q=>ta σ H λx H1=>tb σ H1 λy H2=>r x y H2 Q
def IN(r:V->Hp->VK->Prop)(ta:TE):TE:=λσ H Q=>ta σ H λx H1=>r x H1 Q
def rI(C:Int->Int->Prop)(g:Int->Int->V):R2:=λx y H Q=> ∃i j,x=.int i/\y=.int j/\C i j/\Q (g i j) H
def A2(g:Int->Int->V):R2:=λx y H Q=> ∃i j,x=.int i/\y=.int j/\Q (g i j) H
def rU(g:Int->V):V->Hp->VK->Prop:=λx H Q=> ∃i,x=.int i/\Q (g i) H
section
variable {X:Cx}{a b c:Expr}{ta tb tc:TE}{pos:Pos}
theorem EC(ha:PE X a ta)(hb:PE X b tb){ae:List (Addr×Obj)}{s:Shared}{σ:St}{H:Hp}{R:V->V->Hp->Prop}(I:Inv X ae σ H s)
 (h:ta σ H λx H1=>tb σ H1 λy H2=>R x y H2) {Q:Value->Shared->Prop} {f:Value->Value->Sem Value}
 (hf: ∀v u s2 x y H2,Inv X ae σ H2 s2->RelV x v->RelV y u->R x y H2->wpAny (model X.prog X.w) X.A (f v u) Q X.xe s2):
 wpAny (model X.prog X.w) X.A (eval a X.env) (λv s₁=>wpAny (model X.prog X.w) X.A (eval b X.env) (λu s₂=>wpAny (model X.prog X.w) X.A (f v u) Q X.xe s₂) X.xe s₁) X.xe s:=by
 refine bI (ha ae s σ H _ I h) λv s1 hq_=>?_
 obtain⟨x,H1,I1,r1,q1⟩:=hq_
 refine bI (hb ae s1 σ H1 _ I1 q1) λu s2 hq_=>?_
 obtain⟨y,H2,I2,r2,q2⟩:=hq_
 exact hf v u s2 x y H2 I2 r1 r2 q2
theorem Fo {op:Operator}{r:R2}(ho:jL X (binaryOp op) r)(ha:PE X a ta)(hb:PE X b tb):PE X (.BinOp a op b pos) (Fj r ta tb):=by
 intro ae s σ H Q I h;exact wpAny_BinOp (EC ha hb I h λv u s2 x y H2 I2 rx ry q=>ho ae s2 σ H2 x y v u Q I2 rx ry q)
theorem Gw {op:UnaryOp}{r:V->Hp->VK->Prop}(ho:Ij X (unaryOp op) r)(ha:PE X a ta):PE X (.UnaryOp op a pos) (IN r ta):=by
 intro ae s σ H Q I h;exact UnaryOp_ (bI (ha ae s σ H _ I h) λv s1 ⟨x,H1,I1,r1,q1⟩=>ho ae s1 σ H1 x v Q I1 r1 q1)
theorem G7 {f:Value->Value->Sem Value}{C:Int->Int->Prop}{g:Int->Int->Int}
 (rule: ∀(i j:Int) (t u:Tok) (s:Shared) (Q:Value->Shared->Prop) (E:Value->Shared->Prop),C i j->Q (.int (g i j) s.toks) {s with toks:=s.toks+1}->wpAny (model X.prog X.w) X.A (f (.int i t) (.int j u)) Q E s):
 jL X f (rI C λi j=>.int (g i j)):=by
 intro ae s σ H x y v u Q I rx ry h;obtain⟨i,j,rfl,rfl,hc,q⟩:=h
 obtain⟨t,rfl⟩:=rx
 obtain⟨t',rfl⟩:=ry
 exact rule i j t t' s _ _ hc ⟨.int (g i j),H,I.tok _,⟨_,rfl⟩,q⟩
theorem Fw {f:Value->Value->Sem Value}{g:Int->Int->Int}
 (rule: ∀(i j:Int) (t u:Tok) (s:Shared) (Q:Value->Shared->Prop) (E:Value->Shared->Prop),Q (.int (g i j) s.toks) {s with toks:=s.toks+1}->wpAny (model X.prog X.w) X.A (f (.int i t) (.int j u)) Q E s):
 jL X f (A2 λi j=>.int (g i j)):=by
 intro ae s σ H x y v u Q I rx ry h;obtain⟨i,j,rfl,rfl,q⟩:=h
 obtain⟨t,rfl⟩:=rx
 obtain⟨t',rfl⟩:=ry
 exact rule i j t t' s _ _ ⟨.int (g i j),H,I.tok _,⟨_,rfl⟩,q⟩
theorem C1 {f:Value->Value->Sem Value}{g:Int->Int->Bool}
 (rule: ∀(i j:Int) (t u:Tok) (s:Shared) (Q:Value->Shared->Prop) (E:Value->Shared->Prop),Q (.bool (g i j)) s->wpAny (model X.prog X.w) X.A (f (.int i t) (.int j u)) Q E s):
 jL X f (A2 λi j=>.bl (g i j)):=by
 intro ae s σ H x y v u Q I rx ry h;obtain⟨i,j,rfl,rfl,q⟩:=h
 obtain⟨t,rfl⟩:=rx
 obtain⟨t',rfl⟩:=ry
 exact rule i j t t' s _ _ ⟨.bl (g i j),H,I,rfl,q⟩
def GQ(i j:Int):Prop:=0<=j/\j<=1000000/\i.natAbs<2^64
theorem Dr:jL X (binaryOp .Add) (A2 λi j=>.int (i+j)):=Fw λ_ _ _ _ _ _ _ q=>add_int q
theorem DL:jL X (binaryOp .Sub) (A2 λi j=>.int (i-j)):=Fw λ_ _ _ _ _ _ _ q=>sub_int q
theorem D1:jL X (binaryOp .Mod) (rI (λ_ j=>0<j) λi j=>.int (i % j)):=G7 λi j _ _ _ _ _ hc q=>by
 have h1:(0:Int)<j:=hc
 exact mod_int' (by omega) (by rw[Int.fmod_eq_emod_of_nonneg i (by omega)];exact q)
theorem Ek:jL X (binaryOp .Pow) (rI GQ λi j=>.int (i^j.toNat)):=G7 λ_ _ _ _ _ _ _ hc q=>pow_int_small hc.1 hc.2.1 hc.2.2 q
theorem II {f:Value->Sem Value}{g:Int->Int}
 (rule: ∀(i:Int) (t:Tok) (s:Shared) (Q:Value->Shared->Prop) (E:Value->Shared->Prop),Q (.int (g i) s.toks) {s with toks:=s.toks+1}->wpAny (model X.prog X.w) X.A (f (.int i t)) Q E s):
 Ij X f (rU λi=>.int (g i)):=by
 intro ae s σ H x v Q I rx h;obtain⟨i,rfl,q⟩:=h
 obtain⟨t,rfl⟩:=rx
 exact rule i t s _ _ ⟨.int (g i),H,I.tok _,⟨_,rfl⟩,q⟩
theorem EG:Ij X (unaryOp .USub) (rU λi=>.int (-i)):=II λ_ _ _ _ _ q=>neg_int q
end
section
variable {X:Cx}{a b c:Expr}{ta tb tc:TE}{pos:Pos}
theorem wa:jL X (compareOp .Lt) (A2 λi j=>.bl (decide (i<j))):=C1 λ_ _ _ _ _ _ _ q=>lt_int q
theorem yf:jL X (compareOp .LtE) (A2 λi j=>.bl (decide (i<=j))):=C1 λ_ _ _ _ _ _ _ q=>le_int q
theorem De:jL X (compareOp .Gt) (A2 λi j=>.bl (decide (j<i))):=C1 λ_ _ _ _ _ _ _ q=>gt_int q
theorem C4:jL X (compareOp .GtE) (A2 λi j=>.bl (decide (j<=i))):=C1 λ_ _ _ _ _ _ _ q=>ge_int q
theorem bD(b:Expr){op:CmpOp}(h:op≠ .In:=by decide)(h2:op≠ .NotIn:=by decide):behindInMarks op b=false:=by
 have e1:(op==CmpOp.In)=false:=by cases op<;>first|rfl|exact absurd rfl h
 have e2:(op==CmpOp.NotIn)=false:=by cases op<;>first|rfl|exact absurd rfl h2
 cases b<;>simp[behindInMarks,e1,e2]
theorem BR {op:CmpOp}{r:R2}(ho:jL X (compareOp op) r)(ha:PE X a ta)(hb:PE X b tb)(hm:behindInMarks op b=false):PE X (.Compare a [op] [b] pos) (Fj r ta tb):=by
 intro ae s σ H Q I h;exact wpAny_Compare1 (EC ha hb I h λv u s2 x y H2 I2 rx ry q=>ho ae s2 σ H2 x y v u Q I2 rx ry q) hm
def Dj(t:TE):TT:=λσ H Q=>t σ H λx H'=> ∃k,x=.bl k/\Q k H'
theorem CB {op:CmpOp}{r:R2}(ho:jL X (compareOp op) r)(ha:PE X a ta)(hb:PE X b tb)(hm:behindInMarks op b=false):PT X (.Compare a [op] [b] pos) (Dj (Fj r ta tb)):=by
 intro ae s σ H Q I h;refine wpAny_isTrue_Compare1 (bI (ha ae s σ H _ I h) λv s1 ⟨x,H1,I1,r1,q1⟩=>bI (hb ae s1 σ H1 _ I1 q1) λu s2 ⟨y,H2,I2,r2,q2⟩=>
  bI (ho ae s2 σ H2 x y v u _ I2 r1 r2 q2) λc s3 ⟨z,H3,I3,r3,k,e,q3⟩=>?_) hm
 subst e;cases r3
 exact wpAny_truthy_bool ⟨H3,I3,q3⟩
def uG(r r':R2)(ta tb tc:TE):TE:=λσ H Q=>ta σ H λx H1=>tb σ H1 λy H2=>r x y H2 λz H3=> ∃k,z=.bl k/\
 (if k=true then tc σ H3 λw' H4=>r' y w' H4 Q else Q (.bl false) H3)
theorem yT {op op':CmpOp}{r r':R2}(ho:jL X (compareOp op) r)(ho':jL X (compareOp op') r')(ha:PE X a ta)(hb:PE X b tb)(hc:PE X c tc)
 (hm:lastMarks [op,op'] [b,c]=false:=by with_unfolding_all rfl):PE X (.Compare a [op,op'] [b,c] pos) (uG r r' ta tb tc):=by
 intro ae s σ H Q I h;refine Compare_chain (bI (ha ae s σ H _ I h) λv s1 ⟨x,H1,I1,r1,q1⟩=>chain_link (bI (hb ae s1 σ H1 _ I1 q1) λu s2 ⟨y,H2,I2,r2,q2⟩=>
  bI (ho ae s2 σ H2 x y v u _ I2 r1 r2 q2) λd s3 ⟨z,H3,I3,r3,k,e,q3⟩=>?_)) hm
 subst e;cases r3
 refine wpAny_truthy_bool ?_
 cases k with
 |false=>exact ite_ff ⟨.bl false,H3,I3,rfl,q3⟩
 |true=>exact ite_tt (chain_last (bI (hc ae s3 σ H3 _ I3 q3) λw' s4 ⟨z',H4,I4,r4,q4⟩=>ho' ae s4 σ H4 y z' u w' Q I4 r2 r4 q4))
theorem zg {op op':CmpOp}{r r':R2}(ho:jL X (compareOp op) r)(ho':jL X (compareOp op') r')(ha:PE X a ta)(hb:PE X b tb)(hc:PE X c tc)
 (hm:lastMarks [op,op'] [b,c]=false:=by with_unfolding_all rfl):PT X (.Compare a [op,op'] [b,c] pos) (Dj (uG r r' ta tb tc)):=by
 intro ae s σ H Q I h;refine isTrue_chain (bI (ha ae s σ H _ I h) λv s1 ⟨x,H1,I1,r1,q1⟩=>test_link (bI (hb ae s1 σ H1 _ I1 q1) λu s2 ⟨y,H2,I2,r2,q2⟩=>
  bI (ho ae s2 σ H2 x y v u _ I2 r1 r2 q2) λd s3 ⟨z,H3,I3,r3,k,e,q3⟩=>?_)) hm
 subst e;cases r3
 refine wpAny_truthy_bool ?_
 cases k with
 |false=>
  obtain⟨k',e',q'⟩:=q3
  cases e'
  exact ite_ff ⟨H3,I3,q'⟩
 |true=>
  refine ite_tt (test_last (bI (hc ae s3 σ H3 _ I3 q3) λw' s4 ⟨z',H4,I4,r4,q4⟩=>bI (ho' ae s4 σ H4 y z' u w' _ I4 r2 r4 q4) λd' s5 hq_=>?_))
  obtain⟨z2,H5,I5,r5,k2,e2,q5⟩:=hq_
  subst e2;cases r5
  exact wpAny_truthy_bool ⟨H5,I5,q5⟩
def El(K:W.Frag)(x:V)(H:Hp)(k:Bool):Prop:=
 match x with
 | .non=>k=false
 | .bl b=>k=b
 | .int i=>k=(i !=0)
 | .str y=>y.length<=sizeLine/\k=((y.length:Int) !=0)
 | .byt y=>y.size<=sizeLine/\k=((y.size:Int) !=0)
 | .ref p=>(∃xs,SqL K H p xs/\k= !xs.isEmpty)\/(∃xs,SqT K H p xs/\k= !xs.isEmpty)\/ ∃kvs,H p=some (.dK kvs)/\k= !kvs.isEmpty
 |_=>False
theorem uK {κ:Type}{kvs:List (κ×V)}{vs:List (κ×Value)}(r:KV kvs vs):(!vs.isEmpty)= !kvs.isEmpty:=by
 cases r<;>rfl
theorem nB {xs:List V}{its:List Value}(r:Vals xs its):(!its.toArray.isEmpty)= !xs.isEmpty:=by
 cases r<;>simp
theorem kB:(sizeLine:Nat)<2^63:=by rw[sizeLine_eq];decide
theorem EI:HV X (λx H Q=> ∃k,El X.K x H k/\Q k H):=by
 intro ae s σ H x v Q I rx h;obtain⟨k,e,q⟩:=h
 have hl:=kB
 have hs:sizeLine=16777216:=sizeLine_eq
 cases x with
 |non=>
  cases rx
  have e':k=false:=e
  subst e';exact truthy_none ⟨H,I,q⟩
 |bl b=>
  cases rx
  have e':k=b:=e
  subst e';exact wpAny_truthy_bool ⟨H,I,q⟩
 |int i=>
  obtain⟨t,rfl⟩:=rx
  have e':k=(i !=0):=e
  subst e';exact PySem.P.truthy_int ⟨H,I,q⟩
 |str y=>
  obtain⟨t,rfl⟩:=rx
  obtain⟨hy,e'⟩:y.length<=sizeLine/\k=((y.length:Int) !=0):=e
  subst e';exact PySem.P.truthy_str (by omega) ⟨H,I.tok _,q⟩
 |byt y=>
  obtain⟨t,rfl⟩:=rx
  obtain⟨hy,e'⟩:y.size<=sizeLine/\k=((y.size:Int) !=0):=e
  subst e';exact W.truthy_bytes (by omega) ⟨H,I.tok _,q⟩
 |ref p=>
  cases rx
  have e':(∃xs,SqL X.K H p xs/\k= !xs.isEmpty)\/(∃xs,SqT X.K H p xs/\k= !xs.isEmpty)\/ ∃kvs,H p=some (.dK kvs)/\k= !kvs.isEmpty:=e
  rcases e' with⟨xs,hx,e'⟩|⟨xs,hx,e'⟩|⟨kvs,hx,e'⟩
  ·subst e'
   obtain⟨its,r,pl,hz⟩:=I.list hx
   have hlen:=r.length
   exact wpAny_truthy_list pl.isList (by simp only[List.size_toArray];omega) ⟨H,I.tok _,by rw[nB r];exact q⟩
  ·subst e'
   obtain⟨its,r,pl,hz⟩:=I.tuple hx
   have hlen:=r.length
   exact truthy_tuple pl (by simp only[List.size_toArray];omega) ⟨H,I.tok _,by rw[nB r];exact q⟩
  ·subst e'
   obtain⟨hz,hS,vs,r,m⟩:kvs.length<=sizeLine/\(p==sysModules)=false/\ ∃vs,KV kvs vs/\s.heap.DictOf (ce X.prog X.w) p vs:=I.hok p _ hx
   have hlen:kvs.length=vs.length:=Paired.length r
   exact wpAny_truthy_dict hS m (by omega) ⟨H,I.tok _,by rw[uK r];exact q⟩
 |_=>exact(show False from e).elim
theorem tL(ha:PE X a ta)(he: ∀whole,isTrue a X.env whole=(do let v <-whole;standAt a.pos;holding [v] (truthy v))):
 PT X a (λσ H Q=>ta σ H λx H'=> ∃k,El X.K x H' k/\Q k H'):=by
 intro ae s σ H Q I h;exact isTrue_plain (bI (ha ae s σ H _ I h) λv s1 ⟨x,H1,I1,r1,q1⟩=>EI ae s1 σ H1 x v Q I1 r1 q1) (he _)
theorem kc {x:V}{us:List Value}(r:Vals [x] us): ∃u,us=[u]/\RelV x u:=by
 cases r with
 |cons r1 r2=>cases r2;exact⟨_,rfl,r1⟩
theorem zj {x y:V}{us:List Value}(r:Vals [x,y] us): ∃u w',us=[u,w']/\RelV x u/\RelV y w':=by
 cases r with
 |cons r1 r2=>
  cases r2 with
  |cons r3 r4=>cases r4;exact⟨_,_,rfl,r1,r3⟩
theorem z0:dP X (.builtin "abs") (λxs H Q=> ∃i,xs=[.int i]/\Q (.int (if i<0 then -i else i)) H):=by
 intro ae s σ H xs us Q I r h;obtain⟨i,rfl,q⟩:=h
 obtain⟨u,rfl,t,rfl⟩:=kc r
 exact call_abs_int λu tk=>⟨.int (if i<0 then -i else i),H,I.tok _,⟨_,rfl⟩,q⟩
theorem wT(hc:X.calm=true):dP X (.builtin "max") (λxs H Q=> ∃i j,xs=[.int i,.int j]/\Q (.int (if j>i then j else i)) H):=by
 intro ae s σ H xs us Q I r h;obtain⟨i,j,rfl,q⟩:=h
 obtain⟨u,w',rfl,⟨t,rfl⟩,⟨t',rfl⟩⟩:=zj r
 refine max_two_ints (I.ok.hd hc) λh' tk k=>⟨_,H,I.kept k,?_,q⟩
 by_cases hj:j>i
 ·rw[if_pos hj,if_pos hj];exact⟨_,rfl⟩
 ·rw[if_neg hj,if_neg hj];exact⟨_,rfl⟩
theorem pH(hc:X.calm=true):dP X (.builtin "min") (λxs H Q=> ∃i j,xs=[.int i,.int j]/\Q (.int (if j<i then j else i)) H):=by
 intro ae s σ H xs us Q I r h;obtain⟨i,j,rfl,q⟩:=h
 obtain⟨u,w',rfl,⟨t,rfl⟩,⟨t',rfl⟩⟩:=zj r
 refine min_two_ints (I.ok.hd hc) λh' tk k=>⟨_,H,I.kept k,?_,q⟩
 by_cases hj:j<i
 ·rw[if_pos hj,if_pos hj];exact⟨_,rfl⟩
 ·rw[if_neg hj,if_neg hj];exact⟨_,rfl⟩
end
theorem RelO.some_of {v:V}{o:Option Value}(r:RelO (some v) o): ∃u,o=some u/\RelV v u:=by
 cases o with
 |none=>exact(show False from r).elim
 |some u=>exact⟨u,rfl,r⟩
structure Room(k:Nat)(A:Around):Prop where
 hd:A.handled=none
 dp:A.depth+3*k+5<recursionLimit
 un:A.units+16*k+200<cLine
theorem Room.mono {j k:Nat}{A:Around}(r:Room k A)(h:j<=k):Room j A:=⟨r.hd,by have:=r.dp;omega,by have:=r.un;omega⟩
theorem Room.deeper {k:Nat}{A:Around}(r:Room (k+1) A)(env:Env):Room k (A.deeper env):=
 ⟨r.hd,by have:=r.dp;show A.depth+1+3*k+5<_;omega,by have:=r.un;show A.units+3+16*k+200<_;omega⟩
theorem Room.depth {k:Nat}{A:Around}(r:Room k A):A.depth<recursionLimit:=by have:=r.dp;omega
theorem Room.units {k:Nat}{A:Around}(r:Room k A):A.units+64<cLine:=by have:=r.un;omega
def GP:TA:=λ_ H Q=>Q [] H
def GJ(ta:TE)(tr:TA):TA:=λσ H Q=>ta σ H λx H1=>tr σ H1 λxs H2=>Q (x::xs) H2
section
variable {X:Cx}{e:Expr}{es:List Expr}{te:TE}{t:TA}{pos:Pos}
theorem iH:PA X [] GP:=λ_ _ _ _ H Q I h=>Calls.spliced_nil ⟨[],H,I,.nil,h⟩
theorem dZ(ha:PE X e te)(hr:PA X es t)(hs:starEach (e::es) X.env=(false,eval e X.env)::starEach es X.env:=by rfl):PA X (e::es) (GJ te t):=by
 intro pos ae s σ H Q I h;rw[hs];show wpAny _ _ (spliced ((false,eval e X.env)::backTo pos (starEach es X.env))) _ _ s;refine Calls.spliced_cons (bI (ha ae s σ H _ I h) λu s1 hq_=>?_)
 obtain⟨x,H1,I1,r1,q1⟩:=hq_
 exact bI (hr pos ae s1 σ H1 _ I1 q1) λus s2 ⟨xs,H2,I2,r2,q2⟩=>⟨x::xs,H2,I2,.cons r1 r2,q2⟩
def Hg(t:TA):TE:=λσ H Q=>t σ H λxs H1=>xs.length<=sizeLine/\ ∀p,H1 p=none->Q (.ref p) (bM H1 p (.tup xs))
def Hq(t:TA):TE:=λσ H Q=>t σ H λxs H1=>xs.length<=sizeLine/\ ∀p,H1 p=none->Q (.ref p) (bM H1 p (.lst xs))
theorem Ed {x1}(h:PA X es t):PE X (.Tuple es x1 pos) (Hg t):=by
 intro ae s σ H Q I hq;refine wpAny_Tuple_spliced (bI (h pos ae s σ H _ I hq) λus s1 ⟨xs,H1,I1,r,z,q⟩=>⟨by rw[<-r.length];exact z,?_⟩)
 have hf:H1 s1.heap.objs.size=none:=I1.hok.fresh (Nat.le_refl _)
 refine⟨.ref s1.heap.objs.size,bM H1 s1.heap.objs.size (.tup xs),I1.laid (t':=s1.toks) (λb u e=>Heap.get?_push_of_some _ e) (Nat.le_refl _) ?_,rfl,q _ hf⟩
 exact⟨z,us,r,⟨_,Heap.get?_push_size _ rfl,rfl,_,rfl⟩,_,Heap.get?_push_size _ rfl,rfl⟩
theorem EH(h:PA X es t):PE X (.List es pos) (Hq t):=by
 intro ae s σ H Q I hq;refine wpAny_List_spliced (bI (h pos ae s σ H _ I hq) λus s1 ⟨xs,H1,I1,r,z,q⟩=>⟨by rw[<-r.length];exact z,?_⟩)
 have hf:H1 s1.heap.objs.size=none:=I1.hok.fresh (Nat.le_refl _)
 refine⟨.ref s1.heap.objs.size,bM H1 s1.heap.objs.size (.lst xs),I1.laid (t':=s1.toks) (λb u e=>Heap.get?_push_of_some _ e) (Nat.le_refl _) ?_,rfl,q _ hf⟩
 exact⟨z,us,0,r,Heap.get?_push_size _ rfl⟩
end
abbrev Sp:=List V->Hp->VK->XK->Prop
abbrev yQ:=List Env->Hp->Shared->XK->Value->Shared->Prop
structure Env0(P:Program)(w:World)(K:W.Frag)(mg:Str->Option Value)(base:Heap)(A:Around)(outer:List Env)(s:Shared)(H:Hp):Prop where
 frames:A.frames=some outer
 mod:Mod K mg base
 bs: ∀b o,base.get? b=some o->s.heap.get? b=some o/\H b=none
 bsz:base.objs.size<=s.heap.objs.size
 funs:s.heap.FunFrames base outer
 frf: ∀b∈pS outer,H b=none
 hok:HOk P w H s.heap
 bare:AllBare s.gens
def CE(outer:List Env)(P:Program)(w:World)(H:Hp)(s:Shared)(Q:VK)(u:Value)(s':Shared):Prop:=
 ∃v H',s'.os=s.os/\AllBare s'.gens/\Un (pS outer) [] H H' s.heap s'.heap/\HOk P w H' s'.heap/\RelV v u/\Q v H'
def CR(CX:yQ)(outer:List Env)(P:Program)(w:World)(H:Hp)(s:Shared)(Q:VK)(E:XK)(r:Result)(s':Shared):Prop:=
 match r with
 | .ok (.ret u)=>CE outer P w H s Q u s'
 | .ok _=>False
 | .error e=>CX outer H s E e s'
structure FnOk(P:Program)(w:World)(K:W.Frag)(mg:Str->Option Value)(base:Heap)(CX:yQ)(k:Nat)(f:Addr)(fd:FuncData)(ps:List Str)(sp:Sp):Prop where
 len: ∀vs H Q E,sp vs H Q E->vs.length=ps.length
 run: ∀(A:Around) (outer:List Env) (s:Shared) (H:Hp) (args:Args) (us:List Value) (vs:List V) (Q:VK) (E:XK),Room k A->Env0 P w K mg base A outer s H->BindsTo s fd args (ps.zip us)->Vals vs us->sp vs H Q E->
  codeAny (model P w) A (.call (.ref f) args) (CR CX outer P w H s Q E) s
theorem FnOk.imp {P:Program}{w:World}{K:W.Frag}{mg:Str->Option Value}{base:Heap}{CX:yQ}{k:Nat}{f:Addr}{fd:FuncData}{ps:List Str}{sp sp':Sp}(F:FnOk P w K mg base CX k f fd ps sp)
 (h: ∀vs H Q E,sp' vs H Q E->sp vs H Q E):FnOk P w K mg base CX k f fd ps sp':=
 ⟨λvs H Q E q=>F.len vs H Q E (h _ _ _ _ q),λA outer s H args us vs Q E hr he hb hv hs=>F.run A outer s H args us vs Q E hr he hb hv (h _ _ _ _ hs)⟩
section
variable {X:Cx}{ae:List (Addr×Obj)}{σ:St}{H:Hp}{s s':Shared}
theorem Inv.env0(I:Inv X ae σ H s):Env0 X.prog X.w X.K X.mg X.base X.A X.stack s H:=
 ⟨I.ok.frames,I.ok.mod,I.bs,Nat.le_trans I.ok.bsz I.sz,I.stack,I.stkFree,I.hok,I.bare⟩
theorem Inv.after {Q:VK}{u:Value}(I:Inv X ae σ H s)(h:CE X.stack X.prog X.w H s Q u s'):EP X ae σ Q u s':=by
 obtain⟨v,H',os,bare,un,hok,r,q⟩:=h
 obtain⟨hh,g,d,t,os'⟩:=s'
 obtain rfl:os'=s.os:=os
 exact⟨v,H',I.call (h':=hh) (g':=g) (d':=d) (t':=t) (ch:=[]) un hok bare (λb z=>absurd z (by simp)),r,q⟩
end
def Gv(sp:Sp)(dvs:List V)(E:XK)(t:TA):TE:=λσ H Q=>t σ H λvs H1=>sp (vs++dvs) H1 Q E
def Binds(K:W.Frag)(fd:FuncData)(ps:List Str)(ds:List Value):Prop:=
 ∀(s:Shared) (us:List Value),K.In s.heap->(us++ds).length=ps.length->BindsTo s fd ⟨us,[]⟩ (ps.zip (us++ds))
theorem Binds.all {K:W.Frag}{fd:FuncData}{ps:List Str}(h: ∀us:List Value,us.length=ps.length->bindArgs fd ⟨us,[]⟩=pure (ps.zip us)):Binds K fd ps []:=λs us _ hl=>by
 rw[List.append_nil] at hl⊢;exact .of_eq (h us hl)
def uh(CX:yQ)(X:Cx)(E:XK):Prop:= ∀(ae:List (Addr×Obj)) (σ:St) (H:Hp) (s:Shared) (e:Value) (s':Shared),Inv X ae σ H s->CX X.stack H s E e s'->X.xe e s'
section
variable {X:Cx}{CX:yQ}{k:Nat}{f C:Addr}{fd:FuncData}{ps:List Str}{sp:Sp}{dvs:List V}{ds:List Value}{E:XK}{x m:Str}{p pos apos:Pos}{e o:Expr}{es:List Expr}{ta:TE}{t:TA}
theorem Ff {ae:List (Addr×Obj)}{σ:St}{H:Hp}{s:Shared}{Q:VK}{us:List Value}{vs:List V}(F:FnOk X.prog X.w X.K X.mg X.base CX k f fd ps sp)(hr:Room k X.A)(hb:Binds X.K fd ps ds)(hd:Vals dvs ds)(hx:uh CX X E)
 (I:Inv X ae σ H s) (r:Vals vs us) (h:sp (vs++dvs) H Q E):wpAny (model X.prog X.w) X.A (call (.ref f) us) (EP X ae σ Q) X.xe s:=by
 have r2:Vals (vs++dvs) (us++ds):=r.append hd
 have hl:(us++ds).length=ps.length:=by rw[<-r2.length];exact F.len _ _ _ _ h
 refine wpAny_call (codeAny_mono (F.run X.A X.stack s H ⟨us,[]⟩ (us++ds) (vs++dvs) Q E hr I.env0 (hb s us I.kIn hl) r2 h) λr s' hq=>?_)
 cases r with
 |error e=>exact hx ae σ H s e s' I hq
 |ok fl=>
  cases fl with
  |ret u=>exact I.after hq
  |next=>exact False.elim hq
  |brk=>exact False.elim hq
  |cont=>exact False.elim hq
theorem qZ(F:FnOk X.prog X.w X.K X.mg X.base CX k f fd ps sp)(hr:Room k X.A)(hg:Gl X x)(hm:X.mg x=some (.ref f))(hk:W.keepIn X.K (.ref f)=true)(hb:Binds X.K fd ps ds)(hd:Vals dvs ds)(hx:uh CX X E)
 (ha:PA X (e::es) t) (hdb:(x==("__debug__":Str))=false:=by decide) (he:starEach (e::es) X.env=(false,eval e X.env)::starEach es X.env:=by rfl) (hpl:(backTo pos (starEach es X.env)).any (·.1)=false:=by rfl):
 PE X (.Call (.Name x p) (e::es) [] pos) (Gv sp dvs E t):=by
 intro ae s σ H Q I h;refine wpAny_Call_Name_kw (CQ I hg hm ?_ hdb)
 refine W.callWith_K (h₀:=X.base) I.ok.mod.kin hk (bI (ha pos ae s σ H _ I h) λus s1 ⟨vs,H1,I1,r,q⟩=>⟨I1.kIn,?_⟩) he hpl
 exact Ff F hr hb hd hx I1 r q
end
structure FnScope(N P:List Str)(sc:Scope):Prop where
 kind:sc.kind=.function
 co:sc.isCoroutine=false
 gen:sc.isGenerator=false
 nd:N.Nodup
 pre:N.take P.length=P
 par: ∀x∈P,sc.names.lookup x=some .local\/sc.names.lookup x=some .cell
 nofree: ∀y∈sc.names,y.2≠ .free
theorem pG {kindOf:Str->Option NameKind}{x:Str}: ∀ {binds:List (Str×Value)} {m:Str->Option Value},(∀v,(x,v)∉binds)->bindL kindOf binds m x=m x
 | [],_,_=>rfl
 |(n,v)::r,m,h=>by
  unfold bindL;rw[pG λw hw=>h w (List.mem_cons_of_mem _ hw)]
  split
  ·have:x≠n:=by rintro rfl;exact h v List.mem_cons_self
   simp[this]
  ·rfl
theorem qc {kindOf:Str->Option NameKind}{x:Str}: ∀ {binds:List (Str×Value)} {m:Str->Option Value},(∀v,(x,v)∉binds)->bindC kindOf binds m x=m x
 | [],_,_=>rfl
 |(n,v)::r,m,h=>by
  unfold bindC;rw[qc λw hw=>h w (List.mem_cons_of_mem _ hw)]
  split
  ·rfl
  ·have:x≠n:=by rintro rfl;exact h v List.mem_cons_self
   simp[this]
theorem pR {kindOf:Str->Option NameKind}{x:Str}{v:Value}: ∀ {P:List Str} {vs:List Value} {i:Nat} {m:Str->Option Value},P.Nodup->P[i]? =some x->vs[i]? =some v->kindOf x=some .local->
 bindL kindOf (P.zip vs) m x=some v
 | [],_,_,_,_,h,_,_=>by simp at h
 |_::_,[],_,_,_,_,h,_=>by simp at h
 |p::P,w::vs,0,m,nd,h1,h2,hk=>by
  simp at h1 h2;subst h1;subst h2;show bindL kindOf ((p,w)::P.zip vs) m p=_;unfold bindL;rw[pG λv hv=>(List.nodup_cons.mp nd).1 (List.of_mem_zip hv).1,if_pos hk]
  simp
 |p::P,w::vs,i+1,m,nd,h1,h2,hk=>by
  show bindL kindOf ((p,w)::P.zip vs) m x=_;unfold bindL;exact pR (i:=i) (List.nodup_cons.mp nd).2 (by simpa using h1) (by simpa using h2) hk
theorem qa {kindOf:Str->Option NameKind}{x:Str}{v:Value}: ∀ {P:List Str} {vs:List Value} {i:Nat} {m:Str->Option Value},P.Nodup->P[i]? =some x->vs[i]? =some v->kindOf x≠some .local->
 bindC kindOf (P.zip vs) m x=some v
 | [],_,_,_,_,h,_,_=>by simp at h
 |_::_,[],_,_,_,_,h,_=>by simp at h
 |p::P,w::vs,0,m,nd,h1,h2,hk=>by
  simp at h1 h2;subst h1;subst h2;show bindC kindOf ((p,w)::P.zip vs) m p=_;unfold bindC;rw[qc λv hv=>(List.nodup_cons.mp nd).1 (List.of_mem_zip hv).1,if_neg hk]
  simp
 |p::P,w::vs,i+1,m,nd,h1,h2,hk=>by
  show bindC kindOf ((p,w)::P.zip vs) m x=_;unfold bindC;exact qa (i:=i) (List.nodup_cons.mp nd).2 (by simpa using h1) (by simpa using h2) hk
def start(N:List Str)(vs:List V):St:=vs.map some++List.replicate (N.length-vs.length) none
def pg(CX:yQ)(P:Program)(w:World)(K:W.Frag)(mg:Str->Option Value)(base:Heap)(N:List Str)(qual:Str)(scope:Scope)(f:Addr)(cd:Value)(A:Around)(outer:List Env)(s:Shared)(H:Hp)(E:XK):Cx where
 prog:=P
 w:=w
 K:=K
 mg:=mg
 base:=base
 A:=A.deeper (envOfC qual scope s.heap.objs.size f cd)
 N:=N
 s₀:=s
 H₀:=H
 env:=envOfC qual scope s.heap.objs.size f cd
 outer:=outer
 stack:=envOfC qual scope s.heap.objs.size f cd::outer
 ex:=[]
 calm:=true
 fn:=λ_=>true
 pn:=[]
 xe:=λe s'=>wpAny (model P w) (A.deeper (envOfC qual scope s.heap.objs.size f cd)) (leaving (envOfC qual scope s.heap.objs.size f cd) e) (λ_ s''=>CX outer H s E e s'') (λe' s''=>CX outer H s E e' s'') s'
theorem sS {sc:Scope}{n:Nat}{x:Str}(h:sc.names.lookup x=some .cell): ∃c,(cellsFrom n sc.names []).lookup x=some c:=by
 have q:=W.cellsFrom_some sc.names n [] (.inl h)
 exact Option.isSome_iff_exists.mp q
theorem x9 {CX:yQ}{P:Program}{w:World}{K:W.Frag}{mg:Str->Option Value}{base:Heap}{N ps:List Str}{qual:Str}{scope:Scope}{f:Addr}{cd:Value}{A:Around}{outer:List Env}{s s1:Shared}{H:Hp}{E:XK}{us:List Value}{vs:List V}
 (S:FnScope N ps scope) (hd:A.handled=none) (e0:Env0 P w K mg base A outer s H) (hl:vs.length=ps.length) (r:Vals vs us)
 (x:InCallC s s.heap.objs.size (bindL (envOfC qual scope s.heap.objs.size f cd).kindOf (ps.zip us) λ_=>none) (cellsFrom (s.heap.objs.size+1) scope.names []) (bindC (envOfC qual scope s.heap.objs.size f cd).kindOf (ps.zip us) λ_=>none) s1):
 Inv (pg CX P w K mg base N qual scope f cd A outer s H E) [] (start N vs) H s1:=by
 have hpl:ps.length<=N.length:=by have:=congrArg List.length S.pre;rw[List.length_take] at this;omega
 obtain⟨h1,tk,rfl,hk⟩:=x.done
 have noA: ∀b:Addr,b∉(pg CX P w K mg base N qual scope f cd A outer s H E).ex:=λb z=>absurd (show b∈([]:List Addr) from z) (by simp)
 refine⟨⟨e0.mod,S.kind,rfl,rfl,Nat.le_refl _,λy z c h1 h2=>?_,λy hy=>?_,λy c _ h=>?_,λ_=>hd,Around.frames_deeper e0.frames,.inr ⟨rfl,rfl⟩,λb z=>absurd z (noA b),e0.bs,e0.bsz,λb _ _=>noA b,λb z=>absurd z (noA b),e0.funs,e0.frf⟩,
  rfl,e0.bare,Un.kept hk,⟨_,x.toInCall.ns,λi y v h1 h2 h3=>?_⟩,λy c h=>⟨_,x.cell y c h⟩,e0.hok.fresh (Nat.le_refl _),λy c h=>?_,λp hp=>absurd (show p∈([]:List (Addr×Obj)) from hp) (by simp),e0.hok.kept hk,?_⟩
 ·exact name_of_addr x.apart (PySem.mem_of_lookup h1) (PySem.mem_of_lookup h2)
 ·have hy:scope.names.lookup y=some .cell\/scope.names.lookup y=some .free:=hy
  rcases hy with hy|hy
  ·exact sS hy
  ·exact absurd rfl (S.nofree _ (PySem.mem_of_lookup hy))
 ·exact Nat.le_of_lt (x.above y c (PySem.mem_of_lookup h))
 ·have hi:i<vs.length:=by
   unfold start at h2
   by_cases hi:i<vs.length
   ·exact hi
   ·rw[List.getElem?_append_right (by simpa using hi)] at h2
    rw[List.getElem?_replicate] at h2;split at h2<;>cases h2
  have ha:vs[i]? =some v:=by
   unfold start at h2;rw[List.getElem?_append_left (by simpa using hi),List.getElem?_map] at h2
   cases e:vs[i]? with
   |none=>rw[e] at h2;cases h2
   |some a=>rw[e] at h2;cases h2;rfl
  obtain⟨u,hu,rv⟩:=r.get ha
  have hp:ps[i]? =some y:=by
   rw[<-S.pre,List.getElem?_take_of_lt (by omega)];exact h1
  have ndP:ps.Nodup:=by rw[<-S.pre];exact S.nd.sublist (List.take_sublist _ _)
  refine⟨u,rv,?_⟩
  rcases S.par y (List.mem_of_getElem? hp) with k|k
  ·exact .inl ⟨k,pR ndP hp hu k⟩
  ·obtain⟨c,e⟩:=sS (n:=s.heap.objs.size+1) k
   refine .inr ⟨.inl k,c,e,?_⟩
   have q:=x.cell y c e
   rw[qa ndP hp hu (by show scope.names.lookup y≠_;rw[k];decide)] at q
   exact q
 ·exact e0.hok.fresh (Nat.le_of_lt (x.above y c (PySem.mem_of_lookup h)))
 ·unfold start
  show _=N.length;rw[List.length_append,List.length_map,List.length_replicate];omega
theorem Fs {CX:yQ}{P:Program}{w:World}{K:W.Frag}{mg:Str->Option Value}{base:Heap}{k:Nat}{f:Addr}{name qual:Str}{params:Arguments}{body:List Stmt}{scope:Scope}{dV kV doc pm cdv ct oc:Value}{an od:Option Addr}
 {osl:Array (Option Value)} {N ps:List Str} {sp:Sp} (lk:K.lookup f=some ⟨oc,od,.func (W.fnOf name qual params body scope dV kV doc pm an cdv ct),osl⟩) (hcd:W.codeIn K cdv qual=true) (S:FnScope N ps scope)
 (len: ∀vs H Q E,sp vs H Q E->vs.length=ps.length)
 (hbody: ∀(A:Around) (outer:List Env) (s:Shared) (H:Hp) (vs:List V) (Q:VK) (E:XK),Room k (A.deeper (envOfC qual scope s.heap.objs.size f cdv))->sp vs H Q E->
   ∃t,PSs (pg CX P w K mg base N qual scope f cdv A outer s H E) body t/\t {nx:=λ_ H'=>Q .non H',rt:=Q} (start N vs) H):
 FnOk P w K mg base CX (k+1) f (W.fnOf name qual params body scope dV kV doc pm an cdv ct) ps sp:=by
 refine⟨len,λA outer s H args us vs Q E hr e0 hb r hsp=>?_⟩
 have hl:=len _ _ _ _ hsp
 have KX:K.In s.heap:=e0.mod.kin.keeps λb o e=>(e0.bs b o e).1
 have lim:s.heap.NoLimit:=e0.mod.nolimit.keeps λb o e=>(e0.bs b o e).1
 have hkind: ∀y∈ps.zip us,scope.names.lookup y.1=some .local\/(scope.names.lookup y.1=some .cell/\((cellsFrom (s.heap.objs.size+1) scope.names []).lookup y.1).isSome=true):=λ⟨n,v⟩ hy=>by
  rcases S.par n (List.of_mem_zip hy).1 with q|q
  ·exact .inl q
  ·exact .inr ⟨q,W.cellsFrom_some _ _ _ (.inl q)⟩
 refine codeAny_call_function hr.depth (KX _ _ lk) rfl S.co S.gen rfl (W.codeRec_of KX hcd) (hb _ _ _ _ ?_)
 refine wpAny_newFunctionEnv_cells S.kind hkind λenv he s1 x=>?_
 subst he;refine⟨lim.keeps x.toInCall.keep,codeAny_func ?_⟩
 obtain⟨t,ht,hq⟩:=hbody A outer s H vs Q E (hr.deeper _) hsp
 have I:Inv (pg CX P w K mg base N qual scope f cdv A outer s H E) [] (start N vs) H s1:=x9 S hr.hd e0 hl r x
 refine wpAny_mono (ht [] s1 (start N vs) H _ I hq) (λfl s' hs=>?_) λe s' hs=>hs
 have fin: ∀ {σ':St} {H':Hp} {v:V} {u:Value},Inv (pg CX P w K mg base N qual scope f cdv A outer s H E) [] σ' H' s'->RelV v u->Q v H'->CE outer P w H s Q u s':=
  λ{σ' H' v u} J rv q=>⟨v,H',J.os,J.bare,J.base,J.hok,rv,q⟩
 cases fl with
 |ret u=>
  obtain⟨v,σ',H',J,rv,q⟩:=hs
  exact fin J rv q
 |next=>
  obtain⟨σ',H',J,q⟩:=hs
  exact fin (v:=V.non) (u:=Value.none) J rfl q
 |brk=>
  obtain⟨_,_,_,q⟩:=hs
  exact False.elim q
 |cont=>
  obtain⟨_,_,_,q⟩:=hs
  exact False.elim q
section
variable {X:Cx}{x:Str}{p pos:Pos}{e:Expr}{es:List Expr}{t:TA}{id T:String}{r:List V->Hp->VK->Prop}
def Go(r:List V->Hp->VK->Prop)(t:TA):TE:=λσ H Q=>t σ H λvs H1=>r vs H1 Q
theorem lv(hc:dP X (.builtin id) r)(hg:Gl X x)(hm:X.mg x=none)(hv:bootBuiltins x=some (.builtin id))(ha:PA X (e::es) t)(hn:x≠"__name__":=by decide)(hdb:(x==("__debug__":Str))=false:=by decide)
 (he:starEach (e::es) X.env=(false,eval e X.env)::starEach es X.env:=by rfl) (hpl:(backTo pos (starEach es X.env)).any (·.1)=false:=by rfl):PE X (.Call (.Name x p) (e::es) [] pos) (Go r t):=by
 intro ae s σ H Q I h;refine wpAny_Call_Name_kw (mf I hg hm hv ?_ hn hdb)
 exact PyProof.Rows.callWith_builtin1 (bI (ha pos ae s σ H _ I h) λus s1 ⟨vs,H1,I1,r1,q1⟩=>hc ae s1 σ H1 vs us Q I1 r1 q1) he hpl
theorem ii(hc:dP X (.type T) r)(hg:Gl X x)(hm:X.mg x=none)(hv:bootBuiltins x=some (.type T))(ha:PA X (e::es) t)(hn:x≠"__name__":=by decide)(hdb:(x==("__debug__":Str))=false:=by decide)
 (he:starEach (e::es) X.env=(false,eval e X.env)::starEach es X.env:=by rfl) (hpl:(backTo pos (starEach es X.env)).any (·.1)=false:=by rfl):PE X (.Call (.Name x p) (e::es) [] pos) (Go r t):=by
 intro ae s σ H Q I h;refine wpAny_Call_Name_kw (mf I hg hm hv ?_ hn hdb)
 exact PyProof.Rows.callWith_type1 (bI (ha pos ae s σ H _ I h) λus s1 ⟨vs,H1,I1,r1,q1⟩=>hc ae s1 σ H1 vs us Q I1 r1 q1) he hpl
theorem uH(hc:dP X (.type T) r)(hg:Gl X x)(hm:X.mg x=none)(hv:bootBuiltins x=some (.type T))(hn:x≠"__name__":=by decide)(hdb:(x==("__debug__":Str))=false:=by decide):
 PE X (.Call (.Name x p) [] [] pos) (Go r GP):=by
 intro ae s σ H Q I h;refine wpAny_Call_Name_kw (mf I hg hm hv ?_ hn hdb)
 exact PyProof.Rows.callWith_type0 (hc ae s σ H [] [] Q I .nil h)
end
end L2
namespace HT
open PySem PyProof.Rows
section
variable {prog:Program}{w:World}{A:Around}{E:Value->Shared->Prop}{s:Shared}
theorem cat_tup {t b:Addr}{vs ws:List Value}{Q:Value->Shared->Prop}(ht:IsTup s.heap t vs.toArray)(hb:IsTup s.heap b ws.toArray)(hv:vs≠[])
 (h1:ws=[]->Q (.ref t) s) (h2:ws≠[]->Q (.ref s.heap.objs.size) {s with heap:=s.heap.push {cls:=.type "tuple",data:=.seq (vs++ws).toArray}})
 (hsz:vs.length+ws.length<=sizeLine):wpAny (model prog w) A (binaryOp .Add (.ref t) (.ref b)) Q E s:=by
 obtain⟨⟨cls,dd,data,sl⟩,ho,hc,n,hd⟩:=id ht
 obtain⟨⟨cls2,dd2,data2,sl2⟩,ho2,hc2,n2,hd2⟩:=id hb
 simp only at hc hd hc2 hd2;subst hc hd hc2 hd2;have e:vs.toArray++ws.toArray=(vs++ws).toArray:=by simp
 by_cases hw:ws=[]
 ·exact concat_meets ⟨_,ho,rfl⟩ ⟨_,ho2,rfl⟩ noFill_tuple_add seq_tuple_add PySem.F.slot_tuple_add PySem.F.entry_tuple_add (PySem.F.args_tuple_add_2 _ _)
   (tuple_addW1 t b vs.toArray ws.toArray n n2 dd dd2 sl sl2 (by simpa using hv) (by simp[hw])) ⟨ho,ho2,h1 hw⟩
 ·refine concat_meets ⟨_,ho,rfl⟩ ⟨_,ho2,rfl⟩ noFill_tuple_add seq_tuple_add PySem.F.slot_tuple_add PySem.F.entry_tuple_add (PySem.F.args_tuple_add_2 _ _)
   (tuple_addW2 t b vs.toArray ws.toArray n n2 dd dd2 sl sl2 (by simpa using hv) (by simpa using hw) (by rw[List.size_toArray,List.size_toArray];exact hsz)) ⟨ho,ho2,?_⟩
  rw[e];exact h2 hw
def sIx(n d:Nat):Option Int->Nat
 |none=>d
 |some v=>if v<0 then(v+(n:Int)).toNat else min v.toNat n
theorem sIx_none(n d:Nat):sIx n d none=d:=rfl
theorem sIx_nat(n d k:Nat):sIx n d (some (k:Int))=min k n:=by
 show(if(k:Int)<0 then((k:Int)+(n:Int)).toNat else min (k:Int).toNat n)=min k n
 rw[if_neg (by omega),Int.toNat_natCast]
theorem E7(n d:Nat)(hd:d<=n)(o:Option Int):sIx n d o<=n:=by
 cases o with
 |none=>exact hd
 |some v=>
  show(if v<0 then(v+(n:Int)).toNat else min v.toNat n)<=n
  by_cases hv:v<0
  ·rw[if_pos hv];omega
  ·rw[if_neg hv];exact Nat.min_le_right _ _
theorem vQ(v:Int)(n d:Nat):(if v<0 then max (v+(n:Int)) 0 else min v (n:Int))=((sIx n d (some v):Nat):Int):=by
 show(if v<0 then max (v+(n:Int)) 0 else min v (n:Int))=(((if v<0 then(v+(n:Int)).toNat else min v.toNat n):Nat):Int)
 by_cases hv:v<0
 ·simp only[if_pos hv];omega
 ·simp only[if_neg hv];omega
theorem uX(lo hi:Option Int)(n:Nat):Builtin.Slice.sliceAdjust lo hi 1 (n:Int)=(((sIx n 0 lo:Nat):Int),((sIx n n hi:Nat):Int)):=by
 have h1: ¬((1:Int)<0):=by omega
 unfold Builtin.Slice.sliceAdjust;simp only[h1,if_false];refine Prod.ext ?_ ?_
 ·cases lo with
  |none=>rfl
  |some v=>exact vQ v n 0
 ·cases hi with
  |none=>rfl
  |some v=>exact vQ v n n
theorem ut(i j:Nat):Builtin.Slice.slicePlaces (i:Int) (j:Int) 1=j-i:=by
 unfold Builtin.Slice.slicePlaces;have h1:(1:Int)>0:=by omega
 simp only[h1,if_true,Int.ediv_one];split<;>omega
theorem ox {v:Value}{o:Option Int}{Q:Option Int->Shared->Prop}(p:IsPart v o)(h:Q o s):wpAny (model prog w) A (Builtin.Slice.slicePartIndex v) Q E s:=by
 cases p with
 |none=>exact slicePart_none h
 |int i t=>exact slicePart_int h
theorem lW {sl:Addr}{vl vu:Value}{lo hi:Option Int}{n:Nat}{Q:Int×Int×Nat->Shared->Prop}(hs:s.heap.IsSliceOf sl vl vu .none)(pl:IsPart vl lo)(pu:IsPart vu hi)
 (h:Q (((sIx n 0 lo:Nat):Int),1,sIx n n hi-sIx n 0 lo) s):wpAny (model prog w) A (Builtin.Slice.sliceApplied (.ref sl) (pure (n:Int))) Q E s:=by
 obtain⟨os,hos,hcs,hds⟩:=id hs
 unfold Builtin.Slice.sliceApplied Builtin.Slice.sliceFields;refine wpAny_bind (wpAny_bind (wpAny_field hos hds (x:=vl) rfl (wpAny_bind (wpAny_field hos hds (x:=vu) rfl (wpAny_bind (wpAny_field hos hds (x:=.none) rfl (wpAny_pure ?_)))))))
 refine wpAny_bind (slicePart_none ?_)
 show wpAny _ _ (if((1:Int)==0)=true then _ else _) _ _ s
 rw[if_neg (by decide)]
 refine wpAny_bind (ox pl (wpAny_bind (ox pu (wpAny_bind (wpAny_pure ?_)))))
 show wpAny _ _ (match Builtin.Slice.sliceAdjust lo hi 1 (n:Int) with|(lo,hi)=>pure (lo,(1:Int),Builtin.Slice.slicePlaces lo hi 1)) _ _ s
 rw[uX lo hi n];show wpAny _ _ (pure (((sIx n 0 lo:Nat):Int),(1:Int),Builtin.Slice.slicePlaces ((sIx n 0 lo:Nat):Int) ((sIx n n hi:Nat):Int) 1)) _ _ s;rw[ut];exact wpAny_pure h
theorem yF(xs:Array Value)(i k:Nat):((List.range k).filterMap λ(m:Nat)=>xs[((i:Int)+(m:Int)*1).toNat]?).toArray=((xs.toList.drop i).take k).toArray:=by
 have e:(λ(m:Nat)=>xs[((i:Int)+(m:Int)*1).toNat]?)=λm=>xs[i+m]? :=by
  funext m;have:((i:Int)+(m:Int)*1).toNat=i+m:=by omega
  rw[this]
 rw[e];have:=pick_run xs i k
 rw[List.filterMap_map] at this;have e2:((λx=>xs[x]?)∘λx=>i+x)=λm=>xs[i+m]? :=rfl
 rw[e2] at this;rw[this]
theorem getItem_tuple_cut {t sl:Addr}{items:Array Value}{vl vu:Value}{lo hi:Option Int}{Q:Value->Shared->Prop}(ht:IsTup s.heap t items)(hs:s.heap.IsSliceOf sl vl vu .none)(pl:IsPart vl lo)(pu:IsPart vu hi)
 (hw: ¬(sIx items.size 0 lo=0/\sIx items.size items.size hi=items.size))
 (h:Q (.ref s.heap.objs.size) {s with heap:=s.heap.push {cls:=.type "tuple",data:=.seq ((items.toList.drop (sIx items.size 0 lo)).take (sIx items.size items.size hi-sIx items.size 0 lo)).toArray}})
 (hsz:items.size<=sizeLine):wpAny (model prog w) A (getItem (.ref t) (.ref sl)) Q E s:=by
 have htake:sizeOk (.seq ((items.toList.drop (sIx items.size 0 lo)).take (sIx items.size items.size hi-sIx items.size 0 lo)).toArray):=by
  show((items.toList.drop (sIx items.size 0 lo)).take (sIx items.size items.size hi-sIx items.size 0 lo)).toArray.size<=sizeLine;rw[List.size_toArray,List.length_take,List.length_drop,Array.length_toList];omega
 have hj:sIx items.size items.size hi<=items.size:=E7 _ _ (Nat.le_refl _) hi
 obtain⟨os,hos,hcs,hds⟩:=id hs
 have hTs:s.TypeIs (.ref sl) "slice":=⟨os,hos,hcs⟩
 unfold getItem
 try with_reducible refine wpAny_holding ?_
 first|refine wpAny_bind (wpAny_pure ?_)|skip
 refine wpAny_bind (wpAny_sequenceKey ht.typeIs (by decide) ?_)
 refine wpAny_bind (wpAny_callSpecial?_slot (name:=Str.ofString "__getitem__") ht.typeIs PyProof.Rows.slot_tuple_getitem
  (wpAny_call_entry PyProof.Rows.slot_tuple_getitem ht.typeIs entry_tuple_getitem ?_ (args_tuple_getitem _ _)))
 show wpAny _ _ (Builtin.Tuple.tupleItemsOf (.ref t)>>=_) _ _ s;refine wpAny_bind (tupleItemsOf_ ht ?_)
 refine wpAny_bind (wpAny_typeOf hTs ?_)
 rw[if_pos (by decide)]
 refine wpAny_bind (lW hs pl pu ?_)
 have hno: ¬((((sIx items.size 0 lo:Nat):Int)==0&&(1:Int)==1&&(sIx items.size items.size hi-sIx items.size 0 lo)==items.size)=true):=by
  intro q;rw[Bool.and_eq_true,Bool.and_eq_true] at q;have q1:((sIx items.size 0 lo:Nat):Int)=0:=eq_of_beq q.1.1
  have q2:sIx items.size items.size hi-sIx items.size 0 lo=items.size:=eq_of_beq q.2
  exact hw ⟨by omega,by omega⟩
 show wpAny _ _ (if(((sIx items.size 0 lo:Nat):Int)==0&&(1:Int)==1&&(sIx items.size items.size hi-sIx items.size 0 lo)==items.size)=true then _ else _) _ _ s
 rw[if_neg hno,yF]
 first
  |exact wpAny_bind (m:=Builtin.Tuple.tupleExact _) (wpAny_newObj_type (wpAny_pure ⟨_,rfl,wpAny_pure h⟩) htake)
  |exact wpAny_bind (m:=Builtin.Tuple.tupleExact _) (wpAny_newObj_type (wpAny_bind (wpAny_pure (wpAny_pure ⟨_,rfl,wpAny_pure h⟩))) htake)
  |exact wpAny_bind (wpAny_bind (m:=Builtin.Tuple.tupleExact _) (wpAny_newObj_type (wpAny_pure (wpAny_pure ⟨_,rfl,wpAny_pure h⟩)) htake))
  |exact wpAny_bind (wpAny_bind (m:=Builtin.Tuple.tupleExact _) (wpAny_newObj_type (wpAny_pure ⟨_,rfl,wpAny_pure h⟩) htake))
end
end HT
namespace L2
open PySem PySem.Spec PyProof.Rows
abbrev TO:=St->Hp->(Option Int->Hp->Prop)->Prop
def PO(X:Cx)(e:Option Expr)(t:TO):Prop:=
 ∀(ae:List (Addr×Obj)) (s:Shared) (σ:St) (H:Hp) (Q:Option Int->Hp->Prop),Inv X ae σ H s->t σ H Q->
  wpAny (model X.prog X.w) X.A (evalPart e X.env) (λu s'=> ∃o H',Inv X ae σ H' s'/\IsPart u o/\Q o H') X.xe s
def Ck:TO:=λ_ H Q=>Q none H
def GB(t:TE):TO:=λσ H Q=>t σ H λx H1=> ∃i,x=.int i/\Q (some i) H1
section
variable {X:Cx}{e:Expr}{te:TE}{lo hi:Option Expr}{tl th:TO}{pos p2:Pos}
theorem CM:PO X none Ck:=by
 intro ae s σ H Q I h;rw[evalPart_none];exact wpAny_pure ⟨none,H,I,.none,h⟩
theorem Br(h:PE X e te):PO X (some e) (GB te):=by
 intro ae s σ H Q I hw;rw[evalPart_some];refine bI (h ae s σ H _ I hw) λu s1 hq_=>?_
 obtain⟨x,H1,I1,r1,q1⟩:=hq_
 obtain⟨i,rfl,q⟩:=q1
 obtain⟨t,rfl⟩:=r1
 exact⟨some i,H1,I1,.int i t,q⟩
def Ie(X:Cx)(r:V->Option Int->Option Int->Hp->VK->Prop):Prop:=
 ∀(ae:List (Addr×Obj)) (s:Shared) (σ:St) (H:Hp) (x:V) (v vl vu:Value) (lo hi:Option Int) (sl:Addr) (Q:VK),Inv X ae σ H s->RelV x v->s.heap.IsSliceOf sl vl vu .none->IsPart vl lo->IsPart vu hi->r x lo hi H Q->
  ∃T id,typeLookup (.type T) "__getitem__"=pure (some (.builtin id))/\s.TypeIs v T/\wpAny (model X.prog X.w) X.A (getItem v (.ref sl)) (EP X ae σ Q) X.xe s
def IL(r:V->Option Int->Option Int->Hp->VK->Prop)(te:TE)(tl th:TO):TE:=λσ H Q=>te σ H λx H1=>tl σ H1 λl H2=>th σ H2 λu H3=>r x l u H3 Q
theorem nA {r:V->Option Int->Option Int->Hp->VK->Prop}(hr:Ie X r)(he:PE X e te)(hl:PO X lo tl)(hu:PO X hi th):PE X (.Subscript e (.Slice lo hi none p2) pos) (IL r te tl th):=by
 intro ae s σ H Q I h;refine Subscript_ (bI (he ae s σ H _ I h) λv s1 hq_=>?_)
 obtain⟨x,H1,I1,r1,q1⟩:=hq_
 refine wpAny_Slice (bI (hl ae s1 σ H1 _ I1 q1) λvl s2 ⟨l,H2,I2,pl,q2⟩=>bI (hu ae s2 σ H2 _ I2 q2) λvu s3 hq_=>?_)
 obtain⟨u,H3,I3,pu,q3⟩:=hq_
 rw[evalPart_none];refine wpAny_pure ?_
 have I4:Inv X ae σ H3 {s3 with heap:=s3.heap.push {cls:=.type "slice",data:=.fields #[vl,vu,.none]}}:=I3.kept (t':=s3.toks) λb ob q=>Heap.get?_push_of_some _ q
 obtain⟨T,id,hT,ht,hg⟩:=hr ae {s3 with heap:=s3.heap.push {cls:=.type "slice",data:=.fields #[vl,vu,.none]}} σ H3 x v vl vu l u s3.heap.objs.size Q I4 r1 (Heap.IsSliceOf.new ..) pl pu q3
 show wpAny (model X.prog X.w) X.A (subscriptTail e (.Slice lo hi none p2) v (.ref s3.heap.objs.size)) (EP X ae σ Q) X.xe {s3 with heap:=s3.heap.push {cls:=.type "slice",data:=.fields #[vl,vu,.none]}}
 exact tail_any (ops:=[.ref s3.heap.objs.size,v]) ht hT hg (by with_unfolding_all rfl)
def sX(xs:List V)(lo hi:Option Int):List V:=(xs.drop (HT.sIx xs.length 0 lo)).take (HT.sIx xs.length xs.length hi-HT.sIx xs.length 0 lo)
theorem mM(xs:List V)(lo hi:Option Int):(sX xs lo hi).length<=xs.length:=by
 unfold sX;rw[List.length_take,List.length_drop];omega
def HC(K:W.Frag):V->Option Int->Option Int->Hp->VK->Prop:=λx lo hi H Q=> ∃a xs,x=.ref a/\SqT K H a xs/\
 ¬(HT.sIx xs.length 0 lo=0/\HT.sIx xs.length xs.length hi=xs.length)/\ ∀p,H p=none->Q (.ref p) (bM H p (.tup (sX xs lo hi)))
theorem EL:Ie X (HC X.K):=by
 intro ae s σ H x v vl vu lo hi sl Q I rx hs pl pu h;obtain⟨a,xs,rfl,hx,hw,q⟩:=h
 cases rx
 obtain⟨its,r,ht,hz⟩:=I.tuple hx
 have hlen:its.toArray.size=xs.length:=by rw[List.size_toArray];exact r.length.symm
 refine⟨"tuple",_,PyProof.Rows.slot_tuple_getitem.lookup,ht.typeIs,?_⟩
 refine HT.getItem_tuple_cut ht hs pl pu (by rw[hlen];exact hw) ?_ (by rw[hlen];exact hz)
 rw[hlen];refine⟨.ref s.heap.objs.size,_,I.laid (t':=s.toks) (o:=.tup (sX xs lo hi)) (λb ob q=>Heap.get?_push_of_some _ q) (Nat.le_refl _) ?_,rfl,q _ (I.hok.fresh (Nat.le_refl _))⟩
 exact⟨Nat.le_trans (mM xs lo hi) hz,_,(r.drop (HT.sIx xs.length 0 lo)).take (HT.sIx xs.length xs.length hi-HT.sIx xs.length 0 lo),IsTup.new _ _,_,Heap.get?_push_size _ rfl,rfl⟩
def GC(K:W.Frag):R2:=λx y H Q=> ∃a b xs ys,x=.ref a/\y=.ref b/\SqT K H a xs/\SqT K H b ys/\xs≠[]/\xs.length+ys.length<=sizeLine/\
 (ys=[]->Q (.ref a) H)/\(ys≠[]-> ∀p,H p=none->Q (.ref p) (bM H p (.tup (xs++ys))))
theorem Vals.nil_iff {xs:List V}{us:List Value}(r:Vals xs us):us=[]↔xs=[]:=by
 cases r with
 |nil=>simp
 |cons _ _=>simp
theorem Cw:jL X (binaryOp .Add) (GC X.K):=by
 intro ae s σ H x y v u Q I rx ry h;obtain⟨a,b,xs,ys,rfl,rfl,ha,hb,hx,hz,q1,q2⟩:=h
 cases rx
 cases ry
 obtain⟨its,r1,p1,_⟩:=I.tuple ha
 obtain⟨its2,r2,p2,_⟩:=I.tuple hb
 refine HT.cat_tup p1 p2 (λz=>hx (r1.nil_iff.mp z)) (λz=>⟨.ref a,H,I,rfl,q1 (r2.nil_iff.mp z)⟩) (λz=>?_) (by rw[<-r1.length,<-r2.length];exact hz)
 refine⟨.ref s.heap.objs.size,_,I.laid (t':=s.toks) (o:=.tup (xs++ys)) (λb ob q=>Heap.get?_push_of_some _ q) (Nat.le_refl _) ?_,rfl,q2 (λw=>z (r2.nil_iff.mpr w)) _ (I.hok.fresh (Nat.le_refl _))⟩
 exact⟨by rw[List.length_append];exact hz,_,r1.append r2,IsTup.new _ _,_,Heap.get?_push_size _ rfl,rfl⟩
end
def ub(n:Nat)(i:Int):Option Nat:=if 0<=i then(if i<n then some i.toNat else none) else if -(n:Int)<=i then some (i+n).toNat else none
def rL {α:Type}(xs:List α)(i:Int):Option α:=(ub xs.length i).bind λj=>xs[j]?
theorem rh {n:Nat}{i:Int}{j:Nat}(h:ub n i=some j):seqIndex? i n=some j/\j<n/\ -(n:Int)<=i/\i<n:=by
 unfold ub at h
 by_cases h0:0<=i
 ·rw[if_pos h0] at h
  by_cases h1:i<n
  ·rw[if_pos h1] at h
   have e:i.toNat=j:=Option.some.inj h
   exact⟨by rw[seqIndex_of h0 h1,e],by omega,by omega,h1⟩
  ·rw[if_neg h1] at h;cases h
 ·rw[if_neg h0] at h
  by_cases h1: -(n:Int)<=i
  ·rw[if_pos h1] at h
   have e:(i+n).toNat=j:=Option.some.inj h
   exact⟨by rw[seqIndex_neg (by omega) h1,e],by omega,h1,by omega⟩
  ·rw[if_neg h1] at h;cases h
theorem qP {α:Type}{xs:List α}{i:Int}{v:α}(h:rL xs i=some v): ∃j,seqIndex? i xs.length=some j/\xs[j]? =some v/\j<xs.length/\ -(xs.length:Int)<=i/\i<xs.length:=by
 unfold rL at h;cases e:ub xs.length i with
 |none=>rw[e] at h;cases h
 |some j=>
  rw[e] at h;obtain⟨h1,h2,h3,h4⟩:=rh e
  exact⟨j,h1,h,h2,h3,h4⟩
theorem qU {α:Type}{xs:List α}{j:Nat}{v:α}(h:xs[j]? =some v):rL xs (j:Int)=some v:=by
 have hj:j<xs.length:=(List.getElem?_eq_some_iff.mp h).1
 have e:ub xs.length (j:Int)=some j:=by
  unfold ub;rw[if_pos (by omega),if_pos (by omega)];simp
 unfold rL;rw[e];exact h
def qu(b:Expr):Prop:= ∀o i,subscripted b false o i=operate [o,i] (getItem o i)
def IxR(X:Cx)(r:R2):Prop:=
 ∀(value slice:Expr) (ae:List (Addr×Obj)) (s:Shared) (σ:St) (H:Hp) (x y:V) (v u:Value) (Q:VK),Inv X ae σ H s->RelV x v->RelV y u->r x y H Q->
  subscripted slice false v u=operate [v,u] (getItem v u)->wpAny (model X.prog X.w) X.A (subscriptTail value slice v u) (EP X ae σ Q) X.xe s
def Ip(X:Cx)(id:String)(r:V->List V->Hp->VK->Prop):Prop:=
 ∀(ae:List (Addr×Obj)) (s:Shared) (σ:St) (H:Hp) (x:V) (xs:List V) (v:Value) (us:List Value) (Q:VK),Inv X ae σ H s->RelV x v->Vals xs us->r x xs H Q->
  wpAny (model X.prog X.w) X.A (call (.builtin id) (v::us)) (EP X ae σ Q) X.xe s
section
variable {X:Cx}{a b:Expr}{ta tb:TE}{pos:Pos}
theorem IxR.or {r r':R2}(h:IxR X r)(h':IxR X r'):IxR X (λx y H Q=>r x y H Q\/r' x y H Q):=by
 intro value slice ae s σ H x y v u Q I rx ry q hs;rcases q with q|q
 ·exact h value slice ae s σ H x y v u Q I rx ry q hs
 ·exact h' value slice ae s σ H x y v u Q I rx ry q hs
theorem Dg {r:R2}(hr:IxR X r)(ha:PE X a ta)(hb:PE X b tb)(hs:qu b):PE X (.Subscript a b pos) (Fj r ta tb):=by
 intro ae s σ H Q I h;exact Subscript_ (EC ha hb I h λv u s2 x y H2 I2 rx ry q=>hr a b ae s2 σ H2 x y v u Q I2 rx ry q (hs _ _))
def FU(K:W.Frag):R2:=λx y H Q=> ∃p xs i v,x=.ref p/\y=.int i/\SqL K H p xs/\rL xs i=some v/\Q v H
def Fu(K:W.Frag):R2:=λx y H Q=> ∃p xs i v,x=.ref p/\y=.int i/\SqT K H p xs/\rL xs i=some v/\Q v H
def FH:R2:=λx y H Q=> ∃z i c,x=.str z/\y=.int i/\z.length<=sizeLine/\rL z.cps.toList i=some c/\Q (.str ⟨#[c]⟩) H
theorem ix_list:IxR X (FU X.K):=by
 intro value slice ae s σ H x y v u Q I rx ry h hs;obtain⟨p,xs,i,z,rfl,rfl,hq,he,q⟩:=h
 cases rx
 obtain⟨t,rfl⟩:=ry
 obtain⟨its,r,pl,hz⟩:=I.list hq
 obtain⟨j,h1,h2,h3,h4,h5⟩:=qP he
 obtain⟨w,ew,rw'⟩:=r.get h2
 have hl:=r.length
 have hn:=kB
 have fin:EP X ae σ Q w s:=⟨z,H,I,rw',q⟩
 by_cases h0:0<=i
 ·have hj:i.toNat=j:=by
   rw[seqIndex_of h0 h5] at h1;exact Option.some.inj h1
  exact item_listR pl.isList h0 (by omega) (by rw[hj];simpa using ew) fin hs
 ·have hj:(i+(its.toArray.size:Int)).toNat=j:=by
   rw[seqIndex_neg (by omega) h4] at h1
   rw[List.size_toArray,<-hl];exact Option.some.inj h1
  exact subscriptTail_builtinR (x:=w) pl.isList.typeIs slot_list_getitem.lookup
   (wpAny_getItem_list_neg (Q:=λr s'=>r=w/\EP X ae σ Q r s') pl.isList (by omega) (by rw[List.size_toArray]<;>omega) (by omega) (by rw[hj];simpa using ew) ⟨rfl,fin⟩) hs
theorem ix_tup:IxR X (Fu X.K):=by
 intro value slice ae s σ H x y v u Q I rx ry h hs;obtain⟨p,xs,i,z,rfl,rfl,hq,he,q⟩:=h
 cases rx
 obtain⟨t,rfl⟩:=ry
 obtain⟨its,r,pl,hz⟩:=I.tuple hq
 obtain⟨j,h1,h2,h3,h4,h5⟩:=qP he
 obtain⟨w,ew,rw'⟩:=r.get h2
 have hl:=r.length
 have hn:=kB
 have fin:EP X ae σ Q w s:=⟨z,H,I,rw',q⟩
 exact subscriptTail_builtinR (x:=w) pl.typeIs slot_tuple_getitem.lookup
  (getItem_tuple (j:=j) (Q:=λr s'=>r=w/\EP X ae σ Q r s') pl (by omega) (by omega) (by rw[List.size_toArray,<-hl];exact h1) (by simpa using ew) ⟨rfl,fin⟩) hs
theorem Dq:IxR X FH:=by
 intro value slice ae s σ H x y v u Q I rx ry h hs;obtain⟨z,i,c,rfl,rfl,hz,he,q⟩:=h
 obtain⟨t,rfl⟩:=rx
 obtain⟨t',rfl⟩:=ry
 obtain⟨j,h1,h2,h3,h4,h5⟩:=qP he
 have hl:z.cps.toList.length=z.length:=by simp[Str.length]
 rw[hl] at h1 h4 h5;have hn:=kB
 exact tail_any (typeIs_str s z t) slot_str_getitem.lookup (getItem_str (c:=c) (by
  have e1:decide (i< -(2^63:Int))=false:=decide_eq_false (by omega)
  have e2:decide (i≥2^63)=false:=decide_eq_false (by omega)
  rw[e1,e2,Bool.or_false]) (by rw[h1];simpa using h2) ⟨.str ⟨#[c]⟩,H,I.tok _,⟨_,rfl⟩,q⟩) hs
def IC(K:W.Frag):R2:=λx y H Q=>FU K x y H Q\/Fu K x y H Q\/FH x y H Q
theorem aD:IxR X (IC X.K):=ix_list.or (ix_tup.or Dq)
theorem uJ(its:List Value)(n j:Nat)(u:Value):Obj.mapSeq (·.setIfInBounds j u) {cls:=.type "list",data:=.seq its.toArray n}={cls:=.type "list",data:=.seq (its.set j u).toArray n}:=by
 simp[Obj.mapSeq]
theorem Inv.lst {ae:List (Addr×Obj)}{σ:St}{H:Hp}{s:Shared}{p:Addr}{xs:List V}(I:Inv X ae σ H s)(h:H p=some (.lst xs)):
 ∃(its:List Value) (n:Nat),Vals xs its/\s.heap.get? p=some {cls:=.type "list",data:=.seq its.toArray n}/\xs.length<=sizeLine:=by
 obtain⟨z,its,n,r,e⟩:=I.hok p _ h
 exact⟨its,n,r,e,z⟩
theorem Inv.lstUpd {ae:List (Addr×Obj)}{σ:St}{H:Hp}{s:Shared}{p:Addr}{xs ys:List V}{its its':List Value}{n n':Nat}{f:Obj->Obj}(I:Inv X ae σ H s)(h:H p=some (.lst xs))
 (ho:s.heap.get? p=some {cls:=.type "list",data:=.seq its.toArray n}) (hf:f {cls:=.type "list",data:=.seq its.toArray n}={cls:=.type "list",data:=.seq its'.toArray n'}) (r:Vals ys its') (hz:ys.length<=sizeLine) (t:Nat):
 Inv X ae σ (bM H p (.lst ys)) {s with heap:=s.heap.update p f,toks:=t}:=by
 have e:(s.heap.update p f).get? p=some {cls:=.type "list",data:=.seq its'.toArray n'}:=by
  rw[Heap.get?_update_self f ho (by rw[hf]<;>rfl),hf]
 refine I.write (x:=p) (e:=p) (by rw[h];trivial) (.inl rfl) (λb u hb q=>(Heap.get?_update_other _ _ (Ne.symm hb)).trans q) ⟨_,e⟩ ?_
 exact⟨hz,its',n',r,e⟩
def FZ:V->V->V->Hp->(Hp->Prop)->Prop:=λo i v H Q=> ∃p xs k j,o=.ref p/\i=.int k/\H p=some (.lst xs)/\ub xs.length k=some j/\Q (bM H p (.lst (xs.set j v)))
theorem Au:Gg X FZ:=by
 intro ae s σ H o i v ov iv u Q I ro ri rv h;obtain⟨p,xs,k,j,rfl,rfl,hp,hj,q⟩:=h
 cases ro
 obtain⟨t,rfl⟩:=ri
 obtain⟨its,n,r,ho,hz⟩:=I.lst hp
 obtain⟨h1,h2,h3,h4⟩:=rh hj
 have hl:=r.length
 have hn:=kB
 have I':Inv X ae σ (bM H p (.lst (xs.set j v))) {s with heap:=s.heap.update p (Obj.mapSeq (·.setIfInBounds j u))}:=
  I.lstUpd hp ho (uJ its n j u) (r.set rv j) (by rw[List.length_set];exact hz) s.toks
 by_cases h0:0<=k
 ·have hk:k.toNat=j:=by
   rw[seqIndex_of h0 h4] at h1;exact Option.some.inj h1
  exact W.ki_setAt ho h0 (by omega) (by rw[List.size_toArray,<-hl];exact h4) (by rw[hk];exact⟨_,I',q⟩)
 ·have hk:(k+(its.toArray.size:Int)).toNat=j:=by
   rw[seqIndex_neg (by omega) h3] at h1
   rw[List.size_toArray,<-hl];exact Option.some.inj h1
  exact W.ki_setBack ho (by omega) (by rw[List.size_toArray,<-hl];exact h3) (by omega) (by rw[hk];exact⟨_,I',q⟩)
theorem qz(lo hi:Option Int)(n:Nat):(sliceBounds lo hi none n).1=((HT.sIx n 0 lo:Nat):Int)/\(sliceBounds lo hi none n).2.1=((HT.sIx n n hi:Nat):Int)/\(sliceBounds lo hi none n).2.2=1:=by
 refine⟨?_,?_,rfl⟩
 ·cases lo with
  |none=>simp[sliceBounds,HT.sIx]
  |some i=>
   simp only[sliceBounds,HT.sIx,Option.getD_none,show(1:Int)>0 by decide,if_true]
   by_cases h:i<0
   ·simp only[h,if_true]<;>omega
   ·simp only[h,if_false]<;>omega
 ·cases hi with
  |none=>simp[sliceBounds,HT.sIx]
  |some i=>
   simp only[sliceBounds,HT.sIx,Option.getD_none,show(1:Int)>0 by decide,if_true]
   by_cases h:i<0
   ·simp only[h,if_true]<;>omega
   ·simp only[h,if_false]<;>omega
theorem oX(its:List Value)(lo hi:Option Int):slicePick its.toArray lo hi none=((its.drop (HT.sIx its.length 0 lo)).take (HT.sIx its.length its.length hi-HT.sIx its.length 0 lo)).toArray:=by
 obtain⟨h1,h2,h3⟩:=qz lo hi its.toArray.size
 unfold slicePick;rw[h1,h2,h3];simp only[sliceRange_one,pick_run,List.size_toArray]<;>rfl
def Ic(K:W.Frag):V->Option Int->Option Int->Hp->VK->Prop:=λx lo hi H Q=> ∃a xs,x=.ref a/\SqL K H a xs/\ ∀p,H p=none->Q (.ref p) (bM H p (.lst (sX xs lo hi)))
theorem vP:Ie X (Ic X.K):=by
 intro ae s σ H x v vl vu lo hi sl Q I rx hs pl pu h;obtain⟨a,xs,rfl,hx,q⟩:=h
 cases rx
 obtain⟨its,r,ht,hz⟩:=I.list hx
 have hlen:=r.length
 refine⟨"list",_,slot_list_getitem.lookup,ht.isList.typeIs,?_⟩
 refine wpAny_getItem_list_slice ht.isList hs pl pu .none (by simp) ?_ (by rw[List.size_toArray]<;>omega)
 rw[oX,<-hlen];refine⟨.ref s.heap.objs.size,_,I.laid (t':=s.toks) (o:=.lst (sX xs lo hi)) (λb ob q=>Heap.get?_push_of_some _ q) (Nat.le_refl _) ?_,rfl,q _ (I.hok.fresh (Nat.le_refl _))⟩
 exact⟨Nat.le_trans (mM xs lo hi) hz,_,0,(r.drop (HT.sIx xs.length 0 lo)).take (HT.sIx xs.length xs.length hi-HT.sIx xs.length 0 lo),Heap.get?_push_size _ rfl⟩
theorem bz:dP X (.builtin "len") (λxs H Q=> ∃p ys,xs=[.ref p]/\(SqL X.K H p ys\/SqT X.K H p ys)/\Q (.int ys.length) H):=by
 intro ae s σ H xs us Q I r h;obtain⟨p,ys,rfl,hq,q⟩:=h
 obtain⟨u,rfl,rx⟩:=kc r
 cases rx
 have hn:=kB
 rcases hq with hq|hq
 ·obtain⟨its,r',pl,hz⟩:=I.list hq
  have hlen:=r'.length
  exact Calls.call_len_list pl.isList (by simp only[List.size_toArray]<;>omega) ⟨.int ys.length,H,I.tok _,⟨s.toks+1,by rw[List.size_toArray,hlen]⟩,q⟩
 ·obtain⟨its,r',pl,hz⟩:=I.tuple hq
  have hlen:=r'.length
  exact len_tuple pl (by simp only[List.size_toArray]<;>omega) ⟨.int ys.length,H,I.tok _,⟨s.toks+1,by rw[List.size_toArray,hlen]⟩,q⟩
theorem iZ:dP X (.type "list") (λxs H Q=> ∃p ys,xs=[.ref p]/\(SqL X.K H p ys\/SqT X.K H p ys)/\ ∀l,H l=none->Q (.ref l) (bM H l (.lst ys))):=by
 intro ae s σ H xs us Q I r h;obtain⟨p,ys,rfl,hq,q⟩:=h
 obtain⟨u,rfl,rx⟩:=kc r
 cases rx
 have fin: ∀(its:List Value),Vals ys its->ys.length<=sizeLine-> ∀(h':Heap) (c':Nat),(∀b o',s.heap.get? b=some o'->h'.get? b=some o')->
  h'.get? s.heap.objs.size=some {cls:=.type "list",dict:=none,data:=.seq its.toArray c',slots:= #[]}->EP X ae σ Q (.ref s.heap.objs.size) {s with heap:=h'}:=λits r' hz h' c' kp e=>
  ⟨.ref s.heap.objs.size,_,I.laid (t':=s.toks) kp (Nat.le_refl _) (show ObjOk X.prog X.w _ h' _ (.lst ys) from⟨hz,its,c',r',e⟩),rfl,q _ (I.hok.fresh (Nat.le_refl _))⟩
 rcases hq with hq|hq
 ·obtain⟨its,r',pl,hz⟩:=I.list hq
  have hlen:=r'.length
  obtain⟨o,ho,hc,n,hd⟩:=pl.isList
  exact call_list_seq p (.inl rfl) ho hc hd (λh' c' kp e=>fin its r' hz h' c' kp e) (by simp only[List.size_toArray]<;>omega)
 ·obtain⟨its,r',pl,hz⟩:=I.tuple hq
  have hlen:=r'.length
  obtain⟨o,ho,hc,n,hd⟩:=pl
  exact call_list_seq p (.inr rfl) ho hc hd (λh' c' kp e=>fin its r' hz h' c' kp e) (by simp only[List.size_toArray]<;>omega)
theorem cO:dP X (.type "tuple") (λxs H Q=> ∃p ys,xs=[.ref p]/\((SqL X.K H p ys/\ ∀l,H l=none->Q (.ref l) (bM H l (.tup ys)))\/(SqT X.K H p ys/\Q (.ref p) H))):=by
 intro ae s σ H xs us Q I r h;obtain⟨p,ys,rfl,h⟩:=h
 obtain⟨u,rfl,rx⟩:=kc r
 cases rx
 rcases h with⟨hq,q⟩|⟨hq,q⟩
 ·obtain⟨its,r',pl,hz⟩:=I.list hq
  have hlen:=r'.length
  refine call_tuple_list pl.isList (λh' kp=>?_) (by simp only[List.size_toArray]<;>omega)
  have I1:Inv X ae σ H {s with heap:=h'}:=I.kept (t':=s.toks) kp
  have I2:Inv X ae σ (bM H h'.objs.size (.tup ys)) {s with heap:=h'.push {cls:=.type "tuple",data:=.seq its.toArray}}:=
   I1.laid (t':=s.toks) (λb o e=>Heap.get?_push_of_some _ e) (Nat.le_refl _) (show ObjOk X.prog X.w _ _ _ (.tup ys) from⟨hz,its,r',IsTup.new _ _,_,Heap.get?_push_size _ rfl,rfl⟩)
  exact⟨.ref h'.objs.size,_,I2,rfl,q _ (I1.hok.fresh (Nat.le_refl _))⟩
 ·obtain⟨its,r',pl,hz⟩:=I.tuple hq
  exact call_tuple_same pl ⟨.ref p,H,I,rfl,q⟩
def IE(K:W.Frag)(T:String)(x:V)(H:Hp):Prop:=match x with
 | .str _=>T="str"
 | .int _=>T="int"
 | .ref p=>(T="list"/\ ∃xs,SqL K H p xs)\/(T="tuple"/\ ∃xs,SqT K H p xs)\/
    (T="dict"/\((∃kvs,H p=some (.dK kvs))\/ ∃kvs,H p=some (.dT kvs)))\/(T="set"/\ ∃S n,H p=some (.set S n))\/(T="set"/\ ∃xs,H p=some (.tst xs))
 |_=>False
theorem Ew {ae:List (Addr×Obj)}{σ:St}{H:Hp}{s:Shared}{T:String}{x:V}{v:Value}(I:Inv X ae σ H s)(r:RelV x v)(ty:IE X.K T x H):
 s.TypeIs v T/\ ∀a,v=.ref a-> ∃ob,s.heap.get? a=some ob/\ob.dict=none:=by
 cases x with
 |str z=>
  obtain⟨t,rfl⟩:=r
  cases (show T="str" from ty)
  exact⟨typeIs_str s z t,λ_ e=>nomatch e⟩
 |int i=>
  obtain⟨t,rfl⟩:=r
  cases (show T="int" from ty)
  exact⟨typeIs_int s i t,λ_ e=>nomatch e⟩
 |ref p=>
  cases r
  rcases ty with⟨rfl,xs,hq⟩|⟨rfl,xs,hq⟩|⟨rfl,hk⟩|⟨rfl,S,n,hk⟩|⟨rfl,xs,hk⟩
  ·obtain⟨its,_,pl,_⟩:=I.list hq
   refine⟨pl.isList.typeIs,λa e=>?_⟩
   cases e
   obtain⟨o,n,e,c,hd,_⟩:=pl
   exact⟨o,e,hd⟩
  ·obtain⟨⟨ob,ho,hc⟩,o2,h2,hd⟩:=I.tupleN hq
   refine⟨⟨ob,ho,hc⟩,λa e=>?_⟩
   cases e
   exact⟨o2,h2,hd⟩
  ·have z: ∃o,s.heap.get? p=some o/\o.ExactDict:=by
    rcases hk with⟨kvs,hk⟩|⟨kvs,hk⟩
    ·obtain⟨_,_,_,_,o,_,_,e,ex,_⟩:=I.hok p _ hk
     exact⟨o,e,ex⟩
    ·obtain⟨_,_,_,_,o,_,_,e,ex,_⟩:=I.hok p _ hk
     exact⟨o,e,ex⟩
   obtain⟨o,e,ex⟩:=z
   refine⟨⟨o,e,ex.1⟩,λa e2=>?_⟩
   cases e2
   exact⟨o,e,ex.2.1⟩
  ·obtain⟨o,_,_,_,e,ex,_⟩:=I.hok p _ hk
   refine⟨⟨o,e,ex.1⟩,λa e2=>?_⟩
   cases e2
   exact⟨o,e,ex.2.1⟩
  ·obtain⟨o,_,_,_,e,ex⟩:=I.hok p _ hk
   refine⟨⟨o,e,ex.ex.1⟩,λa e2=>?_⟩
   cases e2
   exact⟨o,e,ex.ex.2.1⟩
 |_=>exact False.elim ty
def IQ(K:W.Frag)(T:String)(r:V->List V->Hp->VK->Prop)(to:TE)(t:TA):TE:=λσ H Q=>to σ H λx H1=>IE K T x H1/\t σ H1 λxs H2=>r x xs H2 Q
variable {o e:Expr}{es:List Expr}{to:TE}{t:TA}{name:Str}{apos cpos:Pos}{T id:String}{r:V->List V->Hp->VK->Prop}
theorem zU(pa:PlainAttrs T)(slot:Slot T name id)(hty:typeOf (.builtin id)=pure (.type "method_descriptor"))(hm:Ip X id r)(ho:PE X o to)(ha:PA X (e::es) t)
 (hbase:attributeBase o name X.env (eval o X.env)=eval o X.env:=by rfl)
 (hfew:((backTo cpos (starEach (e::es) X.env)).all (λx=> !x.1)&&(backToKw cpos (keywordEach [] X.env)).all (λx=>x.1.isSome)
   &&decide ((e::es).length+([]:List Keyword).length+(if([]:List Keyword).isEmpty then 0 else 1)<30))=true:=by rfl)
 (hline:(apos.endLine==cpos.line)=true:=by rfl) (hs:starEach (e::es) X.env=(false,eval e X.env)::starEach es X.env:=by rfl) (hplain:(backTo cpos (starEach es X.env)).any (·.1)=false:=by rfl):
 PE X (.Call (.Attribute o name apos) (e::es) [] cpos) (IQ X.K T r to t):=by
 intro ae s σ H Q I h;refine wpAny_Call_method_late hbase hfew hline rfl (bI (ho ae s σ H _ I h) λv s1 hq_=>?_)
 obtain⟨x,H1,I1,r1,ty,q1⟩:=hq_
 obtain⟨h1,h2⟩:=Ew I1 r1 ty
 refine⟨T,id,pa,slot,hty,h1,h2,?_⟩
 have hA:=ha cpos ae s1 σ H1 _ I1 q1
 rw[hs] at hA⊢;refine Calls.callWith_builtin (by show(false||(backTo cpos (starEach es X.env)).any (·.1))=false;rw[hplain]<;>rfl) (Calls.evalArgs_plain ?_)
 exact bI hA λus s2 ⟨vs,H2,I2,r2,q2⟩=>hm ae s2 σ H2 x vs v us Q I2 r1 r2 q2
end
def Il(X:Cx)(id:String)(r:V->List V->Hp->VK->Prop):Prop:=
 ∀(ae:List (Addr×Obj)) (s:Shared) (σ:St) (H:Hp) (x:V) (xs:List V) (v:Value) (us:List Value) (Q:VK),Inv X ae σ H s->RelV x v->Vals xs us->r x xs H Q->
  wpAny (model X.prog X.w) X.A (call (.builtin id) (v::us)) (EP X ae σ Q) X.xe s
theorem Vals.one: ∀ {x:V} {us:List Value},Vals [x] us-> ∃u,us=[u]/\RelV x u
 |_,_,.cons r .nil=>⟨_,rfl,r⟩
theorem Vals.eraseIdx: ∀ {xs:List V} {us:List Value} (i:Nat),Vals xs us->Vals (xs.eraseIdx i) (us.eraseIdx i)
 |_,_,_,.nil=>.nil
 |_,_,0,.cons _ t=>t
 |_,_,i+1,.cons r t=>.cons r (Vals.eraseIdx i t)
theorem pN {α:Type}: ∀(l:List α) (i:Nat),(l.eraseIdx i).length<=l.length
 | [],_=>Nat.le_refl _
 |_::_,0=>Nat.le_succ _
 |_::r,i+1=>Nat.succ_le_succ (pN r i)
section
variable {X:Cx}{ae:List (Addr×Obj)}{σ:St}{H:Hp}{s:Shared}{l b:Addr}{xs ys zs:List V}
theorem Inv.lset {its its':List Value}{n:Nat}{f:Array Value->Array Value}{t':Nat}(I:Inv X ae σ H s)(hH:H l=some (.lst xs))
 (e:s.heap.get? l=some {cls:=.type "list",data:=.seq its.toArray n}) (hf:f its.toArray=its'.toArray) (hv:Vals ys its') (hz:ys.length<=sizeLine):
 Inv X ae σ (bM H l (.lst ys)) {s with heap:=s.heap.update l (Obj.mapSeq f),toks:=t'}:=by
 have q:=PySem.IsL.update e f
 rw[hf] at q;refine I.write (x:=l) (e:=l) (by rw[hH];exact trivial) (.inl rfl) (λb' u hb hu=>(Heap.get?_update_other s.heap (Obj.mapSeq f) (Ne.symm hb)).trans hu) ⟨_,q⟩ ?_
 exact⟨hz,its',_,hv,q⟩
theorem Inv.lnew {its:List Value}{t':Nat}(I:Inv X ae σ H s)(hv:Vals ys its)(hz:ys.length<=sizeLine):
 Inv X ae σ (bM H s.heap.objs.size (.lst ys)) {s with heap:=s.heap.push {cls:=.type "list",data:=.seq its.toArray},toks:=t'}:=
 I.laid (λ_ _ q=>Heap.get?_push_of_some _ q) (Nat.le_refl _) ⟨hz,its,0,hv,Heap.get?_push_size _ rfl⟩
theorem Inv.fresh(I:Inv X ae σ H s):H s.heap.objs.size=none:=I.hok.fresh (Nat.le_refl _)
theorem Inv.lstM(I:Inv X ae σ H s)(hH:H l=some (.lst xs)):xs.length<=sizeLine/\ ∃(its:List Value) (n:Nat),Vals xs its/\xs.length=its.length/\s.heap.get? l=some {cls:=.type "list",data:=.seq its.toArray n}:=by
 obtain⟨z,its,n,r,e⟩:=I.hok l _ hH
 exact⟨z,its,n,r,r.length,e⟩
end
section
variable {X:Cx}
def vC:V->List V->Hp->VK->Prop:=λx vs H Q=> ∃l xs y,x=.ref l/\vs=[y]/\H l=some (.lst xs)/\xs.length<sizeLine/\Q .non (bM H l (.lst (xs++[y])))
theorem dB:Il X "list.append" vC:=by
 intro ae s σ H x vs v us Q I rx rv h;obtain⟨l,xs,y,rfl,rfl,hH,hz,q⟩:=h
 cases rx
 obtain⟨u,rfl,ru⟩:=rv.one
 obtain⟨z,its,n,r,hl,e⟩:=I.lstM hH
 refine call_meets F.slot_list_append ⟨_,e,rfl⟩ F.entry_list_append (F.args_list_append_2 _ _) (PySem.list_append l its.toArray n u (by rw[List.size_toArray];omega)) ⟨e,?_⟩
 refine⟨.non,_,I.lset (its':=its++[u]) hH e (by simp) (r.append (.cons ru .nil)) ?_,rfl,q⟩
 rw[List.length_append,List.length_singleton];omega
def yJ:V->List V->Hp->VK->Prop:=λx vs H Q=> ∃l xs i k y,x=.ref l/\vs=[.int i]/\H l=some (.lst xs)/\ -(2^63)<=i/\i<2^63/\seqIndex? i xs.length=some k/\xs[k]? =some y/\Q y (bM H l (.lst (xs.eraseIdx k)))
theorem Aa:Il X "list.pop" yJ:=by
 intro ae s σ H x vs v us Q I rx rv h;obtain⟨l,xs,i,k,y,rfl,rfl,hH,h1,h2,hk,hy,q⟩:=h
 cases rx
 obtain⟨u,rfl,ru⟩:=rv.one
 obtain⟨t,rfl⟩:=ru
 obtain⟨z,its,n,r,hl,e⟩:=I.lstM hH
 obtain⟨w,hw,rw'⟩:=r.get hy
 refine call_meets F.slot_list_pop ⟨_,e,rfl⟩ F.entry_list_pop (F.args_list_pop_2 _ _)
  (MeetsSeq.list_pop_at l its.toArray n i t k w (fitsIndex_both h1 h2) (by rw[List.size_toArray,<-hl];exact hk) (by rw[<-Array.getElem?_toList];exact hw) (by rw[List.size_toArray];omega)) ⟨e,?_⟩
 refine⟨y,_,I.lset (its':=its.eraseIdx k) hH e ?_ (r.eraseIdx k) ?_,rw',q⟩
 ·show its.toArray.eraseIdxIfInBounds k=(its.eraseIdx k).toArray
  rw[List.eraseIdxIfInBounds_toArray]
 ·have:=pN xs k
  omega
end
end L2
namespace Att
open PySem PySem.W PySem.Calls PyProof.Rows
theorem m7 {P:Params}{h:Heap}: ∀(ns:List Int) (vs:List Value),WellAll P h vs (ns.map WData.int)->IntsAre vs ns:=by
 intro ns
 induction ns with
 |nil=>
  intro vs w;rw[List.map_nil] at w;cases w
  exact .nil
 |cons n ns ih=>
  intro vs w;rw[List.map_cons] at w;cases w with
  |cons a b=>
   cases a
   exact .cons _ _ (ih _ b)
theorem xW {l:OpenLaw}{n:Nat}(hn:l.most=some n){P:Params}{h:Heap}{args:List WData}{vals:List Value}
 (hpre:l.row.toRowW.claim.pre args=true) (hwl:WellAll P h vals args):
 ∃a vs ns,vals=[Value.ref a]/\args=[WData.list (ns.map WData.int)]/\h.get? a=some {cls:=.type "list",data:=.seq vs.toArray}/\IntsAre vs ns/\ns.length<=n:=by
 have hsh:WShape.hasAll [] args [.list .int]=true:=(pre_splitW hpre).1
 have hc:l.pre.holds [] {args:=args}=true:=(pre_splitW hpre).2
 obtain⟨d,r,rfl,h1,h2⟩:=hasAllW_cons hsh
 obtain rfl:=hasAllW_nil h2
 obtain⟨xs,rfl,h3⟩:=hasW_list h1
 obtain⟨ns,rfl⟩:=items_int h3
 have hlen:ns.length<=n:=by
  unfold OpenLaw.pre at hc;have h4:(WTm.not (.lt (.lit (.int (n:Int))) (.len (.arg 0)))).holds [] {args:=[.list (ns.map .int)]}=true:=by
   have h4:=(holds_andW hc).1
   rw[hn] at h4;exact h4
  have h5:=condW_of h4 (w_not (w_lt w_lit (w_len_list (w_arg rfl))))
  rw[List.length_map] at h5;refine Nat.le_of_not_lt λq=>?_
  have q':(n:Int)<((ns.length:Nat):Int):=by omega
  first
   |(rw[decide_eq_true q'] at h5;exact absurd h5 (by decide))
   |(simp at h5;omega)
 cases hwl with
 |cons w1 w2=>
  cases w2
  cases w1 with
  |list ho hall=>exact⟨_,_,ns,rfl,rfl,ho,m7 ns _ hall,hlen⟩
theorem wX(l:OpenLaw)(args:List WData):l.row.toRowW.claim.post args (.bool true) args=true:=
 postW_of (r:=l.row.toRowW) (X:=(true==true))
  (show WShape.has [] (.bool true) .bool=true by first|rfl|decide|simp[WShape.has,WShape.arms,WShape.armsAll])
  (show(WTm.eq .res (.lit (.bool true))).value [] {args:=args,res:=some (.bool true),after:=args}=some (.bool (true==true)) from w_eq_bool (w_res rfl) w_lit) rfl
theorem attach_call {l:OpenLaw}{n:Nat}{q:Program}{loose:List Str}{XP:(Str->Option Value)->Heap->Prop}{YP:World->Heap->Prop}{d:DefRec}
 (hn:l.most=some n) (hdf:d.params.defaults=[])
 (call: ∀(w:World) (s₀ s₁:Shared) (mg mb:Str->Option Value) (fa:Addr) (o:Obj) (pm cd doc:Value) (a:Addr) (vs:List Value) (ns:List Int),
   Ground q loose [] XP w s₀ mg mb s₁.heap->YP w s₁.heap->
   s₁.heap.get? fa=some o->o.data=.func (docDef d.name d.params d.body d.scope pm cd doc)->s₁.heap.CodeRec cd d.name->mg d.name=some (.ref fa)->
   s₁.heap.get? a=some {cls:=.type "list",data:=.seq vs.toArray}->IntsAre vs ns->ns.length<=n->s₁.gens= #[]->
   codeAny (model l.prog w) callerA (.call (.ref fa) ⟨[.ref a],[]⟩) (λr s'=>r=.ok (.ret (.bool true))/\OldK s₁.heap s'.heap/\s'.os=s₁.os/\AllBare s'.gens) s₁):
 WalkO q loose XP YP l.row.toRowW d [] (λf vs=>PySem.call f vs):=by
 intro w s₀ s₁ mg mb G Y fa o pm cd doc dV kV ho hd hcd hD hmg hg args vals as hpre hlay hrd hwl hlo;obtain rfl:dV=.none:=Dflts.none hD hdf
 obtain rfl:kV=.none:=Dflts.noKw hD
 obtain⟨a,vs,ns,rfl,rfl,hobj,hints,hlen⟩:=xW hn hpre hwl
 refine enter_call (codeAny_mono (call w s₀ s₁ mg mb fa o pm cd doc a vs ns G Y ho (fd_plain hd) hcd hmg hobj hints hlen hg) λr s' hq=>?_)
 obtain⟨rfl,h2,h3,h4⟩:=hq
 exact⟨.inl ⟨.bool true,.bool true,[],rfl,λ_=>rfl,.bool true,wX l _,λ_=>⟨List.Pairwise.nil,λ_ hm=>(nomatch hm)⟩⟩,h2,h3,h4⟩
end Att
namespace L2
open PySem PySem.Spec PyProof.Rows
theorem pA: ∀ {vs:List Value} {ns:List Int},IntsAre vs ns->Vals (ns.map V.int) vs
 |_,_,.nil=>.nil
 |_,_,.cons n t h=>.cons ⟨t,rfl⟩ (pA h)
def Ei(H:Hp):Prop:= ∀b,H b=none\/ ∃o xs,H b=some (.frz o (.lst xs))
theorem yx {P:Program}{w:World}{K:W.Frag}{mg mb:Str->Option Value}{CX:yQ}{k:Nat}{fa a:Addr}{fd:FuncData}{x:Str}{sp:Sp}{s₁:Shared}{vs:List Value}{ns:List Int}
 (KX:K.In s₁.heap) (hns:s₁.heap.Ns mainGlobals mg) (hb:s₁.heap.Ns builtinsNs mb) (hbb: ∀x:Str,x≠"__name__"->mb x=bootBuiltins x) (hlim:s₁.heap.NoLimit) (hg:s₁.gens= #[])
 (ha:s₁.heap.get? a=some {cls:=.type "list",data:=.seq vs.toArray}) (hi:IntsAre vs ns) (hl:ns.length<=sizeLine) (hr:Room k callerA)
 (F: ∀base:Heap,K.In base->base.Ns mainGlobals mg->FnOk P w K mg base CX k fa fd [x] sp) (hbind: ∀(s:Shared) (u:Value),BindsTo s fd ⟨[u],[]⟩ [(x,u)])
 (hsp: ∀H:Hp,Ei H->SqL K H a (ns.map V.int)->sp [.ref a] H (λv _=>v=.bl true) λ_ _ _=>False)
 (hCX: ∀H e s',CX [] H s₁ (λ_ _ _=>False) e s'->False):
 codeAny (model P w) callerA (.call (.ref fa) ⟨[.ref a],[]⟩) (λr s'=>r=.ok (.ret (.bool true))/\OldK s₁.heap s'.heap/\s'.os=s₁.os/\AllBare s'.gens) s₁:=by
 have rv:=pA hi
 have lenV:=hi.length
 have core: ∀H:Hp,Ei H->SqL K H a (ns.map V.int)->HOk P w H s₁.heap->(∀b,H b≠none->b=a)->(H a≠none->K.lookup a=none)->
  codeAny (model P w) callerA (.call (.ref fa) ⟨[.ref a],[]⟩) (λr s'=>r=.ok (.ret (.bool true))/\OldK s₁.heap s'.heap/\s'.os=s₁.os/\AllBare s'.gens) s₁:=by
  intro H hO hS hok hA hK;have base_of: ∀ {b:Addr} {o:Obj},s₁.heap.get? b=some o->H b=none->(rJ s₁.heap H).get? b=some o:=λe n=>AT e n
  have noA: ∀ {b:Addr} {o:Obj} {es:Array DictEntry} {ep:Nat},s₁.heap.get? b=some o->o.data=.dict es ep->H b=none:=λ{b o es ep} e d=>by
   cases q:H b with
   |none=>rfl
   |some u=>
    have e':b=a:=hA b (by rw[q];simp)
    subst e';rw[ha] at e;cases e;have d':Data.seq vs.toArray _=Data.dict es ep:=d
    cases d'
  have nsK: ∀ {b:Addr} {m:Str->Option Value},s₁.heap.Ns b m->(rJ s₁.heap H).Ns b m:=λ{b m} ⟨o,es,ep,e,d,r⟩=>⟨o,es,ep,base_of e (noA e d),d,r⟩
  have hKb:K.In (rJ s₁.heap H):=λb o e=>base_of (KX b o e) (by
   cases q:H b with
   |none=>rfl
   |some u=>
    have e':b=a:=hA b (by rw[q];simp)
    subst e';rw[hK (by rw[q];simp)] at e;cases e)
  have hM:Mod K mg (rJ s₁.heap H):=⟨hKb,nsK hns,⟨mb,nsK hb,hbb⟩,let⟨mc,h1,h2⟩:=hlim;⟨mc,nsK h1,h2⟩⟩
  have e0:Env0 P w K mg (rJ s₁.heap H) callerA [] s₁ H:=⟨rfl,hM,λb o e=>CZ e,Nat.le_of_eq (wM _ _),trivial,λb hb=>absurd (show b∈([]:List Addr) from hb) (by simp),hok,.of_eq hg⟩
  refine codeAny_mono ((F _ hKb (nsK hns)).run callerA [] s₁ H ⟨[.ref a],[]⟩ [.ref a] [.ref a] _ _ hr e0 (hbind s₁ (.ref a)) (.cons rfl .nil) (hsp H hO hS)) λr s' h=>?_
  cases r with
  |error e=>exact(hCX H e s' h).elim
  |ok fl=>
   cases fl with
   |next=>exact False.elim h
   |brk=>exact False.elim h
   |cont=>exact False.elim h
   |ret u=>
    obtain⟨v,H',os,bare,un,hok',r',q⟩:=h
    have q':v=.bl true:=q
    subst q';obtain rfl:u=Value.bool true:=r'
    refine⟨rfl,OldK.of_keep λb o e=>?_,os,bare⟩
    cases q:H b with
    |none=>exact un.keep b o e q (by intro z;exact absurd (show b∈([]:List Addr) from z) (by simp)) (by simp)
    |some u=>
     rcases hO b with z|⟨ob,xs,z⟩
     ·rw[q] at z;cases z
     ·have z2:=un.frzs b ob _ z
      obtain⟨e1,_⟩:=hok b _ z
      obtain⟨e2,_⟩:=hok' b _ z2
      rw[e] at e1;cases e1;exact e2
 cases hk:K.lookup a with
 |some o=>
  have e:=KX a o hk
  rw[ha] at e;cases e
  refine core (λ_=>none) (λ_=>.inl rfl) (.inr ⟨_,vs.toArray,_,hk,rfl,rfl,rfl,by rw[List.size_toArray,lenV];exact hl,by simpa using rv⟩) (λb u z=>by have z':(none:Option HO)=some u:=z;cases z') (λb z=>absurd rfl z) λz=>absurd rfl z
 |none=>
  refine core (λb=>if b=a then some (.frz {cls:=.type "list",data:=.seq vs.toArray} (.lst (ns.map V.int))) else none) (λb=>?_) (.inl (.inr ⟨{cls:=.type "list",data:=.seq vs.toArray},if_pos rfl⟩)) (λb u z=>?_) (λb z=>?_) λ_=>hk
  ·by_cases hb:b=a
   ·exact .inr ⟨_,_,if_pos hb⟩
   ·exact .inl (if_neg hb)
  ·by_cases hb:b=a
   ·have z':=(if_pos hb).symm.trans z
    cases z'
    subst hb;exact⟨ha,by rw[List.length_map];exact hl,vs,_,rv,ha⟩
   ·have z':=(if_neg hb).symm.trans z
    cases z'
  ·by_cases hb:b=a
   ·exact hb
   ·exact absurd (if_neg hb) z
theorem walk_of {l:W.OpenLaw}{n k:Nat}{q:Program}{loose:List Str}{XP:(Str->Option Value)->Heap->Prop}{YP:World->Heap->Prop}{d:DefRec}{K:Params->W.Frag}{CX:World->yQ}{sp:World->Sp}{x:Str}
 (hn:l.most=some n) (hn2:n<=sizeLine) (hdf:d.params.defaults=[]) (hr:Room k callerA)
 (hY: ∀(w:World) (h:Heap),YP w h->(K w.params).In h)
 (F: ∀(w:World) (mg:Str->Option Value) (fa:Addr) (h:Heap),(K w.params).In h->h.Ns mainGlobals mg->mg d.name=some (.ref fa)->
   ∃fd:FuncData,(∀(s:Shared) (u:Value),BindsTo s fd ⟨[u],[]⟩ [(x,u)])/\
    ∀base:Heap,(K w.params).In base->base.Ns mainGlobals mg->FnOk l.prog w (K w.params) mg base (CX w) k fa fd [x] (sp w))
 (hsp: ∀(w:World) (H:Hp) (a:Addr) (ns:List Int),ns.length<=n->Ei H->SqL (K w.params) H a (ns.map V.int)->sp w [.ref a] H (λv _=>v=.bl true) λ_ _ _=>False)
 (hCX: ∀(w:World) (H:Hp) (s:Shared) (e:Value) (s':Shared),CX w [] H s (λ_ _ _=>False) e s'->False):
 W.WalkO q loose XP YP l.row.toRowW d [] (λf vs=>PySem.call f vs):=by
 refine Att.attach_call hn hdf λw s₀ s₁ mg mb fa o pm cd doc a vs ns G Y ho hd hcd hmg hobj hints hlen hg=>?_
 have KX:=hY w _ Y
 obtain⟨fd,hb,hF⟩:=F w mg fa _ KX G.T.g hmg
 exact yx KX G.T.g G.T.b G.T.builtins G.T.nolimit hg hobj hints (Nat.le_trans hlen hn2) hr hF hb (λH hO hS=>hsp w H a ns hlen hO hS) λH e s'=>hCX w H s₁ e s'
def aR(s:Stmt):Arguments:=match s with
 | .FunctionDef _ a _ _ _ _ _ _ _ _=>a
 |_=>{posonlyargs:=[],args:=[],vararg:=none,kwonlyargs:=[],kw_defaults:=[],kwarg:=none,defaults:=[]}
def aM(s:Stmt):List Stmt:=match s with
 | .FunctionDef _ _ b _ _ _ _ _ _ _=>b
 |_=>[]
def am(s:Stmt):Scope:=match s with
 | .FunctionDef _ _ _ _ _ _ sc _ _ _=>sc
 |_=>{kind:=.function,names:=[],isGenerator:=false,isCoroutine:=false}
abbrev rO:yQ:=λ_ _ _ _ _ _=>False
abbrev E0:XK:=λ_ _ _=>False
theorem yz {X:Cx}:uh rO X E0:=λ_ _ _ _ _ _ _ h=>h.elim
structure Fun(K:W.Frag)(x qual:Str)(st:Stmt)(f:Addr)(fd:FuncData):Prop where
 ex: ∃(oc:Value) (od:Option Addr) (kV doc pm:Value) (an:Option Addr) (cdv ct:Value) (osl:Array (Option Value)),
  fd=W.fnOf x qual (aR st) (aM st) (am st) .none kV doc pm an cdv ct/\K.lookup f=some ⟨oc,od,.func fd,osl⟩/\W.codeIn K cdv qual=true
 kp:W.keepIn K (.ref f)=true
section
variable {P:Program}{w:World}{K:W.Frag}{mg:Str->Option Value}{base:Heap}
theorem Fun.ok {x qual:Str}{st:Stmt}{f:Addr}{fd:FuncData}{N ps:List Str}{k:Nat}{sp:Sp}(F:Fun K x qual st f fd)(S:FnScope N ps (am st))(len: ∀vs H Q E,sp vs H Q E->vs.length=ps.length)
 (hbody: ∀(cdv:Value) (A:Around) (outer:List Env) (s:Shared) (H:Hp) (vs:List V) (Q:VK) (E:XK),Room k (A.deeper (envOfC qual (am st) s.heap.objs.size f cdv))->sp vs H Q E->
   ∃t,PSs (pg rO P w K mg base N qual (am st) f cdv A outer s H E).nox (aM st) t/\t {nx:=λ_ H'=>Q .non H',rt:=Q} (start N vs) H):FnOk P w K mg base rO (k+1) f fd ps sp:=by
 obtain⟨oc,od,kV,doc,pm,an,cdv,ct,osl,rfl,lk,hcd⟩:=F.ex
 refine Fs lk hcd S len λA outer s H vs Q E hr hsp=>?_
 obtain⟨t,h,q⟩:=hbody cdv A outer s H vs Q E hr hsp
 exact⟨t,h.nox,q⟩
theorem Fun.binds {x qual:Str}{st:Stmt}{f:Addr}{fd:FuncData}{ps:List Str}(F:Fun K x qual st f fd)
 (h: ∀(kV doc pm:Value) (an:Option Addr) (cdv ct:Value) (us:List Value),us.length=ps.length->bindArgs (W.fnOf x qual (aR st) (aM st) (am st) .none kV doc pm an cdv ct) ⟨us,[]⟩=pure (ps.zip us)):Binds K fd ps []:=by
 obtain⟨oc,od,kV,doc,pm,an,cdv,ct,osl,rfl,lk,hcd⟩:=F.ex
 exact .all (h kV doc pm an cdv ct)
theorem bt {x qual:Str}{st:Stmt}{f:Addr}{oc:Value}{od an:Option Addr}{osl:Array (Option Value)}{kV doc pm cdv ct:Value}(l:K.lookup f=some ⟨oc,od,.func (W.fnOf x qual (aR st) (aM st) (am st) .none kV doc pm an cdv ct),osl⟩)
 (c:W.codeIn K cdv qual=true) (k:W.keepIn K (.ref f)=true):Fun K x qual st f (W.fnOf x qual (aR st) (aM st) (am st) .none kV doc pm an cdv ct):=⟨⟨oc,od,kV,doc,pm,an,cdv,ct,osl,rfl,l,c⟩,k⟩
end
theorem pj {A:Around}{k:Nat}(hr:Room k A):A.units+1<cLine:=Nat.lt_of_le_of_lt (Nat.add_le_add_left (by decide:1<=64) _) hr.units
theorem lP {n:Nat}(h:n<=1000):n<sizeLine:=Nat.lt_of_le_of_lt h (by decide)
section
variable {X:Cx}
theorem pv(i:Nat){x:Str}{pos:Pos}(hN:X.N[i]? =some x:=by rfl)(hv:qI X.env.scope x:=by first|exact Or.inl rfl|exact Or.inr (Or.inl rfl)|exact Or.inr (Or.inr rfl))(hd:(x==("__debug__":Str))=false:=by decide)
 (hcd:(x==("__classdict__":Str))=false:=by decide):PE X (.Name x pos) (GL i):=EY hN hv hd hcd
end
theorem qW {A B:Prop}(h:B):if false=true then A else B:=by
 rw[if_neg Bool.false_ne_true];exact h
theorem qy {A B:Prop}(h:A):if true=true then A else B:=by
 rw[if_pos rfl];exact h
def Same(H H':Hp):Prop:= ∀b o,H b=some o->H' b=some o
theorem Same.refl(H:Hp):Same H H:=λ_ _ h=>h
theorem Same.trans {H H1 H2:Hp}(a:Same H H1)(b:Same H1 H2):Same H H2:=λc o h=>b c o (a c o h)
theorem Same.free {H H':Hp}(e:Same H H'){l:Addr}(h:H' l=Option.none):H l=Option.none:=by
 cases q:H l with
 |none=>rfl
 |some o=>
  rw[e l o q] at h;cases h
theorem Same.seq {K:W.Frag}{H H':Hp}{a:Addr}{xs:List V}(e:Same H H')(h:SqL K H a xs):SqL K H' a xs:=by
 rcases h with(h|⟨o,h⟩)|h
 ·exact .inl (.inl (e _ _ h))
 ·exact .inl (.inr ⟨o,e _ _ h⟩)
 ·exact .inr h
inductive D where
 |non|bl (b:Bool)|int (i:Int)|str (x:Str)|tup (ds:List D)|lst (ds:List D)
 |scr (ds:List D)
def SqR(K:W.Frag)(H:Hp)(a:Addr)(xs:List V):Prop:=
 (∃o,H a=some (.frz o (.lst xs)))\/
   ∃(o:Obj) (its:Array Value) (n:Nat),K.lookup a=some o/\o.cls=.type "list"/\o.dict=none/\o.data=.seq its n/\its.size<=sizeLine/\Vals xs its.toList
theorem SqR.seq {K:W.Frag}{H:Hp}{a:Addr}{xs:List V}(h:SqR K H a xs):SqL K H a xs:=h.elim (λh=>.inl (.inr h)) .inr
theorem Same.seqR {K:W.Frag}{H H':Hp}{a:Addr}{xs:List V}(e:Same H H')(h:SqR K H a xs):SqR K H' a xs:=h.elim (λ⟨o,h⟩=>.inl ⟨o,e _ _ h⟩) .inr
mutual
inductive Rep (K:W.Frag) (F:Hp):V->D->Prop
 |non:Rep K F .non .non
 |bl {b:Bool}:Rep K F (.bl b) (.bl b)
 |int {i:Int}:Rep K F (.int i) (.int i)
 |str {x:Str}:Rep K F (.str x) (.str x)
 |tup {a:Addr} {xs:List V} {ds:List D}:SqT K F a xs->Reps K F xs ds->Rep K F (.ref a) (.tup ds)
 |lst {a:Addr} {xs:List V} {ds:List D}:F a=some (.lst xs)->Reps K F xs ds->Rep K F (.ref a) (.lst ds)
 |scr {a:Addr} {xs:List V} {ds:List D}:SqR K F a xs->Reps K F xs ds->Rep K F (.ref a) (.scr ds)
inductive Reps (K:W.Frag) (F:Hp):List V->List D->Prop
 |nil:Reps K F [] []
 |cons {x:V} {d:D} {xs:List V} {ds:List D}:Rep K F x d->Reps K F xs ds->Reps K F (x::xs) (d::ds)
end
theorem Same.seqT {K:W.Frag}{H H':Hp}{a:Addr}{xs:List V}(e:Same H H')(h:SqT K H a xs):SqT K H' a xs:=by
 rcases h with(h|⟨o,h⟩)|h
 ·exact .inl (.inl (e _ _ h))
 ·exact .inl (.inr ⟨o,e _ _ h⟩)
 ·exact .inr h
mutual
theorem Rep.mono {K:W.Frag}{F G:Hp}(s:Same F G): ∀ {v:V} {d:D},Rep K F v d->Rep K G v d
 |_,_,.non=>.non
 |_,_,.bl=>.bl
 |_,_,.int=>.int
 |_,_,.str=>.str
 |_,_,.tup h r=>.tup (Same.seqT s h) (Reps.mono s r)
 |_,_,.lst h r=>.lst (s _ _ h) (Reps.mono s r)
 |_,_,.scr h r=>.scr (Same.seqR s h) (Reps.mono s r)
theorem Reps.mono {K:W.Frag}{F G:Hp}(s:Same F G): ∀ {v:List V} {d:List D},Reps K F v d->Reps K G v d
 |_,_,.nil=>.nil
 |_,_,.cons r t=>.cons (Rep.mono s r) (Reps.mono s t)
end
section
variable {K:W.Frag}{F G H:Hp}
theorem Reps.length: ∀ {xs:List V} {ds:List D},Reps K F xs ds->xs.length=ds.length
 |_,_,.nil=>rfl
 |_,_,.cons _ t=>by simp[t.length]
theorem Reps.get: ∀ {xs:List V} {ds:List D} {i:Nat} {d:D},Reps K F xs ds->ds[i]? =some d-> ∃x,xs[i]? =some x/\Rep K F x d
 |_,_,_,_,.nil,e=>by simp at e
 |_,_,0,_,.cons r _,e=>by simp at e;subst e;exact⟨_,rfl,r⟩
 |_,_,i+1,d,.cons _ t,e=>by
  obtain⟨u,h1,h2⟩:=Reps.get (i:=i) (d:=d) t (by simpa using e)
  exact⟨u,by simpa using h1,h2⟩
theorem Reps.get' {xs:List V}{ds:List D}{i:Nat}{x:V}(r:Reps K F xs ds)(e:xs[i]? =some x): ∃d,ds[i]? =some d/\Rep K F x d:=by
 have hl:=r.length
 have hi:=(List.getElem?_eq_some_iff.mp e).1
 have e2:ds[i]? =some ds[i]:=List.getElem?_eq_getElem (by omega)
 obtain⟨y,h1,h2⟩:=r.get e2
 rw[e] at h1;cases h1;exact⟨_,e2,h2⟩
theorem Reps.append: ∀ {xs ys:List V} {us ws:List D},Reps K F xs us->Reps K F ys ws->Reps K F (xs++ys) (us++ws)
 |_,_,_,_,.nil,s=>s
 |_,_,_,_,.cons r t,s=>.cons r (Reps.append t s)
theorem Reps.set {x:V}{u:D}(r:Rep K F x u): ∀ {xs:List V} {us:List D} (i:Nat),Reps K F xs us->Reps K F (xs.set i x) (us.set i u)
 |_,_,_,.nil=>.nil
 |_,_,0,.cons _ t=>.cons r t
 |_,_,i+1,.cons q t=>.cons q (Reps.set r i t)
theorem Reps.eraseIdx: ∀ {xs:List V} {us:List D} (i:Nat),Reps K F xs us->Reps K F (xs.eraseIdx i) (us.eraseIdx i)
 |_,_,_,.nil=>.nil
 |_,_,0,.cons _ t=>t
 |_,_,i+1,.cons q t=>.cons q (Reps.eraseIdx i t)
theorem Reps.reverse {xs:List V}{us:List D}(h:Reps K F xs us):Reps K F xs.reverse us.reverse:=by
 induction xs generalizing us with
 |nil=>cases h;exact .nil
 |cons x xs ih=>
  cases h with
  |cons r t=>simp only[List.reverse_cons];exact(ih t).append (.cons r .nil)
theorem Reps.take: ∀ {xs:List V} {us:List D} (n:Nat),Reps K F xs us->Reps K F (xs.take n) (us.take n)
 |_,_,0,_=>.nil
 |_,_,_+1,.nil=>.nil
 |_,_,n+1,.cons r t=>.cons r (Reps.take n t)
theorem Reps.drop: ∀ {xs:List V} {us:List D} (n:Nat),Reps K F xs us->Reps K F (xs.drop n) (us.drop n)
 |_,_,0,r=>r
 |_,_,_+1,.nil=>.nil
 |_,_,n+1,.cons _ t=>Reps.drop n t
end
abbrev bK:=Addr->Bool
def vw(H:Hp)(hid:bK):Hp:=λb=>if hid b=true then none else H b
def aZ(hid:bK)(a:Addr):bK:=λb=>hid b||decide (b=a)
theorem vw_some {H:Hp}{hid:bK}{b:Addr}{o:HO}:vw H hid b=some o↔hid b=false/\H b=some o:=by
 unfold vw;cases hb:hid b<;>simp
theorem dY(H:Hp)(hid:bK):Same (vw H hid) H:=λb o h=>(vw_some.mp h).2
theorem aQ {H H':Hp}{hid:bK}(s:Same H H'):Same (vw H hid) (vw H' hid):=λb o h=>vw_some.mpr ⟨(vw_some.mp h).1,s _ _ (vw_some.mp h).2⟩
theorem vI {H H':Hp}{hid:bK}(s: ∀b o,H b=some o->hid b=false->H' b=some o):Same (vw H hid) (vw H' hid):=λb o h=>vw_some.mpr ⟨(vw_some.mp h).1,s _ _ (vw_some.mp h).2 (vw_some.mp h).1⟩
theorem eD {H:Hp}{hid:bK}{a:Addr}{o:HO}(h:hid a=true):vw (bM H a o) hid=vw H hid:=by
 funext b;unfold vw bM
 by_cases e:b=a
 ·subst e;simp[h]
 ·simp[e]
theorem iW {H:Hp}{hid hid':bK}(h: ∀b,hid' b=true->hid b=true):Same (vw H hid) (vw H hid'):=λb o q=>by
 obtain⟨q1,q2⟩:=vw_some.mp q
 refine vw_some.mpr ⟨?_,q2⟩
 cases e:hid' b with
 |false=>rfl
 |true=>rw[h b e] at q1;cases q1
theorem rm {H:Hp}{hid:bK}{a:Addr}{o:HO}(h:H a=none):vw (bM H a o) (aZ hid a)=vw H hid:=by
 funext b;unfold vw bM aZ
 by_cases e:b=a
 ·subst e
  cases hb:hid b<;>simp[h]
 ·simp[e]
inductive Ob where
 |exc (x:Str) (n:Int)
 |dK (kvs:List (bQ×D))
 |dT (kvs:List (List bQ×D))
 |set (ds:List D)
 |old (d:D)
 |jnk
 |tset (ks:List (List Int))
 |dF (kvs:List (List bQ×D))
inductive Sl where
 |no
 |v (d:D)
 |own (ds:List D)
 |arg (ds:List D)
 |ob (b:Ob)
abbrev aF:=List Sl
structure Ct where
 H₀:Hp
 hid₀:bK
 mu:Addr->Bool
def GO(K:W.Frag)(x:Str)(n:Int)(a:Addr)(h:Heap):Prop:= ∃C o,W.nsIn K mainGlobals x=some (some (.ref C))/\h.get? a=some o/\o.cls=.ref C/\o.dict=none/\W.notCls o=true
def tV:Option HO->Bool
 |some (.lst _)=>true
 |_=>false
def fv(c:Ct)(F:Hp):Hp:=λb=>if(c.H₀ b).isSome=true/\tV (F b)=true then none else F b
def ov(c:Ct)(F:Hp):Hp:=λb=>if(c.H₀ b).isSome=true then F b else none
theorem fv_some {c:Ct}{F:Hp}{b:Addr}{o:HO}:fv c F b=some o↔(tV (some o)=true->c.H₀ b=none)/\F b=some o:=by
 unfold fv;constructor
 ·intro h
  split at h
  ·cases h
  ·rename_i hn
   refine⟨λq=>?_,h⟩
   rw[h] at hn;cases hb:c.H₀ b with
   |none=>rfl
   |some u=>exact absurd ⟨by rw[hb];rfl,q⟩ hn
 ·rintro⟨h1,h2⟩
  rw[if_neg,h2]
  rintro⟨q1,q2⟩
  rw[h2] at q2;rw[h1 q2] at q1;cases q1
theorem ov_some {c:Ct}{F:Hp}{b:Addr}{o:HO}:ov c F b=some o↔(∃u,c.H₀ b=some u)/\F b=some o:=by
 unfold ov;cases hb:c.H₀ b<;>simp
theorem Cc {c:Ct}{F G:Hp}(s:Same F G):Same (fv c F) (fv c G):=λb o h=>fv_some.mpr ⟨(fv_some.mp h).1,s _ _ (fv_some.mp h).2⟩
theorem BJ {c:Ct}{F G:Hp}(s:Same F G):Same (ov c F) (ov c G):=λb o h=>ov_some.mpr ⟨(ov_some.mp h).1,s _ _ (ov_some.mp h).2⟩
def ObOk(K:W.Frag)(c:Ct)(hid:bK)(H:Hp)(a:Addr):Ob->Prop
 | .exc x n=> ∃φ,vw H hid a=some (.ext φ)/\ ∀h,φ h->GO K x n a h
 | .dK kvs=>(hid a=true/\c.H₀ a=none)/\ ∃us:List (bQ×V),H a=some (.dK us)/\us.map (·.1)=kvs.map (·.1)/\Reps K (vw H hid) (us.map (·.2)) (kvs.map (·.2))
 | .dT kvs=>(hid a=true/\c.H₀ a=none)/\ ∃us:List (List bQ×V),H a=some (.dT us)/\us.map (·.1)=kvs.map (·.1)/\Reps K (vw H hid) (us.map (·.2)) (kvs.map (·.2))
 | .set ds=>(hid a=true/\c.H₀ a=none)/\ ∃xs:List V,H a=some (.lst xs)/\Reps K (fv c (vw H hid)) xs ds
 | .old d=>Rep K (ov c (vw H hid)) (.ref a) d
 | .jnk=>(hid a=true/\c.H₀ a=none)/\ ∃xs:List V,H a=some (.lst xs)
 | .tset ks=>(hid a=true/\c.H₀ a=none)/\ ∃xs:List (List Int×Addr),H a=some (.tst xs)/\(xs.map (·.1)).Perm ks/\Reps K (vw H hid) (xs.map λx=>V.ref x.2) (xs.map λx=>D.tup (x.1.map D.int))
 | .dF kvs=>(hid a=true/\c.H₀ a=none)/\ ∃(o:Obj) (us:List (List bQ×V)),H a=some (.frz o (.dT us))/\us.map (·.1)=kvs.map (·.1)/\Reps K (vw H hid) (us.map (·.2)) (kvs.map (·.2))
def wK:Ob->Prop
 | .exc _ _=>False
 | .old _=>False
 |_=>True
theorem ObOk.mono {K:W.Frag}{c:Ct}{hid hid':bK}{H H':Hp}{a:Addr}{b:Ob}(h:ObOk K c hid H a b)(k:wK b-> ∀o,H a=some o->H' a=some o)(s:Same (vw H hid) (vw H' hid'))(w:wK b->hid a=true->hid' a=true):ObOk K c hid' H' a b:=by
 cases b with
 |exc x n=>obtain⟨φ,h1,h2⟩:=h;exact⟨φ,s _ _ h1,h2⟩
 |dK kvs=>obtain⟨h1,us,h2,h3,h4⟩:=h;exact⟨⟨w trivial h1.1,h1.2⟩,us,k trivial _ h2,h3,h4.mono s⟩
 |dT kvs=>obtain⟨h1,us,h2,h3,h4⟩:=h;exact⟨⟨w trivial h1.1,h1.2⟩,us,k trivial _ h2,h3,h4.mono s⟩
 |set ds=>obtain⟨h1,us,h2,h3⟩:=h;exact⟨⟨w trivial h1.1,h1.2⟩,us,k trivial _ h2,h3.mono (Cc s)⟩
 |old d=>exact Rep.mono (BJ s) h
 |jnk=>obtain⟨h1,us,h2⟩:=h;exact⟨⟨w trivial h1.1,h1.2⟩,us,k trivial _ h2⟩
 |tset ks=>obtain⟨h1,us,h2,h3,h4⟩:=h;exact⟨⟨w trivial h1.1,h1.2⟩,us,k trivial _ h2,h3,h4.mono s⟩
 |dF kvs=>obtain⟨h1,o,us,h2,h3,h4⟩:=h;exact⟨⟨w trivial h1.1,h1.2⟩,o,us,k trivial _ h2,h3,h4.mono s⟩
theorem ObOk.hid {K:W.Frag}{c:Ct}{hid:bK}{H:Hp}{a:Addr}{b:Ob}(h:ObOk K c hid H a b)(o:wK b):hid a=true:=by
 cases b with
 |exc x n=>exact o.elim
 |dK kvs=>exact h.1.1
 |dT kvs=>exact h.1.1
 |set ds=>exact h.1.1
 |old d=>exact o.elim
 |jnk=>exact h.1.1
 |tset ks=>exact h.1.1
 |dF kvs=>exact h.1.1
def SlOk(K:W.Frag)(c:Ct)(hid:bK)(σ:St)(H:Hp)(i:Nat):Sl->Prop
 | .no=>True
 | .v d=> ∃x,σ[i]? =some (some x)/\Rep K (vw H hid) x d
 | .own ds=> ∃a xs,σ[i]? =some (some (.ref a))/\H a=some (.lst xs)/\hid a=true/\c.H₀ a=none/\Reps K (vw H hid) xs ds
 | .arg ds=> ∃a xs,σ[i]? =some (some (.ref a))/\H a=some (.lst xs)/\hid a=true/\c.mu a=true/\Reps K (vw H hid) xs ds
 | .ob b=> ∃a,σ[i]? =some (some (.ref a))/\ObOk K c hid H a b
def Ow:Option Sl->Prop
 |some (.own _)=>True
 |some (.arg _)=>True
 |some (.ob b)=>wK b
 |_=>False
structure SR(K:W.Frag)(c:Ct)(hid:bK)(ρ:aF)(σ:St)(H:Hp):Prop where
 tr: ∀b,hid b=true-> ∃o,H b=some o
 ht: ∀b xs,hid b=true->H b≠some (.tup xs)
 h0: ∀b,c.hid₀ b=true->hid b=true
 kp: ∀b o,c.H₀ b=some o->c.mu b=false->H b=some o
 t0: ∀b o,c.H₀ b=some o-> ∃o',H b=some o'
 c0: ∀b,c.hid₀ b=true-> ∃o,c.H₀ b=some o
 m0: ∀b,c.mu b=true->c.hid₀ b=true
 len:σ.length=ρ.length
 sl: ∀(i:Nat) (s:Sl),ρ[i]? =some s->SlOk K c hid σ H i s
 ap: ∀(i j:Nat) (a:Addr),i≠j->Ow ρ[i]? ->Ow ρ[j]? ->σ[i]? =some (some (.ref a))->σ[j]? =some (some (.ref a))->False
section
variable {K:W.Frag}{c:Ct}{hid:bK}{ρ:aF}{σ:St}{H H':Hp}{i:Nat}
theorem SlOk.ext {s:Sl}(h:SlOk K c hid σ H i s)(e:Same H H'):SlOk K c hid σ H' i s:=by
 cases s with
 |no=>trivial
 |v d=>obtain⟨x,h1,h2⟩:=h;exact⟨x,h1,h2.mono (aQ e)⟩
 |own ds=>obtain⟨a,xs,h1,h2,h3,h4,h5⟩:=h;exact⟨a,xs,h1,e _ _ h2,h3,h4,h5.mono (aQ e)⟩
 |arg ds=>obtain⟨a,xs,h1,h2,h3,h4,h5⟩:=h;exact⟨a,xs,h1,e _ _ h2,h3,h4,h5.mono (aQ e)⟩
 |ob b=>obtain⟨a,h1,h2⟩:=h;exact⟨a,h1,h2.mono (λ_=>e a) (aQ e) λ_ q=>q⟩
theorem SR.ext(h:SR K c hid ρ σ H)(e:Same H H'):SR K c hid ρ σ H' where
 tr:=λb hb=>let⟨o,q⟩:=h.tr b hb;⟨o,e _ _ q⟩
 ht:=λb xs hb q=>let⟨o,w⟩:=h.tr b hb;by have z:=e _ _ w;rw[q] at z;cases z;exact h.ht b xs hb w
 h0:=h.h0
 kp:=λb o q m=>e _ _ (h.kp b o q m)
 t0:=λb o q=>let⟨o',q'⟩:=h.t0 b o q;⟨o',e _ _ q'⟩
 c0:=h.c0
 m0:=h.m0
 len:=h.len
 sl:=λi s q=>(h.sl i s q).ext e
 ap:=h.ap
def Fn(hid:bK)(H:Hp):Prop:=(∀b,hid b=true-> ∃o,H b=some o)/\ ∀b xs,hid b=true->H b≠some (.tup xs)
theorem SR.trk(h:SR K c hid ρ σ H):Fn hid H:=⟨h.tr,h.ht⟩
theorem SR.fresh(h:SR K c hid ρ σ H){a:Addr}(n:H a=none):hid a=false:=by
 cases e:hid a with
 |false=>rfl
 |true=>obtain⟨o,q⟩:=h.tr a e;rw[n] at q;cases q
theorem SR.fresh0(h:SR K c hid ρ σ H){a:Addr}(n:H a=none):c.H₀ a=none:=by
 cases e:c.H₀ a with
 |none=>rfl
 |some o=>obtain⟨o',q⟩:=h.t0 a o e;rw[n] at q;cases q
end
inductive Kd where
 |b|s|n
 deriving DecidableEq
def Rep1(K:W.Frag)(H W:Hp)(v:V)(d:D):Prop:=Rep K W v d\/ ∃a xs ds,v=.ref a/\d=.lst ds/\H a=some (.lst xs)/\Reps K W xs ds
def RN(K:W.Frag)(H H':Hp)(hid:bK)(v:V)(d:D):Prop:= ∃a xs ds,d=.lst ds/\v=.ref a/\H a=none/\H' a=some (.lst xs)/\Reps K (vw H' (aZ hid a)) xs ds
def RK(K:W.Frag)(k:Kd)(H H':Hp)(hid:bK)(v:V)(d:D):Prop:=match k with
 | .b=>Rep1 K H' (vw H' hid) v d
 | .s=>Rep K (vw H' hid) v d
 | .n=>RN K H H' hid v d
section
variable {K:W.Frag}{c:Ct}{hid:bK}{ρ:aF}{σ:St}{H H' H'':Hp}{i:Nat}{v:V}{d:D}
theorem RN.rep(h:RN K H H' hid v d)(hf: ∀a,H a=none->hid a=false):Rep K (vw H' hid) v d:=by
 obtain⟨a,xs,ds,rfl,rfl,h1,h2,h3⟩:=h
 refine .lst (vw_some.mpr ⟨hf a h1,h2⟩) (h3.mono (iW λb q=>?_))
 unfold aZ;rw[q];rfl
theorem RK.b(k:Kd)(h:RK K k H H' hid v d)(hf: ∀a,H a=none->hid a=false):Rep1 K H' (vw H' hid) v d:=by
 cases k with
 |b=>exact h
 |s=>exact .inl h
 |n=>exact .inl (RN.rep h hf)
theorem Rep1.ext {hid:bK}(h:Rep1 K H (vw H hid) v d)(e:Same H H'):Rep1 K H' (vw H' hid) v d:=by
 rcases h with h|⟨a,xs,ds,h1,h2,h3,h4⟩
 ·exact .inl (h.mono (aQ e))
 ·exact .inr ⟨a,xs,ds,h1,h2,e _ _ h3,h4.mono (aQ e)⟩
theorem Rep1.int {i:Int}(h:Rep1 K H (vw H hid) v (.int i)):v=.int i:=by
 rcases h with h|⟨a,xs,ds,h1,h2,_⟩
 ·cases h;rfl
 ·cases h2
theorem Rep1.bl {i:Bool}(h:Rep1 K H (vw H hid) v (.bl i)):v=.bl i:=by
 rcases h with h|⟨a,xs,ds,h1,h2,_⟩
 ·cases h;rfl
 ·cases h2
theorem Rep1.str {i:Str}(h:Rep1 K H (vw H hid) v (.str i)):v=.str i:=by
 rcases h with h|⟨a,xs,ds,h1,h2,_⟩
 ·cases h;rfl
 ·cases h2
theorem Rep1.non(h:Rep1 K H (vw H hid) v .non):v=.non:=by
 rcases h with h|⟨a,xs,ds,h1,h2,_⟩
 ·cases h;rfl
 ·cases h2
theorem Rep1.tup {ds:List D}(h:Rep1 K H (vw H hid) v (.tup ds)): ∃a xs,v=.ref a/\SqT K (vw H hid) a xs/\SqT K H a xs/\Reps K (vw H hid) xs ds:=by
 rcases h with h|⟨a,xs,ds,h1,h2,_⟩
 ·cases h with
  |tup q r=>exact⟨_,_,rfl,q,Same.seqT (dY _ _) q,r⟩
 ·cases h2
theorem Rep1.lst {ds:List D}(h:Rep1 K H (vw H hid) v (.lst ds)): ∃a xs,v=.ref a/\SqL K H a xs/\Reps K (vw H hid) xs ds:=by
 rcases h with h|⟨a,xs,ds,h1,h2,h3,h4⟩
 ·cases h with
  |lst q r=>exact⟨_,_,rfl,SqL.of (dY _ _ _ _ q),r⟩
 ·cases h2
  exact⟨a,xs,h1,SqL.of h3,h4⟩
theorem Rep1.scr {ds:List D}(h:Rep1 K H (vw H hid) v (.scr ds)): ∃a xs,v=.ref a/\SqL K H a xs/\Reps K (vw H hid) xs ds:=by
 rcases h with h|⟨a,xs,ds,h1,h2,h3,h4⟩
 ·cases h with
  |scr q r=>exact⟨_,_,rfl,(dY _ _).seq q.seq,r⟩
 ·cases h2
end
theorem PE.imp {X:Cx}{e:Expr}{t t':TE}(h:PE X e t)(i: ∀σ H Q,t' σ H Q->t σ H Q):PE X e t':=λae s σ H Q I q=>h ae s σ H Q I (i σ H Q q)
theorem PT.imp {X:Cx}{e:Expr}{t t':TT}(h:PT X e t)(i: ∀σ H Q,t' σ H Q->t σ H Q):PT X e t':=λae s σ H Q I q=>h ae s σ H Q I (i σ H Q q)
theorem PW.imp {X:Cx}{e:Expr}{t t':TT}(h:PW X e t)(i: ∀σ H Q,t' σ H Q->t σ H Q):PW X e t':=λwh ae s σ H Q I q=>h wh ae s σ H Q I (i σ H Q q)
theorem PA.imp {X:Cx}{e:List Expr}{t t':TA}(h:PA X e t)(i: ∀σ H Q,t' σ H Q->t σ H Q):PA X e t':=λp ae s σ H Q I q=>h p ae s σ H Q I (i σ H Q q)
theorem PS.imp {X:Cx}{e:Stmt}{t t':TS}(h:PS X e t)(i: ∀D σ H,t' D σ H->t D σ H):PS X e t':=λae s σ H D I q=>h ae s σ H D I (i D σ H q)
theorem PSs.imp {X:Cx}{e:List Stmt}{t t':TS}(h:PSs X e t)(i: ∀D σ H,t' D σ H->t D σ H):PSs X e t':=λae s σ H D I q=>h ae s σ H D I (i D σ H q)
abbrev FE:=aF->Option D
abbrev FT:=aF->Option Bool
abbrev FA:=aF->Option (List D)
def A4(K:W.Frag)(c:Ct)(hid:bK)(k:Kd)(f:FE)(ρ:aF):TE:=λσ H Q=>SR K c hid ρ σ H/\ ∃d,f ρ=some d/\ ∀v H',Same H H'->RK K k H H' hid v d->Q v H'
def HK(K:W.Frag)(c:Ct)(hid:bK)(f:FT)(ρ:aF):TT:=λσ H Q=>SR K c hid ρ σ H/\ ∃d,f ρ=some d/\ ∀H',Same H H'->Q d H'
def IK(K:W.Frag)(c:Ct)(hid:bK)(f:FA)(ρ:aF):TA:=λσ H Q=>SR K c hid ρ σ H/\ ∃d,f ρ=some d/\ ∀vs H',Same H H'->Reps K (vw H' hid) vs d->Q vs H'
def DP(X:Cx)(c:Ct)(k:Kd)(e:Expr)(f:FE):Prop:= ∀hid ρ,PE X e (A4 X.K c hid k f ρ)
def DT(X:Cx)(c:Ct)(e:Expr)(f:FT):Prop:= ∀hid ρ,PT X e (HK X.K c hid f ρ)
def DW(X:Cx)(c:Ct)(e:Expr)(f:FT):Prop:= ∀hid ρ,PW X e (HK X.K c hid f ρ)
def DA(X:Cx)(c:Ct)(es:List Expr)(f:FA):Prop:= ∀hid ρ,PA X es (IK X.K c hid f ρ)
section
variable {X:Cx}{c:Ct}{e a b:Expr}{es:List Expr}{f g:FE}{k:Kd}{pos:Pos}
theorem DP.toS(h:DP X c .n e f):DP X c .s e f:=λhid ρ=>PE.imp (h hid ρ) λσ H Q ⟨sr,d,hd,q⟩=>⟨sr,d,hd,λv H' s r=>q v H' s (RN.rep r λa n=>sr.fresh n)⟩
def ag(i:Nat):FE:=λρ=>match ρ[i]? with
 |some (.v d)=>some d
 |_=>none
def cV(i:Nat):FE:=λρ=>match ρ[i]? with
 |some (.v d)=>some d
 |some (.own ds)=>some (.lst ds)
 |some (.arg ds)=>some (.lst ds)
 |_=>none
theorem af(i:Nat){x:Str}(hN:X.N[i]? =some x:=by rfl)(hv:qI X.env.scope x:=by first|exact Or.inl rfl|exact Or.inr (Or.inl rfl)|exact Or.inr (Or.inr rfl))(hd:(x==("__debug__":Str))=false:=by decide)
 (hcd:(x==("__classdict__":Str))=false:=by decide):DP X c .s (.Name x pos) (ag i):=λhid ρ=>PE.imp (pv i hN hv hd hcd) λσ H Q hq_=>by
 obtain⟨sr,d,hd,q⟩:=hq_
 unfold ag at hd;split at hd
 ·rename_i d' e'
  cases hd
  obtain⟨x,h1,h2⟩:=sr.sl i _ e'
  exact⟨x,h1,q x H (Same.refl _) h2⟩
 ·cases hd
theorem cZ(i:Nat){x:Str}(hN:X.N[i]? =some x:=by rfl)(hv:qI X.env.scope x:=by first|exact Or.inl rfl|exact Or.inr (Or.inl rfl)|exact Or.inr (Or.inr rfl))(hd:(x==("__debug__":Str))=false:=by decide)
 (hcd:(x==("__classdict__":Str))=false:=by decide):DP X c .b (.Name x pos) (cV i):=λhid ρ=>PE.imp (pv i hN hv hd hcd) λσ H Q hq_=>by
 obtain⟨sr,d,hd,q⟩:=hq_
 unfold cV at hd;split at hd
 ·rename_i d' e'
  cases hd
  obtain⟨x,h1,h2⟩:=sr.sl i _ e'
  exact⟨x,h1,q x H (Same.refl _) (.inl h2)⟩
 ·rename_i d' e'
  cases hd
  obtain⟨a,xs,h1,h2,h3,h4,h5⟩:=sr.sl i _ e'
  exact⟨_,h1,q _ H (Same.refl _) (.inr ⟨a,xs,_,rfl,rfl,h2,h5⟩)⟩
 ·rename_i d' e'
  cases hd
  obtain⟨a,xs,h1,h2,h3,h4,h5⟩:=sr.sl i _ e'
  exact⟨_,h1,q _ H (Same.refl _) (.inr ⟨a,xs,_,rfl,rfl,h2,h5⟩)⟩
 ·cases hd
def aA(d:D):FE:=λ_=>some d
theorem ar {i:Int}{j pos}:DP X c .s (.Constant (.int i) j pos) (aA (.int i)):=λhid ρ=>PE.imp EN λσ H Q hq_=>by
 obtain⟨sr,d,hd,q⟩:=hq_
 cases hd;exact q _ H (Same.refl _) .int
theorem iG {i:Bool}{j pos}:DP X c .s (.Constant (.bool i) j pos) (aA (.bl i)):=λhid ρ=>PE.imp FK λσ H Q hq_=>by
 obtain⟨sr,d,hd,q⟩:=hq_
 cases hd;exact q _ H (Same.refl _) .bl
theorem Ah {j pos}:DP X c .s (.Constant .none j pos) (aA .non):=λhid ρ=>PE.imp DX λσ H Q hq_=>by
 obtain⟨sr,d,hd,q⟩:=hq_
 cases hd;exact q _ H (Same.refl _) .non
def ak(F:D->D->Option D)(f g:FE):FE:=λρ=>(f ρ).bind λx=>(g ρ).bind λy=>F x y
theorem zJ {F:D->D->Option D}{ρ:aF}{d:D}(h:ak F f g ρ=some d): ∃x y,f ρ=some x/\g ρ=some y/\F x y=some d:=by
 unfold ak at h;cases e1:f ρ with
 |none=>rw[e1] at h;cases h
 |some x=>
  cases e2:g ρ with
  |none=>rw[e1,e2] at h;cases h
  |some y=>rw[e1,e2] at h;exact⟨x,y,rfl,rfl,h⟩
def mK(K:W.Frag)(k:Kd)(r:R2)(F:D->D->Option D):Prop:= ∀(H:Hp) (hid:bK) (v u:V) (x y d:D) (Q:VK),(∀a,H a=none->hid a=false)->F x y=some d->Rep1 K H (vw H hid) v x->Rep1 K H (vw H hid) u y->
 (∀w H',Same H H'->RK K k H H' hid w d->Q w H')->r v u H Q
theorem RK.left {K:W.Frag}{H H1 H':Hp}{hid:bK}{v:V}{d:D}(s:Same H H1)(h:RK K k H1 H' hid v d):RK K k H H' hid v d:=by
 cases k with
 |b=>exact h
 |s=>exact h
 |n=>
  obtain⟨a,xs,ds,h1,h2,h3,h4⟩:=h
  exact⟨a,xs,ds,h1,h2,s.free h3,h4⟩
theorem G8 {r:R2}{F:D->D->Option D}{k1 k2:Kd}{hid:bK}{ρ:aF}(hF:mK X.K k r F){σ:St}{H:Hp}{Q:VK}(h:A4 X.K c hid k (ak F f g) ρ σ H Q):Fj r (A4 X.K c hid k1 f ρ) (A4 X.K c hid k2 g ρ) σ H Q:=by
 obtain⟨sr,d,hd,q⟩:=h
 obtain⟨x,y,e1,e2,e3⟩:=zJ hd
 refine⟨sr,x,e1,λv H1 s1 r1=>⟨sr.ext s1,y,e2,λu H2 s2 r2=>?_⟩⟩
 have b1:=(RK.b k1 r1 λa n=>sr.fresh n).ext s2
 have b2:=RK.b k2 r2 λa n=>(sr.ext s1).fresh n
 exact hF H2 hid v u x y d Q (λa n=>((sr.ext s1).ext s2).fresh n) e3 b1 b2 λw H' s3 r3=>q w H' ((s1.trans s2).trans s3) (RK.left (s1.trans s2) r3)
theorem mN {op:Operator}{r:R2}{F:D->D->Option D}{k1 k2:Kd}(ho:jL X (binaryOp op) r)(hF:mK X.K k r F)(ha:DP X c k1 a f)(hb:DP X c k2 b g):DP X c k (.BinOp a op b pos) (ak F f g):=λhid ρ=>
 PE.imp (Fo ho (ha hid ρ) (hb hid ρ)) λσ H Q h=>G8 hF h
theorem kr {op:CmpOp}{r:R2}{F:D->D->Option D}{k1 k2:Kd}(ho:jL X (compareOp op) r)(hF:mK X.K .s r F)(ha:DP X c k1 a f)(hb:DP X c k2 b g)(hm:behindInMarks op b=false):DP X c .s (.Compare a [op] [b] pos) (ak F f g):=λhid ρ=>
 PE.imp (BR ho (ha hid ρ) (hb hid ρ) hm) λσ H Q h=>G8 hF h
def xF:Option D->Option Bool
 |some (.bl b)=>some b
 |_=>none
theorem bj {op:CmpOp}{r:R2}{F:D->D->Option D}{k1 k2:Kd}(ho:jL X (compareOp op) r)(hF:mK X.K .s r F)(ha:DP X c k1 a f)(hb:DP X c k2 b g)(hm:behindInMarks op b=false):DT X c (.Compare a [op] [b] pos) (λρ=>xF (ak F f g ρ)):=λhid ρ=>
 PT.imp (CB ho (ha hid ρ) (hb hid ρ) hm) λσ H Q hq_=>by
  obtain⟨sr,d,hd,q⟩:=hq_
  refine G8 (X:=X) (k:=.s) (F:=F) hF ?_
  dsimp only at hd;cases e:ak F f g ρ with
  |none=>rw[e] at hd;cases hd
  |some x=>
   rw[e] at hd;cases x with
   |bl z=>
    cases hd
    refine⟨sr,_,e,λv H' s r=>⟨d,?_,q H' s⟩⟩
    cases r;rfl
   |_=>cases hd
theorem aL {r:R2}{F:D->D->Option D}{k1 k2:Kd}(hr:IxR X r)(hF:mK X.K k r F)(ha:DP X c k1 a f)(hb:DP X c k2 b g)(hs:qu b):DP X c k (.Subscript a b pos) (ak F f g):=λhid ρ=>
 PE.imp (Dg hr (ha hid ρ) (hb hid ρ) hs) λσ H Q h=>G8 hF h
end
def i2(C:Int->Int->Bool)(G:Int->Int->D):D->D->Option D
 | .int i,.int j=>if C i j=true then some (G i j) else none
 |_,_=>none
section
variable {K:W.Frag}
theorem nn {C:Int->Int->Bool}{G:Int->Int->D}{x y d:D}(h:i2 C G x y=some d): ∃i j,x=.int i/\y=.int j/\C i j=true/\d=G i j:=by
 unfold i2 at h;split at h
 ·split at h
  ·cases h;exact⟨_,_,rfl,rfl, ‹_›,rfl⟩
  ·cases h
 ·cases h
theorem BT {C:Int->Int->Prop}{B:Int->Int->Bool}{g:Int->Int->Int}(hC: ∀i j,B i j=true->C i j):mK K .s (rI C λi j=>.int (g i j)) (i2 B λi j=>.int (g i j)):=by
 intro H hid v u x y d Q hf h r1 r2 q;obtain⟨i,j,rfl,rfl,hc,rfl⟩:=nn h
 cases r1.int;cases r2.int
 exact⟨i,j,rfl,rfl,hC i j hc,q _ H (Same.refl _) .int⟩
theorem Dd {g:Int->Int->Int}:mK K .s (A2 λi j=>.int (g i j)) (i2 (λ_ _=>true) λi j=>.int (g i j)):=by
 intro H hid v u x y d Q hf h r1 r2 q;obtain⟨i,j,rfl,rfl,hc,rfl⟩:=nn h
 cases r1.int;cases r2.int
 exact⟨i,j,rfl,rfl,q _ H (Same.refl _) .int⟩
theorem jp {g:Int->Int->Bool}:mK K .s (A2 λi j=>.bl (g i j)) (i2 (λ_ _=>true) λi j=>.bl (g i j)):=by
 intro H hid v u x y d Q hf h r1 r2 q;obtain⟨i,j,rfl,rfl,hc,rfl⟩:=nn h
 cases r1.int;cases r2.int
 exact⟨i,j,rfl,rfl,q _ H (Same.refl _) .bl⟩
end
section
variable {X:Cx}{c:Ct}{e a b:Expr}{es rest:List Expr}{f g:FE}{p q:FT}{k:Kd}{pos:Pos}
def Bs:D->Option Bool
 | .non=>some false
 | .bl b=>some b
 | .int i=>some (i !=0)
 | .str y=>if y.length<=sizeLine then some ((y.length:Int) !=0) else none
 | .lst ds=>some (!ds.isEmpty)
 | .tup ds=>some (!ds.isEmpty)
 | .scr ds=>some (!ds.isEmpty)
theorem Reps.isEmpty {K:W.Frag}{F:Hp}{xs:List V}{ds:List D}(r:Reps K F xs ds):xs.isEmpty=ds.isEmpty:=by cases r<;>rfl
theorem zn {K:W.Frag}{H:Hp}{hid:bK}{v:V}{d:D}{b:Bool}(h:Bs d=some b)(r:Rep1 K H (vw H hid) v d):El K v H b:=by
 cases d with
 |non=>cases r.non;cases h;rfl
 |bl x=>cases r.bl;cases h;rfl
 |int i=>cases r.int;cases h;rfl
 |str y=>
  cases r.str
  have h':(if y.length<=sizeLine then some ((y.length:Int) !=0) else none)=some b:=h
  split at h'
  ·cases h';exact⟨‹_›,rfl⟩
  ·cases h'
 |lst ds=>
  obtain⟨a,xs,rfl,h1,h2⟩:=r.lst
  cases h
  exact .inl ⟨xs,h1,by rw[h2.isEmpty]⟩
 |tup ds=>
  obtain⟨a,xs,rfl,_,h1,h2⟩:=r.tup
  cases h
  exact .inr (.inl ⟨xs,h1,by rw[h2.isEmpty]⟩)
 |scr ds=>
  obtain⟨a,xs,rfl,h1,h2⟩:=r.scr
  cases h
  exact .inl ⟨xs,h1,by rw[h2.isEmpty]⟩
def dD(f:FE):FT:=λρ=>(f ρ).bind Bs
theorem gc(ha:DP X c k a f)(he: ∀whole,isTrue a X.env whole=(do let v <-whole;standAt a.pos;holding [v] (truthy v)):=by intro _;rfl):DT X c a (dD f):=λhid ρ=>
 PT.imp (tL (ha hid ρ) he) λσ H Q hq_=>by
  obtain⟨sr,d,hd,q⟩:=hq_
  unfold dD at hd;cases e:f ρ with
  |none=>rw[e] at hd;cases hd
  |some x=>
   rw[e] at hd;exact⟨sr,x,e,λv H' s r=>⟨d,zn hd (RK.b k r λa n=>sr.fresh n),q H' s⟩⟩
def cx(p q:FT):FT:=λρ=>(p ρ).bind λb=>if b=true then q ρ else some false
def p8(p q:FT):FT:=λρ=>(p ρ).bind λb=>if b=true then some true else q ρ
def gI(p:FT):FT:=λρ=>(p ρ).map (!·)
theorem jK(ha:DT X c a p):DW X c (.BoolOp .And [a] pos) p:=λhid ρ=>pw_and1 (ha hid ρ)
theorem qL(ha:DT X c a p):DW X c (.BoolOp .Or [a] pos) p:=λhid ρ=>pw_or1 (ha hid ρ)
theorem jB(ha:DT X c a p)(hb:DW X c (.BoolOp .And (b::rest) pos) q):DW X c (.BoolOp .And (a::b::rest) pos) (cx p q):=λhid ρ=>
 PW.imp (pw_and (ha hid ρ) (hb hid ρ)) λσ H Q hq_=>by
  obtain⟨sr,d,hd,hq⟩:=hq_
  unfold cx at hd;cases e:p ρ with
  |none=>rw[e] at hd;cases hd
  |some x=>
   rw[e] at hd;refine⟨sr,x,e,λH1 s1=>?_⟩
   cases x with
   |true=>exact qy ⟨sr.ext s1,d,hd,λH2 s2=>hq H2 (s1.trans s2)⟩
   |false=>cases hd;exact qW (hq H1 s1)
theorem sN(ha:DT X c a p)(hb:DW X c (.BoolOp .Or (b::rest) pos) q):DW X c (.BoolOp .Or (a::b::rest) pos) (p8 p q):=λhid ρ=>
 PW.imp (pw_or (ha hid ρ) (hb hid ρ)) λσ H Q hq_=>by
  obtain⟨sr,d,hd,hq⟩:=hq_
  unfold p8 at hd;cases e:p ρ with
  |none=>rw[e] at hd;cases hd
  |some x=>
   rw[e] at hd;refine⟨sr,x,e,λH1 s1=>?_⟩
   cases x with
   |false=>exact qW ⟨sr.ext s1,d,hd,λH2 s2=>hq H2 (s1.trans s2)⟩
   |true=>cases hd;exact qy (hq H1 s1)
theorem DW.dt(h:DW X c e p):DT X c e p:=λhid ρ=>(h hid ρ).pt
theorem n6(ha:DT X c a p):DT X c (.UnaryOp .Not a pos) (gI p):=λhid ρ=>
 PT.imp (zD (ha hid ρ)) λσ H Q hq_=>by
  obtain⟨sr,d,hd,hq⟩:=hq_
  unfold gI at hd;cases e:p ρ with
  |none=>rw[e] at hd;cases hd
  |some x=>rw[e] at hd;cases hd;exact⟨sr,x,e,λH1 s1=>hq H1 s1⟩
def rN(p:FT):FE:=λρ=>(p ρ).map D.bl
def aX(f:FE):FT:=λρ=>xF (f ρ)
theorem ic {ρ:aF}{b:Bool}(h:aX f ρ=some b):f ρ=some (.bl b):=by
 unfold aX xF at h;split at h
 ·cases h;assumption
 ·cases h
theorem AA(ha:DP X c .s a f)(hb:DP X c .s (.BoolOp .And (b::rest) pos) g):DP X c .s (.BoolOp .And (a::b::rest) pos) (rN (cx (aX f) (aX g))):=λhid ρ=>
 PE.imp (Dw (ha hid ρ) (hb hid ρ)) λσ H Q hq_=>by
  obtain⟨sr,d,hd,hq⟩:=hq_
  unfold rN cx at hd;cases e:aX f ρ with
  |none=>rw[e] at hd;cases hd
  |some x=>
   rw[e] at hd;refine⟨sr,_,ic e,λv H1 s1 r=>?_⟩
   cases r
   refine⟨x,rfl,?_⟩
   cases x with
   |true=>
    refine qy ?_
    cases e2:aX g ρ with
    |none=>rw[show(some true:Option Bool).bind (λb=>if b=true then aX g ρ else some false)=aX g ρ from rfl,e2] at hd;cases hd
    |some y=>
     rw[show(some true:Option Bool).bind (λb=>if b=true then aX g ρ else some false)=aX g ρ from rfl,e2] at hd;cases hd
     exact⟨sr.ext s1,_,ic e2,λv2 H2 s2 r2=>hq v2 H2 (s1.trans s2) r2⟩
   |false=>cases hd;exact qW (hq _ H1 s1 .bl)
theorem Gf(ha:DP X c .s a f)(hb:DP X c .s (.BoolOp .Or (b::rest) pos) g):DP X c .s (.BoolOp .Or (a::b::rest) pos) (rN (p8 (aX f) (aX g))):=λhid ρ=>
 PE.imp (FV (ha hid ρ) (hb hid ρ)) λσ H Q hq_=>by
  obtain⟨sr,d,hd,hq⟩:=hq_
  unfold rN p8 at hd;cases e:aX f ρ with
  |none=>rw[e] at hd;cases hd
  |some x=>
   rw[e] at hd;refine⟨sr,_,ic e,λv H1 s1 r=>?_⟩
   cases r
   refine⟨x,rfl,?_⟩
   cases x with
   |false=>
    refine qW ?_
    cases e2:aX g ρ with
    |none=>rw[show(some false:Option Bool).bind (λb=>if b=true then some true else aX g ρ)=aX g ρ from rfl,e2] at hd;cases hd
    |some y=>
     rw[show(some false:Option Bool).bind (λb=>if b=true then some true else aX g ρ)=aX g ρ from rfl,e2] at hd;cases hd
     exact⟨sr.ext s1,_,ic e2,λv2 H2 s2 r2=>hq v2 H2 (s1.trans s2) r2⟩
   |true=>cases hd;exact qy (hq _ H1 s1 .bl)
theorem uv {op}(h:DP X c k a f):DP X c k (.BoolOp op [a] pos) f:=λhid ρ=>EF (h hid ρ)
theorem uR(ha:DP X c .s a f):DP X c .s (.UnaryOp .Not a pos) (rN (gI (aX f))):=λhid ρ=>
 PE.imp (Er (ha hid ρ)) λσ H Q hq_=>by
  obtain⟨sr,d,hd,hq⟩:=hq_
  unfold rN gI at hd;cases e:aX f ρ with
  |none=>rw[e] at hd;cases hd
  |some x=>
   rw[e] at hd;cases hd;refine⟨sr,_,ic e,λv H1 s1 r=>?_⟩
   cases r
   exact⟨x,rfl,hq _ H1 s1 .bl⟩
def C2(p:FT)(f g:FE):FE:=λρ=>(p ρ).bind λb=>if b=true then f ρ else g ρ
theorem FC {t:Expr}(hk:k≠ .n)(ht:DT X c t p)(ha:DP X c k a f)(hb:DP X c k b g):DP X c k (.IfExp t a b pos) (C2 p f g):=λhid ρ=>
 PE.imp (AI (ht hid ρ) (ha hid ρ) (hb hid ρ)) λσ H Q hq_=>by
  obtain⟨sr,d,hd,hq⟩:=hq_
  unfold C2 at hd;cases e:p ρ with
  |none=>rw[e] at hd;cases hd
  |some x=>
   rw[e] at hd;refine⟨sr,x,e,λH1 s1=>?_⟩
   have lf: ∀ {v H2},RK X.K k H1 H2 hid v d->RK X.K k H H2 hid v d:=λ{v H2} r=>RK.left s1 r
   cases x with
   |true=>exact qy ⟨sr.ext s1,d,hd,λv H2 s2 r=>hq v H2 (s1.trans s2) (lf r)⟩
   |false=>exact qW ⟨sr.ext s1,d,hd,λv H2 s2 r=>hq v H2 (s1.trans s2) (lf r)⟩
variable {r r':R2}{h:FE}{e3:Expr}
def z8(F G:D->D->Option D)(f g h:FE):FE:=λρ=>(f ρ).bind λx=>(g ρ).bind λy=>(xF (F x y)).bind λk=>if k=true then(h ρ).bind λz=>G y z else some (.bl false)
theorem As {F G:D->D->Option D}{k1 k2 k3:Kd}{hid:bK}{ρ:aF}(hF:mK X.K .s r F)(hG:mK X.K .s r' G){σ:St}{H:Hp}{Q:VK}(hh:A4 X.K c hid .s (z8 F G f g h) ρ σ H Q):
 uG r r' (A4 X.K c hid k1 f ρ) (A4 X.K c hid k2 g ρ) (A4 X.K c hid k3 h ρ) σ H Q:=by
 obtain⟨sr,d,hd,q⟩:=hh
 unfold z8 at hd;cases e1:f ρ with
 |none=>rw[e1] at hd;cases hd
 |some x=>
  cases e2:g ρ with
  |none=>rw[e1,e2] at hd;cases hd
  |some y=>
   rw[e1,e2] at hd;have hd':(xF (F x y)).bind (λk=>if k=true then(h ρ).bind λz=>G y z else some (.bl false))=some d:=hd
   cases e3:F x y with
   |none=>rw[e3] at hd';cases hd'
   |some z=>
    cases z with
    |bl kk=>
     rw[e3] at hd';refine⟨sr,x,e1,λv H1 s1 r1=>⟨sr.ext s1,y,e2,λu H2 s2 r2=>?_⟩⟩
     have b1:=(RK.b k1 r1 λa n=>sr.fresh n).ext s2
     have b2:=RK.b k2 r2 λa n=>(sr.ext s1).fresh n
     have fr: ∀a,H2 a=none->hid a=false:=λa n=>((sr.ext s1).ext s2).fresh n
     refine hF H2 hid v u x y _ _ fr e3 b1 b2 λw H3 s3 r3=>?_
     cases r3
     refine⟨kk,rfl,?_⟩
     cases kk with
     |false=>cases hd';exact qW (q _ H3 ((s1.trans s2).trans s3) .bl)
     |true=>
      refine qy ?_
      cases e4:h ρ with
      |none=>rw[e4] at hd';cases hd'
      |some z=>
       rw[e4] at hd';have hd2:G y z=some d:=hd'
       refine⟨((sr.ext s1).ext s2).ext s3,z,e4,λw' H4 s4 r4=>?_⟩
       have b3:=RK.b k3 r4 λa n=>(((sr.ext s1).ext s2).ext s3).fresh n
       exact hG H4 hid u w' y z d Q (λa n=>((((sr.ext s1).ext s2).ext s3).ext s4).fresh n) hd2 ((b2.ext s3).ext s4) b3 λw2 H5 s5 r5=>q w2 H5 ((((s1.trans s2).trans s3).trans s4).trans s5) r5
    |_=>rw[e3] at hd';cases hd'
theorem GD {op op':CmpOp}{F G:D->D->Option D}{k1 k2 k3:Kd}(ho:jL X (compareOp op) r)(ho':jL X (compareOp op') r')(hF:mK X.K .s r F)(hG:mK X.K .s r' G)(ha:DP X c k1 a f)(hb:DP X c k2 b g)(hc:DP X c k3 e3 h)
 (hm:lastMarks [op,op'] [b,e3]=false:=by with_unfolding_all rfl):DP X c .s (.Compare a [op,op'] [b,e3] pos) (z8 F G f g h):=λhid ρ=>
 PE.imp (yT ho ho' (ha hid ρ) (hb hid ρ) (hc hid ρ) hm) λσ H Q hh=>As hF hG hh
theorem Gy {op op':CmpOp}{F G:D->D->Option D}{k1 k2 k3:Kd}(ho:jL X (compareOp op) r)(ho':jL X (compareOp op') r')(hF:mK X.K .s r F)(hG:mK X.K .s r' G)(ha:DP X c k1 a f)(hb:DP X c k2 b g)(hc:DP X c k3 e3 h)
 (hm:lastMarks [op,op'] [b,e3]=false:=by with_unfolding_all rfl):DT X c (.Compare a [op,op'] [b,e3] pos) (aX (z8 F G f g h)):=λhid ρ=>
 PT.imp (zg ho ho' (ha hid ρ) (hb hid ρ) (hc hid ρ) hm) λσ H Q hq_=>by
  obtain⟨sr,d,hd,q⟩:=hq_
  refine As (X:=X) (F:=F) (G:=G) hF hG ⟨sr,_,ic hd,λv H' s r=>⟨d,?_,q H' s⟩⟩
  cases r;rfl
end
section
variable {X:Cx}{c:Ct}{e a b:Expr}{es rest:List Expr}{f g:FE}{fs:FA}{k:Kd}{pos:Pos}
def ai:FA:=λ_=>some []
def aa(f:FE)(fs:FA):FA:=λρ=>(f ρ).bind λd=>(fs ρ).map λr=>d::r
theorem oE {ρ:aF}{ds:List D}(h:aa f fs ρ=some ds): ∃d r,f ρ=some d/\fs ρ=some r/\ds=d::r:=by
 unfold aa at h;cases e1:f ρ with
 |none=>rw[e1] at h;cases h
 |some d=>
  cases e2:fs ρ with
  |none=>rw[e1,e2] at h;cases h
  |some r=>rw[e1,e2] at h;cases h;exact⟨d,r,rfl,rfl,rfl⟩
theorem aw:DA X c [] ai:=λhid ρ=>PA.imp iH λσ H Q ⟨sr,d,hd,q⟩=>by cases hd;exact q [] H (Same.refl _) .nil
theorem ah(ha:DP X c .s e f)(hr:DA X c es fs)(hs:starEach (e::es) X.env=(false,eval e X.env)::starEach es X.env:=by rfl):DA X c (e::es) (aa f fs):=λhid ρ=>
 PA.imp (dZ (ha hid ρ) (hr hid ρ) hs) λσ H Q hq_=>by
  obtain⟨sr,d,hd,q⟩:=hq_
  obtain⟨d1,r,e1,e2,rfl⟩:=oE hd
  exact⟨sr,d1,e1,λv H1 s1 r1=>⟨sr.ext s1,r,e2,λvs H2 s2 r2=>q _ H2 (s1.trans s2) (.cons (Rep.mono (aQ s2) r1) r2)⟩⟩
def cw(fs:FA):FE:=λρ=>(fs ρ).bind λds=>if ds.length<=sizeLine then some (.tup ds) else none
def cg(fs:FA):FE:=λρ=>(fs ρ).bind λds=>if ds.length<=sizeLine then some (.lst ds) else none
theorem wR {ρ:aF}{d:D}(h:cw fs ρ=some d): ∃ds,fs ρ=some ds/\ds.length<=sizeLine/\d=.tup ds:=by
 unfold cw at h;cases e1:fs ρ with
 |none=>rw[e1] at h;cases h
 |some ds=>
  rw[e1] at h;have h':(if ds.length<=sizeLine then some (D.tup ds) else none)=some d:=h
  split at h'
  ·cases h';exact⟨ds,rfl, ‹_›,rfl⟩
  ·cases h'
theorem wO {ρ:aF}{d:D}(h:cg fs ρ=some d): ∃ds,fs ρ=some ds/\ds.length<=sizeLine/\d=.lst ds:=by
 unfold cg at h;cases e1:fs ρ with
 |none=>rw[e1] at h;cases h
 |some ds=>
  rw[e1] at h;have h':(if ds.length<=sizeLine then some (D.lst ds) else none)=some d:=h
  split at h'
  ·cases h';exact⟨ds,rfl, ‹_›,rfl⟩
  ·cases h'
theorem aW {H:Hp}{p:Addr}(h:H p=none)(o:HO):Same H (bM H p o):=λb u q=>by rw[aH (bd q h)];exact q
theorem ly {K:W.Frag}{H:Hp}{hid:bK}{p:Addr}{xs:List V}{ds:List D}(hn:H p=none)(hf:hid p=false)(r:Reps K (vw H hid) xs ds):Rep K (vw (bM H p (.tup xs)) hid) (.ref p) (.tup ds):=
 .tup (SqT.of (vw_some.mpr ⟨hf,aK⟩)) (r.mono (aQ (aW hn _)))
theorem gx {K:W.Frag}{H H0:Hp}{hid:bK}{p:Addr}{xs:List V}{ds:List D}(hn:H p=none)(s:Same H0 H)(r:Reps K (vw H hid) xs ds):RN K H0 (bM H p (.lst xs)) hid (.ref p) (.lst ds):=
 ⟨p,xs,ds,rfl,rfl,s.free hn,aK,by rw[rm hn];exact r⟩
theorem cR {x1}(h:DA X c es fs):DP X c .s (.Tuple es x1 pos) (cw fs):=λhid ρ=>PE.imp (Ed (h hid ρ)) λσ H Q hq_=>by
 obtain⟨sr,d,hd,q⟩:=hq_
 obtain⟨ds,e1,hz,rfl⟩:=wR hd
 exact⟨sr,ds,e1,λvs H1 s1 r1=>⟨by rw[r1.length];exact hz,λp hp=>q _ _ (s1.trans (aW hp _)) (ly hp ((sr.ext s1).fresh hp) r1)⟩⟩
theorem da(h:DA X c es fs):DP X c .n (.List es pos) (cg fs):=λhid ρ=>PE.imp (EH (h hid ρ)) λσ H Q hq_=>by
 obtain⟨sr,d,hd,q⟩:=hq_
 obtain⟨ds,e1,hz,rfl⟩:=wO hd
 exact⟨sr,ds,e1,λvs H1 s1 r1=>⟨by rw[r1.length];exact hz,λp hp=>q _ _ (s1.trans (aW hp _)) (gx hp s1 r1)⟩⟩
abbrev Reps1(K:W.Frag)(H W:Hp):List V->List D->Prop:=Paired (Rep1 K H W)
def IA(K:W.Frag)(c:Ct)(hid:bK)(f:FA)(ρ:aF):TA:=λσ H Q=>SR K c hid ρ σ H/\ ∃d,f ρ=some d/\ ∀vs H',Same H H'->Reps1 K H' (vw H' hid) vs d->Q vs H'
def DB(X:Cx)(c:Ct)(es:List Expr)(f:FA):Prop:= ∀hid ρ,PA X es (IA X.K c hid f ρ)
theorem bB:DB X c [] ai:=λhid ρ=>PA.imp iH λσ H Q ⟨sr,d,hd,q⟩=>by cases hd;exact q [] H (Same.refl _) .nil
theorem aY(ha:DP X c k e f)(hr:DB X c es fs)(hs:starEach (e::es) X.env=(false,eval e X.env)::starEach es X.env:=by rfl):DB X c (e::es) (aa f fs):=λhid ρ=>
 PA.imp (dZ (ha hid ρ) (hr hid ρ) hs) λσ H Q hq_=>by
  obtain⟨sr,d,hd,q⟩:=hq_
  obtain⟨d1,r,e1,e2,rfl⟩:=oE hd
  exact⟨sr,d1,e1,λv H1 s1 r1=>⟨sr.ext s1,r,e2,λvs H2 s2 r2=>q _ H2 (s1.trans s2) (.cons ((RK.b k r1 λa n=>sr.fresh n).ext s2) r2)⟩⟩
def gB(K:W.Frag)(k:Kd)(r:List V->Hp->VK->Prop)(F:List D->Option D):Prop:= ∀(H:Hp) (hid:bK) (vs:List V) (ds:List D) (d:D) (Q:VK),(∀a,H a=none->hid a=false)->F ds=some d->Reps1 K H (vw H hid) vs ds->
 (∀w H',Same H H'->RK K k H H' hid w d->Q w H')->r vs H Q
def ao(F:List D->Option D)(fs:FA):FE:=λρ=>(fs ρ).bind F
theorem nK {F:List D->Option D}{ρ:aF}{d:D}(h:ao F fs ρ=some d): ∃ds,fs ρ=some ds/\F ds=some d:=by
 unfold ao at h;cases e1:fs ρ with
 |none=>rw[e1] at h;cases h
 |some ds=>rw[e1] at h;exact⟨ds,rfl,h⟩
theorem Ga {r:List V->Hp->VK->Prop}{F:List D->Option D}{hid:bK}{ρ:aF}(hF:gB X.K k r F){σ:St}{H:Hp}{Q:VK}(h:A4 X.K c hid k (ao F fs) ρ σ H Q):Go r (IA X.K c hid fs ρ) σ H Q:=by
 obtain⟨sr,d,hd,q⟩:=h
 obtain⟨ds,e1,e2⟩:=nK hd
 exact⟨sr,ds,e1,λvs H1 s1 r1=>hF H1 hid vs ds d Q (λa n=>(sr.ext s1).fresh n) e2 r1 λw H' s2 r2=>q w H' (s1.trans s2) (RK.left s1 r2)⟩
variable {x:Str}{p:Pos}{id T:String}{r:List V->Hp->VK->Prop}{F:List D->Option D}
theorem bi(hc:dP X (.builtin id) r)(hF:gB X.K k r F)(hm:X.mg x=none)(ha:DB X c (e::es) fs)(hg:Gl X x:=by rfl)(hv:bootBuiltins x=some (.builtin id):=by first|exact PySem.boot_len|rfl|kernel_rfl)(hn:x≠"__name__":=by decide)(hdb:(x==("__debug__":Str))=false:=by decide)
 (he:starEach (e::es) X.env=(false,eval e X.env)::starEach es X.env:=by rfl) (hpl:(backTo pos (starEach es X.env)).any (·.1)=false:=by rfl):DP X c k (.Call (.Name x p) (e::es) [] pos) (ao F fs):=λhid ρ=>
 PE.imp (lv hc hg hm hv (ha hid ρ) hn hdb he hpl) λσ H Q h=>Ga hF h
theorem fG(hc:dP X (.type T) r)(hF:gB X.K k r F)(hm:X.mg x=none)(ha:DB X c (e::es) fs)(hg:Gl X x:=by rfl)(hv:bootBuiltins x=some (.type T):=by first|rfl|kernel_rfl)(hn:x≠"__name__":=by decide)(hdb:(x==("__debug__":Str))=false:=by decide)
 (he:starEach (e::es) X.env=(false,eval e X.env)::starEach es X.env:=by rfl) (hpl:(backTo pos (starEach es X.env)).any (·.1)=false:=by rfl):DP X c k (.Call (.Name x p) (e::es) [] pos) (ao F fs):=λhid ρ=>
 PE.imp (ii hc hg hm hv (ha hid ρ) hn hdb he hpl) λσ H Q h=>Ga hF h
end
section
variable {K:W.Frag}
theorem Reps1.one {H W:Hp}{v:List V}{d:D}(r:Reps1 K H W v [d]): ∃x,v=[x]/\Rep1 K H W x d:=by
 cases r with
 |cons r t=>cases t;exact⟨_,rfl,r⟩
theorem Reps1.two {H W:Hp}{v:List V}{d d':D}(r:Reps1 K H W v [d,d']): ∃x y,v=[x,y]/\Rep1 K H W x d/\Rep1 K H W y d':=by
 cases r with
 |cons r t=>cases t with
  |cons r' t=>cases t;exact⟨_,_,rfl,r,r'⟩
def cW:List D->Option D
 | [.lst ds]=>some (.int ds.length)
 | [.tup ds]=>some (.int ds.length)
 | [.scr ds]=>some (.int ds.length)
 |_=>none
theorem gC:gB K .s (λxs H Q=> ∃p ys,xs=[.ref p]/\(SqL K H p ys\/SqT K H p ys)/\Q (.int ys.length) H) cW:=by
 intro H hid vs ds d Q hf h r q;unfold cW at h;split at h
 ·cases h
  obtain⟨x,rfl,r1⟩:=Reps1.one r
  obtain⟨a,xs,rfl,h1,h2⟩:=r1.lst
  exact⟨a,xs,rfl,.inl h1,by rw[h2.length];exact q _ H (Same.refl _) .int⟩
 ·cases h
  obtain⟨x,rfl,r1⟩:=Reps1.one r
  obtain⟨a,xs,rfl,_,h1,h2⟩:=r1.tup
  exact⟨a,xs,rfl,.inr h1,by rw[h2.length];exact q _ H (Same.refl _) .int⟩
 ·cases h
  obtain⟨x,rfl,r1⟩:=Reps1.one r
  obtain⟨a,xs,rfl,h1,h2⟩:=r1.scr
  exact⟨a,xs,rfl,.inl h1,by rw[h2.length];exact q _ H (Same.refl _) .int⟩
 ·cases h
def tp:List D->Option D
 | [.int i]=>some (.int (if i<0 then -i else i))
 |_=>none
theorem EA:gB K .s (λxs H Q=> ∃i,xs=[.int i]/\Q (.int (if i<0 then -i else i)) H) tp:=by
 intro H hid vs ds d Q hf h r q;unfold tp at h;split at h
 ·cases h
  obtain⟨x,rfl,r1⟩:=Reps1.one r
  cases r1.int
  exact⟨_,rfl,q _ H (Same.refl _) .int⟩
 ·cases h
def r6:List D->Option D
 | [.int i,.int j]=>some (.int (if j>i then j else i))
 |_=>none
theorem Bz:gB K .s (λxs H Q=> ∃i j,xs=[.int i,.int j]/\Q (.int (if j>i then j else i)) H) r6:=by
 intro H hid vs ds d Q hf h r q;unfold r6 at h;split at h
 ·cases h
  obtain⟨x,y,rfl,r1,r2⟩:=Reps1.two r
  cases r1.int;cases r2.int
  exact⟨_,_,rfl,q _ H (Same.refl _) .int⟩
 ·cases h
def ka:List D->Option D
 | [.int i,.int j]=>some (.int (if j<i then j else i))
 |_=>none
theorem wC:gB K .s (λxs H Q=> ∃i j,xs=[.int i,.int j]/\Q (.int (if j<i then j else i)) H) ka:=by
 intro H hid vs ds d Q hf h r q;unfold ka at h;split at h
 ·cases h
  obtain⟨x,y,rfl,r1,r2⟩:=Reps1.two r
  cases r1.int;cases r2.int
  exact⟨_,_,rfl,q _ H (Same.refl _) .int⟩
 ·cases h
def mP:List D->Option D
 | [.lst ds]=>some (.lst ds)
 | [.tup ds]=>some (.lst ds)
 |_=>none
theorem qx:gB K .n (λxs H Q=> ∃p ys,xs=[.ref p]/\(SqL K H p ys\/SqT K H p ys)/\ ∀l,H l=none->Q (.ref l) (bM H l (.lst ys))) mP:=by
 intro H hid vs ds d Q hf h r q;unfold mP at h;split at h
 ·cases h
  obtain⟨x,rfl,r1⟩:=Reps1.one r
  obtain⟨a,xs,rfl,h1,h2⟩:=r1.lst
  exact⟨a,xs,rfl,.inl h1,λl hl=>q _ _ (aW hl _) (gx hl (Same.refl _) h2)⟩
 ·cases h
  obtain⟨x,rfl,r1⟩:=Reps1.one r
  obtain⟨a,xs,rfl,_,h1,h2⟩:=r1.tup
  exact⟨a,xs,rfl,.inr h1,λl hl=>q _ _ (aW hl _) (gx hl (Same.refl _) h2)⟩
 ·cases h
def gW:List D->Option D
 | [.lst ds]=>some (.tup ds)
 | [.tup ds]=>some (.tup ds)
 |_=>none
theorem js:gB K .s (λxs H Q=> ∃p ys,xs=[.ref p]/\((SqL K H p ys/\ ∀l,H l=none->Q (.ref l) (bM H l (.tup ys)))\/(SqT K H p ys/\Q (.ref p) H))) gW:=by
 intro H hid vs ds d Q hf h r q;unfold gW at h;split at h
 ·cases h
  obtain⟨x,rfl,r1⟩:=Reps1.one r
  obtain⟨a,xs,rfl,h1,h2⟩:=r1.lst
  exact⟨a,xs,rfl,.inl ⟨h1,λl hl=>q _ _ (aW hl _) (ly hl (hf l hl) h2)⟩⟩
 ·cases h
  obtain⟨x,rfl,r1⟩:=Reps1.one r
  obtain⟨a,xs,rfl,h0,h1,h2⟩:=r1.tup
  exact⟨a,xs,rfl,.inr ⟨h1,q _ H (Same.refl _) (.tup h0 h2)⟩⟩
 ·cases h
def aP:D->D->Option D
 | .lst ds,.int i=>rL ds i
 | .tup ds,.int i=>rL ds i
 | .scr ds,.int i=>rL ds i
 |_,_=>none
theorem qK {F:Hp}{xs:List V}{ds:List D}{i:Int}{d:D}(r:Reps K F xs ds)(h:rL ds i=some d): ∃x,rL xs i=some x/\Rep K F x d:=by
 unfold rL at h⊢;rw[r.length];cases e:ub ds.length i with
 |none=>rw[e] at h;cases h
 |some j=>
  rw[e] at h;obtain⟨x,h1,h2⟩:=r.get (i:=j) h
  exact⟨x,h1,h2⟩
theorem aI:mK K .s (IC K) aP:=by
 intro H hid v u x y d Q hf h r1 r2 q;unfold aP at h;split at h
 ·cases r2.int
  obtain⟨a,xs,rfl,h1,h2⟩:=r1.lst
  obtain⟨z,h3,h4⟩:=qK h2 h
  exact .inl ⟨a,xs,_,z,rfl,rfl,h1,h3,q _ H (Same.refl _) h4⟩
 ·cases r2.int
  obtain⟨a,xs,rfl,_,h1,h2⟩:=r1.tup
  obtain⟨z,h3,h4⟩:=qK h2 h
  exact .inr (.inl ⟨a,xs,_,z,rfl,rfl,h1,h3,q _ H (Same.refl _) h4⟩)
 ·cases r2.int
  obtain⟨a,xs,rfl,h1,h2⟩:=r1.scr
  obtain⟨z,h3,h4⟩:=qK h2 h
  exact .inl ⟨a,xs,_,z,rfl,rfl,h1,h3,q _ H (Same.refl _) h4⟩
 ·cases h
end
abbrev GE:=aF->Option (D×aF)
abbrev GA:=aF->Option (List D×aF)
def Kept(hid:bK)(H H':Hp):Prop:= ∀b o,H b=some o->hid b=false->H' b=some o
theorem Kept.of {hid:bK}{H H':Hp}(s:Same H H'):Kept hid H H':=λb o q _=>s b o q
theorem Kept.trans {hid:bK}{H H1 H2:Hp}(a:Kept hid H H1)(b:Kept hid H1 H2):Kept hid H H2:=λc o q h=>b c o (a c o q h) h
theorem Kept.vw {hid:bK}{H H':Hp}(a:Kept hid H H'):Same (vw H hid) (vw H' hid):=vI a
def PostE(K:W.Frag)(c:Ct)(hid:bK)(k:Kd)(ρ':aF)(σ:St)(H H':Hp)(v:V)(d:D):Prop:=Kept hid H H'/\match k with
 | .n=> ∃a xs ds,d=.lst ds/\v=.ref a/\H a=none/\H' a=some (.lst xs)/\c.H₀ a=none/\hid a=false/\SR K c (aZ hid a) ρ' σ H'/\Reps K (vw H' (aZ hid a)) xs ds/\ ∀i:Nat,Ow ρ'[i]? ->σ[i]? ≠some (some (.ref a))
 |_=>SR K c hid ρ' σ H'/\Rep K (vw H' hid) v d
def Fl(K:W.Frag)(c:Ct)(hid:bK)(k:Kd)(f:GE)(ρ:aF):TE:=λσ H Q=>SR K c hid ρ σ H/\ ∃d ρ',f ρ=some (d,ρ')/\ ∀v H',PostE K c hid k ρ' σ H H' v d->Q v H'
def DE(X:Cx)(c:Ct)(k:Kd)(e:Expr)(f:GE):Prop:= ∀hid ρ,PE X e (Fl X.K c hid k f ρ)
def pu(f:FE):GE:=λρ=>(f ρ).map λd=>(d,ρ)
theorem Bx {f:FE}{ρ ρ':aF}{d:D}(h:pu f ρ=some (d,ρ')):f ρ=some d/\ρ'=ρ:=by
 unfold pu at h;cases e:f ρ with
 |none=>rw[e] at h;cases h
 |some x=>rw[e] at h;cases h;exact⟨rfl,rfl⟩
section
variable {K:W.Frag}{c:Ct}{hid hid':bK}{ρ:aF}{σ:St}{H H':Hp}{i:Nat}{a:Addr}
theorem cu {hid:bK}{a b:Addr}(h:hid b=true):aZ hid a b=true:=by unfold aZ;rw[h];rfl
theorem eU {hid:bK}{a:Addr}:aZ hid a a=true:=by unfold aZ;simp
theorem ve {hid:bK}{a b:Addr}(h:aZ hid a b=false):hid b=false/\b≠a:=by
 unfold aZ at h;cases e:hid b with
 |true=>rw[e] at h;cases h
 |false=>rw[e] at h;exact⟨rfl,by simpa using h⟩
theorem SR.hide(h:SR K c hid ρ σ H)(e:Same H H')(n:H a=none){o:HO}(ho:H' a=some o)(hn: ∀xs,o≠ .tup xs:=by intro _ e;cases e):SR K c (aZ hid a) ρ σ H':=by
 have sm:Same (vw H hid) (vw H' (aZ hid a)):=λb o q=>by
  obtain⟨q1,q2⟩:=vw_some.mp q
  refine vw_some.mpr ⟨?_,e _ _ q2⟩
  unfold aZ;rw[q1];have:b≠a:=bd q2 n
  simp[this]
 refine⟨λb hb=>?_,λb xs hb q=>by
  by_cases eb:b=a
  ·subst eb;rw[ho] at q;exact hn _ (Option.some.inj q)
  ·unfold aZ at hb
   exact(h.ext e).ht b xs (by simpa [eb] using hb) q,λb q=>cu (h.h0 b q),(h.ext e).kp,(h.ext e).t0,h.c0,h.m0,h.len,λi s q=>?_,h.ap⟩
 ·by_cases eb:b=a
  ·subst eb;exact⟨_,ho⟩
  ·unfold aZ at hb
   have:hid b=true:=by simpa [eb] using hb
   obtain⟨o',q⟩:=h.tr b this
   exact⟨o',e _ _ q⟩
 ·have z:=h.sl i s q
  cases s with
  |no=>trivial
  |v d=>obtain⟨x,h1,h2⟩:=z;exact⟨x,h1,h2.mono sm⟩
  |own ds=>obtain⟨a',xs,h1,h2,h3,h4,h5⟩:=z;exact⟨a',xs,h1,e _ _ h2,cu h3,h4,h5.mono sm⟩
  |arg ds=>obtain⟨a',xs,h1,h2,h3,h4,h5⟩:=z;exact⟨a',xs,h1,e _ _ h2,cu h3,h4,h5.mono sm⟩
  |ob b=>obtain⟨a',h1,h2⟩:=z;exact⟨a',h1,h2.mono (λ_=>e a') sm λ_=>cu⟩
theorem SR.show(h:SR K c (aZ hid a) ρ σ H)(h0: ∀b,c.hid₀ b=true->hid b=true)(no: ∀i:Nat,Ow ρ[i]? ->σ[i]? ≠some (some (.ref a))):SR K c hid ρ σ H:=by
 have sm:Same (vw H (aZ hid a)) (vw H hid):=iW λb q=>cu q
 have un: ∀b,b≠a->aZ hid a b=true->hid b=true:=λb nb hb=>by unfold aZ at hb;simpa [nb] using hb
 refine⟨λb hb=>h.tr b (cu hb),λb xs hb=>h.ht b xs (cu hb),h0,h.kp,h.t0,h.c0,h.m0,h.len,λi s q=>?_,h.ap⟩
 have z:=h.sl i s q
 cases s with
 |no=>trivial
 |v d=>obtain⟨x,h1,h2⟩:=z;exact⟨x,h1,h2.mono sm⟩
 |own ds=>
  obtain⟨a',xs,h1,h2,h3,h4,h5⟩:=z
  have:a'≠a:=λe=>by subst e;exact no i (by rw[q];trivial) h1
  exact⟨a',xs,h1,h2,un a' this h3,h4,h5.mono sm⟩
 |arg ds=>
  obtain⟨a',xs,h1,h2,h3,h4,h5⟩:=z
  have:a'≠a:=λe=>by subst e;exact no i (by rw[q];trivial) h1
  exact⟨a',xs,h1,h2,un a' this h3,h4,h5.mono sm⟩
 |ob b=>
  obtain⟨a',h1,h2⟩:=z
  exact⟨a',h1,h2.mono (λ_ _ q=>q) sm λow=>un a' λe=>by subst e;exact no i (by rw[q];exact ow) h1⟩
theorem SR.notOw(h:SR K c hid ρ σ H)(n:hid a=false)(i:Nat)(o:Ow ρ[i]?):σ[i]? ≠some (some (.ref a)):=λe=>by
 cases q:ρ[i]? with
 |none=>rw[q] at o;exact o
 |some s=>
  rw[q] at o;have z:=h.sl i s q
  cases s with
  |no=>exact o
  |v d=>exact o
  |own ds=>obtain⟨a',xs,h1,h2,h3,_⟩:=z;rw[e] at h1;cases h1;rw[n] at h3;cases h3
  |arg ds=>obtain⟨a',xs,h1,h2,h3,_⟩:=z;rw[e] at h1;cases h1;rw[n] at h3;cases h3
  |ob b=>obtain⟨a',h1,h2⟩:=z;rw[e] at h1;cases h1;have:=h2.hid o;rw[n] at this;cases this
theorem SR.post {k:Kd}{v:V}{d:D}(h:SR K c hid ρ σ H)(e:Same H H')(r:RK K k H H' hid v d)(hk:k≠ .b):PostE K c hid k ρ σ H H' v d:=by
 cases k with
 |b=>exact absurd rfl hk
 |s=>exact⟨.of e,h.ext e,r⟩
 |n=>
  obtain⟨a,xs,ds,h1,h2,h3,h4,h5⟩:=r
  exact⟨.of e,a,xs,ds,h1,h2,h3,h4,h.fresh0 h3,h.fresh h3,h.hide e h3 h4,h5,h.notOw (h.fresh h3)⟩
theorem PostE.left {k:Kd}{ρ':aF}{H1:Hp}{v:V}{d:D}(s:Kept hid H H1)(p:PostE K c hid k ρ' σ H1 H' v d):PostE K c hid k ρ' σ H H' v d:=by
 cases k with
 |b=>exact⟨s.trans p.1,p.2⟩
 |s=>exact⟨s.trans p.1,p.2⟩
 |n=>
  obtain⟨kp,a,xs,ds,h1,h2,hn,h3,h4,h5,h6⟩:=p
  refine⟨s.trans kp,a,xs,ds,h1,h2,?_,h3,h4,h5,h6⟩
  cases e:H a with
  |none=>rfl
  |some o=>rw[s a o e h5] at hn;cases hn
theorem PostE.toS {ρ':aF}{v:V}{d:D}(h0: ∀b,c.hid₀ b=true->hid b=true)(p:PostE K c hid .n ρ' σ H H' v d):PostE K c hid .s ρ' σ H H' v d:=by
 obtain⟨kp,a,xs,ds,rfl,rfl,hn,h1,h2,h3,h4,h5,h6⟩:=p
 exact⟨kp,h4.show h0 h6,.lst (vw_some.mpr ⟨h3,h1⟩) (h5.mono (iW λb q=>cu q))⟩
end
section
variable {X:Cx}{c:Ct}{e a b:Expr}{es rest:List Expr}{f g:GE}{k:Kd}{pos:Pos}
theorem DP.ef {f:FE}(h:DP X c k e f)(hk:k≠ .b:=by decide):DE X c k e (pu f):=λhid ρ=>PE.imp (h hid ρ) λσ H Q hq_=>by
 obtain⟨sr,d,ρ',hd,q⟩:=hq_
 obtain⟨h1,rfl⟩:=Bx hd
 exact⟨sr,d,h1,λv H' s r=>q v H' (sr.post s r hk)⟩
theorem DE.toS(h:DE X c .n e f):DE X c .s e f:=λhid ρ=>PE.imp (h hid ρ) λσ H Q ⟨sr,d,ρ',hd,q⟩=>⟨sr,d,ρ',hd,λv H' p=>q v H' (p.toS sr.h0)⟩
def bE {α:Type}(f:GE)(g:D->aF->Option α):aF->Option α:=λρ=>(f ρ).bind λp=>g p.1 p.2
theorem qj {α:Type}{g:D->aF->Option α}{ρ:aF}{z:α}(h:bE f g ρ=some z): ∃d ρ',f ρ=some (d,ρ')/\g d ρ'=some z:=by
 unfold bE at h;cases e:f ρ with
 |none=>rw[e] at h;cases h
 |some p=>rw[e] at h;exact⟨p.1,p.2,rfl,h⟩
def ud(F:D->D->Option D)(f g:GE):GE:=bE f λx=>bE g λy ρ=>(F x y).map λd=>(d,ρ)
theorem xk {F:D->D->Option D}{ρ ρ':aF}{d:D}(h:ud F f g ρ=some (d,ρ')): ∃x ρ1 y,f ρ=some (x,ρ1)/\g ρ1=some (y,ρ')/\F x y=some d:=by
 obtain⟨x,ρ1,h1,h2⟩:=qj h
 obtain⟨y,ρ2,h3,h4⟩:=qj h2
 cases e:F x y with
 |none=>rw[e] at h4;cases h4
 |some z=>rw[e] at h4;cases h4;exact⟨x,ρ1,y,h1,h3,e⟩
theorem Hx {r:R2}{F:D->D->Option D}{hid:bK}{ρ:aF}(hF:mK X.K k r F)(hk:k≠ .b){σ:St}{H:Hp}{Q:VK}(h:Fl X.K c hid k (ud F f g) ρ σ H Q):Fj r (Fl X.K c hid .s f ρ) (λσ H Q=> ∃ρ1,Fl X.K c hid .s g ρ1 σ H Q) σ H Q:=by
 obtain⟨sr,d,ρ',hd,q⟩:=h
 obtain⟨x,ρ1,y,e1,e2,e3⟩:=xk hd
 refine⟨sr,x,ρ1,e1,λv H1 ⟨k1,s1,r1⟩=>⟨ρ1,s1,y,ρ',e2,λu H2 ⟨k2,s2,r2⟩=>?_⟩⟩
 exact hF H2 hid v u x y d Q (λa n=>s2.fresh n) e3 (.inl (r1.mono k2.vw)) (.inl r2) λw H' s3 r3=>q w H' (PostE.left (k1.trans k2) (s2.post s3 r3 hk))
theorem oB {α:Type}{t:α->TE}(h: ∀z,PE X e (t z)):PE X e (λσ H Q=> ∃z,t z σ H Q):=λae s σ H Q I ⟨z,q⟩=>h z ae s σ H Q I q
def ID(K:W.Frag)(c:Ct)(hid:bK)(f:GA)(ρ:aF):TA:=λσ H Q=>SR K c hid ρ σ H/\ ∃d ρ',f ρ=some (d,ρ')/\ ∀vs H',Kept hid H H'->SR K c hid ρ' σ H'->Reps K (vw H' hid) vs d->Q vs H'
def DG(X:Cx)(c:Ct)(es:List Expr)(f:GA):Prop:= ∀hid ρ,PA X es (ID X.K c hid f ρ)
def bL(f:FA):GA:=λρ=>(f ρ).map λd=>(d,ρ)
theorem s0 {f:FA}{ρ ρ':aF}{d:List D}(h:bL f ρ=some (d,ρ')):f ρ=some d/\ρ'=ρ:=by
 unfold bL at h;cases e:f ρ with
 |none=>rw[e] at h;cases h
 |some x=>rw[e] at h;cases h;exact⟨rfl,rfl⟩
theorem DA.gf {f:FA}(h:DA X c es f):DG X c es (bL f):=λhid ρ=>PA.imp (h hid ρ) λσ H Q hq_=>by
 obtain⟨sr,d,ρ',hd,q⟩:=hq_
 obtain⟨h1,rfl⟩:=s0 hd
 exact⟨sr,d,h1,λv H' s r=>q v H' (.of s) (sr.ext s) r⟩
def dc(f:GE)(fs:GA):GA:=bE f λd ρ=>(fs ρ).map λp=>(d::p.1,p.2)
theorem HB {α:Type}{t:α->TA}(h: ∀z,PA X es (t z)):PA X es (λσ H Q=> ∃z,t z σ H Q):=λp ae s σ H Q I ⟨z,q⟩=>h z p ae s σ H Q I q
theorem gS {fs:GA}(ha:DE X c .s e f)(hr:DG X c es fs)(hs:starEach (e::es) X.env=(false,eval e X.env)::starEach es X.env:=by rfl):DG X c (e::es) (dc f fs):=λhid ρ=>
 PA.imp (dZ (ha hid ρ) (HB λρ1=>hr hid ρ1) hs) λσ H Q hq_=>by
  obtain⟨sr,d,ρ',hd,q⟩:=hq_
  obtain⟨d1,ρ1,e1,h2⟩:=qj hd
  cases e2:fs ρ1 with
  |none=>rw[e2] at h2;cases h2
  |some p=>
   rw[e2] at h2;obtain⟨ds,ρ2⟩:=p
   cases h2
   exact⟨sr,d1,ρ1,e1,λv H1 ⟨k1,s1,r1⟩=>⟨ρ1,s1,ds,_,e2,λvs H2 k2 s2 r2=>q _ H2 (k1.trans k2) s2 (.cons (r1.mono k2.vw) r2)⟩⟩
end
def dU(K:W.Frag)(k:Kd)(n:Nat)(P:List D->Option D):Sp:=λvs H Q _=> ∃hid ds,Fn hid H/\Reps K (vw H hid) vs ds/\ds.length=n/\ ∃d,P ds=some d/\ ∀v H',Same H H'->RK K k H H' hid v d->Q v H'
def Gc(K:W.Frag)(k:Kd)(hid:bK)(H H':Hp)(v:V)(d:D)(xs':List V)(bs':List D):Prop:=match k with
 | .n=> ∃p ys es,d=.lst es/\v=.ref p/\H p=none/\H' p=some (.lst ys)/\Reps K (vw H' (aZ hid p)) ys es/\Reps K (vw H' (aZ hid p)) xs' bs'
 |_=>Rep K (vw H' hid) v d/\Reps K (vw H' hid) xs' bs'
def si(K:W.Frag)(k:Kd)(n:Nat)(M:List D->List D->Option (D×List D)):Sp:=λvs H Q _=> ∃hid a xs bs us ds,vs=.ref a::us/\Fn hid H/\hid a=true/\H a=some (.lst xs)/\Reps K (vw H hid) xs bs/\
 Reps K (vw H hid) us ds/\ds.length=n/\ ∃d bs',M bs ds=some (d,bs')/\ ∀v H' xs',(∀b o,H b=some o->b≠a->H' b=some o)->H' a=some (.lst xs')->Gc K k hid H H' v d xs' bs'->Q v H'
section
variable {X:Cx}{c:Ct}{e a b:Expr}{es rest:List Expr}{k:Kd}{pos p:Pos}{x:Str}{f:Addr}{fd:FuncData}{ps:List Str}{j n:Nat}
theorem Co {P:List D->Option D}{fs:FA}(F:FnOk X.prog X.w X.K X.mg X.base rO j f fd ps (dU X.K k n P))(hr:Room j X.A)(hm:X.mg x=some (.ref f))(hk:W.keepIn X.K (.ref f)=true)(hb:Binds X.K fd ps [])
 (ha:DA X c (e::es) fs) (hg:Gl X x:=by rfl) (hdb:(x==("__debug__":Str))=false:=by decide) (he:starEach (e::es) X.env=(false,eval e X.env)::starEach es X.env:=by rfl) (hpl:(backTo pos (starEach es X.env)).any (·.1)=false:=by rfl):
 DP X c k (.Call (.Name x p) (e::es) [] pos) (ao (λds=>if ds.length=n then P ds else none) fs):=λhid ρ=>
 PE.imp (qZ F hr hg hm hk hb .nil (yz (X:=X)) (ha hid ρ) hdb he hpl) λσ H Q hq_=>by
  obtain⟨sr,d,hd,q⟩:=hq_
  obtain⟨ds,e1,e2⟩:=nK hd
  have e2':(if ds.length=n then P ds else none)=some d:=e2
  split at e2'
  ·refine⟨sr,ds,e1,λvs H1 s1 r1=>?_⟩
   show dU X.K k n P (vs++[]) H1 Q E0;rw[List.append_nil];exact⟨hid,ds,(sr.ext s1).trk,r1, ‹_›,d,e2',λv H' s2 r2=>q v H' (s1.trans s2) (RK.left s1 r2)⟩
  ·cases e2'
def g7(i:Nat)(bs:List D)(ρ:aF):aF:=match ρ[i]? with
 |some (.own _)=>ρ.set i (.own bs)
 |some (.arg _)=>ρ.set i (.arg bs)
 |_=>ρ
def iM(i:Nat)(ρ:aF):Option (List D):=match ρ[i]? with
 |some (.own ds)=>some ds
 |some (.arg ds)=>some ds
 |_=>none
theorem iD {i:Nat}{ρ:aF}{bs:List D}(h:iM i ρ=some bs):ρ[i]? =some (.own bs)\/ρ[i]? =some (.arg bs):=by
 unfold iM at h;split at h
 ·cases h;exact .inl ‹_›
 ·cases h;exact .inr ‹_›
 ·cases h
theorem SR.held {K:W.Frag}{hid:bK}{ρ:aF}{σ:St}{H:Hp}{i:Nat}{bs:List D}(h:SR K c hid ρ σ H)(hg:iM i ρ=some bs): ∃a xs,σ[i]? =some (some (.ref a))/\H a=some (.lst xs)/\hid a=true/\Reps K (vw H hid) xs bs/\(c.mu a=true\/c.H₀ a=none):=by
 rcases iD hg with e|e
 ·obtain⟨a,xs,h1,h2,h3,h4,h5⟩:=h.sl i _ e
  exact⟨a,xs,h1,h2,h3,h5,.inr h4⟩
 ·obtain⟨a,xs,h1,h2,h3,h4,h5⟩:=h.sl i _ e
  exact⟨a,xs,h1,h2,h3,h5,.inl h4⟩
theorem j9 {i j:Nat}{ρ:aF}{bs:List D}(h:j≠i):(g7 i bs ρ)[j]? =ρ[j]? :=by
 unfold g7;split
 ·rw[List.getElem?_set_ne (Ne.symm h)]
 ·rw[List.getElem?_set_ne (Ne.symm h)]
 ·rfl
theorem zQ {i:Nat}{ρ:aF}{bs:List D}:(g7 i bs ρ).length=ρ.length:=by
 unfold g7;split
 ·simp
 ·simp
 ·rfl
theorem qS {i j:Nat}{ρ:aF}{bs:List D}(h:Ow (g7 i bs ρ)[j]?):Ow ρ[j]? :=by
 by_cases e:j=i
 ·subst e
  unfold g7 at h;split at h
  ·rw[‹ρ[j]? =_›];trivial
  ·rw[‹ρ[j]? =_›];trivial
  ·exact h
 ·rw[j9 e] at h;exact h
theorem SR.put {K:W.Frag}{hid:bK}{ρ:aF}{σ:St}{H H':Hp}{i:Nat}{bs bs':List D}{a:Addr}{xs':List V}(h:SR K c hid ρ σ H)(hg:iM i ρ=some bs)(ha:σ[i]? =some (some (.ref a)))(kp: ∀b o,H b=some o->b≠a->H' b=some o)
 (hx:H' a=some (.lst xs')) (r:Reps K (vw H' hid) xs' bs'):SR K c hid (g7 i bs' ρ) σ H':=by
 obtain⟨a1,xs,h1,h2,h3,h4,h5⟩:=h.held hg
 rw[ha] at h1;cases h1;have sm:Same (vw H hid) (vw H' hid):=vI λb o q hb=>kp b o q (λe=>by subst e;rw[h3] at hb;cases hb)
 have tr': ∀b o,H b=some o-> ∃o',H' b=some o':=λb o q=>by
  by_cases e:b=a
  ·subst e;exact⟨_,hx⟩
  ·exact⟨o,kp b o q e⟩
 refine⟨λb hb=>let⟨o,q⟩:=h.tr b hb;tr' b o q,λb xs hb q=>by
  by_cases e:b=a
  ·subst e;rw[hx] at q;cases q
  ·obtain⟨o,w⟩:=h.tr b hb
   have z:=kp b o w e
   rw[q] at z;cases z;exact h.ht b xs hb w,h.h0,λb o q m=>?_,λb o q=>let⟨o',q'⟩:=h.t0 b o q;tr' b o' q',h.c0,h.m0,by rw[zQ];exact h.len,λj s q=>?_,λj l z n o1 o2=>h.ap j l z n (qS o1) (qS o2)⟩
 ·refine kp b o (h.kp b o q m) λe=>?_
  subst e;rcases h5 with h5|h5
  ·rw[h5] at m;cases m
  ·rw[h5] at q;cases q
 ·by_cases e:j=i
  ·subst e
   rcases iD hg with w|w
   ·have lt:=(List.getElem?_eq_some_iff.mp w).1
    unfold g7 at q;rw[w] at q;dsimp only at q;rw[List.getElem?_set_self lt] at q;cases q
    obtain⟨a2,xs2,g1,g2,g3,g4,g5⟩:=h.sl j _ w
    rw[ha] at g1;cases g1;exact⟨_,xs',ha,hx,g3,g4,r⟩
   ·have lt:=(List.getElem?_eq_some_iff.mp w).1
    unfold g7 at q;rw[w] at q;dsimp only at q;rw[List.getElem?_set_self lt] at q;cases q
    obtain⟨a2,xs2,g1,g2,g3,g4,g5⟩:=h.sl j _ w
    rw[ha] at g1;cases g1;exact⟨_,xs',ha,hx,g3,g4,r⟩
  ·rw[j9 e] at q
   have z:=h.sl j s q
   cases s with
   |no=>trivial
   |v d=>obtain⟨x,h1,h2⟩:=z;exact⟨x,h1,h2.mono sm⟩
   |own ds=>
    obtain⟨a',xs,z1,z2,z3,z4,z5⟩:=z
    have ne:a'≠a:=λe'=>by
     subst e';refine h.ap j i a' e (by rw[q];trivial) ?_ z1 ha
     rcases iD hg with w|w<;>rw[w]<;>trivial
    exact⟨a',xs,z1,kp _ _ z2 ne,z3,z4,z5.mono sm⟩
   |arg ds=>
    obtain⟨a',xs,z1,z2,z3,z4,z5⟩:=z
    have ne:a'≠a:=λe'=>by
     subst e';refine h.ap j i a' e (by rw[q];trivial) ?_ z1 ha
     rcases iD hg with w|w<;>rw[w]<;>trivial
    exact⟨a',xs,z1,kp _ _ z2 ne,z3,z4,z5.mono sm⟩
   |ob b=>
    obtain⟨a',z1,z2⟩:=z
    refine⟨a',z1,z2.mono (λow o w=>kp _ _ w λe'=>?_) sm λ_ w=>w⟩
    subst e';refine h.ap j i a' e (by rw[q];exact ow) ?_ z1 ha
    rcases iD hg with w|w<;>rw[w]<;>trivial
def aN(i n:Nat)(M:List D->List D->Option (D×List D))(fs:GA):GE:=λρ=>match iM i ρ with
 |none=>none
 |some _=>match fs ρ with
  |none=>none
  |some (ds,ρ1)=>match iM i ρ1 with
   |none=>none
   |some bs=>if ds.length=n then match M bs ds with
     |none=>none
     |some (d,bs')=>some (d,g7 i bs' ρ1) else none
theorem oe {i:Nat}{M:List D->List D->Option (D×List D)}{fs:GA}{ρ ρ':aF}{d:D}(h:aN i n M fs ρ=some (d,ρ')): ∃bs0 ds ρ1 bs bs',iM i ρ=some bs0/\fs ρ=some (ds,ρ1)/\iM i ρ1=some bs/\ds.length=n/\M bs ds=some (d,bs')/\ρ'=g7 i bs' ρ1:=by
 unfold aN at h;split at h
 ·cases h
 ·split at h
  ·cases h
  ·split at h
   ·cases h
   ·split at h
    ·split at h
     ·cases h
     ·cases h;exact⟨_,_,_,_,_, ‹_›, ‹_›, ‹_›, ‹_›, ‹_›,rfl⟩
    ·cases h
theorem ze(i:Nat){y:Str}{py:Pos}{M:List D->List D->Option (D×List D)}{fs:GA}(F:FnOk X.prog X.w X.K X.mg X.base rO j f fd ps (si X.K k n M))(hr:Room j X.A)(hm:X.mg x=some (.ref f))(hk:W.keepIn X.K (.ref f)=true)(hb:Binds X.K fd ps [])
 (ha:DG X c es fs) (hkb:k≠ .b:=by decide) (hN:X.N[i]? =some y:=by rfl) (hv:qI X.env.scope y:=by first|exact Or.inl rfl|exact Or.inr (Or.inl rfl)|exact Or.inr (Or.inr rfl)) (hd:(y==("__debug__":Str))=false:=by decide)
 (hcd:(y==("__classdict__":Str))=false:=by decide) (hs:starEach (.Name y py::es) X.env=(false,eval (.Name y py) X.env)::starEach es X.env:=by rfl) (hg:Gl X x:=by rfl) (hdb:(x==("__debug__":Str))=false:=by decide) (hpl:(backTo pos (starEach es X.env)).any (·.1)=false:=by rfl):
 DE X c k (.Call (.Name x p) (.Name y py::es) [] pos) (aN i n M fs):=λhid ρ=>
 PE.imp (qZ F hr hg hm hk hb .nil (yz (X:=X)) (dZ (pv i hN hv hd hcd) (ha hid ρ) hs) hdb hs hpl) λσ H Q hq_=>by
  obtain⟨sr,d,ρ',hd',q⟩:=hq_
  obtain⟨bs0,ds,ρ1,bs,bs',e0,e1,e2,e3,e4,rfl⟩:=oe hd'
  obtain⟨a,xs0,a1,_,a3,_,_⟩:=sr.held e0
  refine⟨.ref a,a1,sr,ds,ρ1,e1,λus H1 k1 s1 r1=>?_⟩
  obtain⟨a',xs,b1,b2,b3,b4,b5⟩:=s1.held e2
  rw[a1] at b1;cases b1;show si X.K k n M ((.ref a::us)++[]) H1 Q E0;rw[List.append_nil];refine⟨hid,a,xs,bs,us,ds,rfl,s1.trk,b3,b2,b4,r1,e3,d,bs',e4,λv H' xs' kp hx hr'=>q v H' ?_⟩
  have kp':Kept hid H1 H':=λb o q hb=>kp b o q λe=>by subst e;rw[b3] at hb;cases hb
  cases k with
  |b=>exact absurd rfl hkb
  |s=>exact⟨k1.trans kp',s1.put e2 a1 kp hx hr'.2,hr'.1⟩
  |n=>
   obtain⟨p',ys,es',rfl,rfl,h1,h2,h3,h4⟩:=hr'
   have np:hid p'=false:=s1.fresh h1
   have na:a≠p':=λe=>by subst e;rw[b2] at h1;cases h1
   have sB:SR X.K c (aZ hid p') ρ1 σ (bM H1 p' (.lst ys)):=s1.hide (aW h1 _) h1 aK
   have kp2: ∀b o,(bM H1 p' (.lst ys)) b=some o->b≠a->H' b=some o:=λb o z hb=>by
    by_cases e:b=p'
    ·subst e;rw[aK] at z;cases z;exact h2
    ·rw[aH e] at z;exact kp b o z hb
   have sC:SR X.K c (aZ hid p') (g7 i bs' ρ1) σ H':=sB.put e2 a1 kp2 hx h4
   have hn:H p'=none:=by
    cases e:H p' with
    |none=>rfl
    |some o=>rw[k1 p' o e np] at h1;cases h1
   refine⟨k1.trans kp',p',ys,es',rfl,rfl,hn,h2,s1.fresh0 h1,np,sC,h3,λm hm hσ=>?_⟩
   have:=s1.notOw np m (qS hm)
   exact this hσ
end
inductive Out where
 |nx (ρ:aF)|rt (d:D) (ρ:aF)|bk (ρ:aF)|ct (ρ:aF)|no
abbrev FS:=aF->Out
def Ht(c:Ct)(k:Kd)(v:V):bK:=match k,v with
 | .n,.ref a=>aZ c.hid₀ a
 |_,_=>c.hid₀
structure Ret(K:W.Frag)(c:Ct)(k:Kd)(ρ':aF)(H':Hp)(v:V)(d:D):Prop where
 kp: ∀b o,c.H₀ b=some o->c.mu b=false->H' b=some o
 val:match k with
  | .n=> ∃a xs ds,d=.lst ds/\v=.ref a/\c.H₀ a=none/\H' a=some (.lst xs)/\Reps K (vw H' (aZ c.hid₀ a)) xs ds
  |_=>Rep K (vw H' c.hid₀) v d
 arg: ∀(i:Nat) (bs:List D),ρ'[i]? =some (Sl.arg bs)-> ∃a xs,c.mu a=true/\H' a=some (.lst xs)/\Reps K (vw H' (Ht c k v)) xs bs
def EndOk(K:W.Frag)(c:Ct)(k:Kd)(D:Ends)(W:Hp):Out->Prop
 | .nx ρ'=> ∀σ' H' hid',SR K c hid' ρ' σ' H'->Same W (vw H' hid')->D.nx σ' H'
 | .rt d ρ'=> ∀v H',Ret K c k ρ' H' v d->D.rt v H'
 | .bk ρ'=> ∀σ' H' hid',SR K c hid' ρ' σ' H'->Same W (vw H' hid')->D.bk σ' H'
 | .ct ρ'=> ∀σ' H' hid',SR K c hid' ρ' σ' H'->Same W (vw H' hid')->D.ct σ' H'
 | .no=>False
theorem EndOk.mono {K:W.Frag}{c:Ct}{k:Kd}{D:Ends}{W W':Hp}{o:Out}(h:EndOk K c k D W o)(s:Same W W'):EndOk K c k D W' o:=by
 cases o with
 |nx ρ=>exact λσ' H' hid' z w=>h σ' H' hid' z (s.trans w)
 |rt d ρ=>exact h
 |bk ρ=>exact λσ' H' hid' z w=>h σ' H' hid' z (s.trans w)
 |ct ρ=>exact λσ' H' hid' z w=>h σ' H' hid' z (s.trans w)
 |no=>exact h
def Iz(K:W.Frag)(c:Ct)(k:Kd)(t:FS)(ρ:aF):TS:=λD σ H=> ∃hid,SR K c hid ρ σ H/\EndOk K c k D (vw H hid) (t ρ)
def DS(X:Cx)(c:Ct)(k:Kd)(st:Stmt)(t:FS):Prop:= ∀ρ,PS X st (Iz X.K c k t ρ)
def ua(X:Cx)(c:Ct)(k:Kd)(st:List Stmt)(t:FS):Prop:= ∀ρ,PSs X st (Iz X.K c k t ρ)
section
variable {X:Cx}{c:Ct}{k:Kd}{st:Stmt}{sts rest:List Stmt}{t u:FS}{e:Expr}{pos:Pos}
theorem sv {α:Type}{t:α->TS}(h: ∀z,PSs X sts (t z)):PSs X sts (λD σ H=> ∃z,t z D σ H):=λae s σ H D I ⟨z,q⟩=>h z ae s σ H D I q
theorem Fh {α:Type}{t:α->TT}(h: ∀z,PT X e (t z)):PT X e (λD σ H=> ∃z,t z D σ H):=λae s σ H D I ⟨z,q⟩=>h z ae s σ H D I q
def skip:FS:=λρ=>.nx ρ
def aB(t u:FS):FS:=λρ=>match t ρ with
 | .nx ρ'=>u ρ'
 | .rt d ρ'=>.rt d ρ'
 | .bk ρ'=>.bk ρ'
 | .ct ρ'=>.ct ρ'
 | .no=>.no
theorem bm:ua X c k [] skip:=λρ=>PSs.imp BN λD σ H ⟨hid,sr,q⟩=>q σ H hid sr (Same.refl _)
theorem az(h:DS X c k st t):ua X c k [st] t:=λρ=>BL (h ρ)
theorem aj(h1:DS X c k st t)(h2:ua X c k rest u):ua X c k (st::rest) (aB t u):=λρ=>
 PSs.imp (yq (h1 ρ) (sv λρ1=>h2 ρ1)) λD σ H hq_=>by
  obtain⟨hid,sr,q⟩:=hq_
  refine⟨hid,sr,?_⟩
  unfold aB at q;cases e:t ρ with
  |nx ρ1=>rw[e] at q;exact λσ1 H1 hid1 sr1 v1=>⟨ρ1,hid1,sr1,EndOk.mono q v1⟩
  |rt d ρ1=>rw[e] at q;exact q
  |bk ρ1=>rw[e] at q;exact q
  |ct ρ1=>rw[e] at q;exact q
  |no=>rw[e] at q;exact q
def uk:FS:=λρ=>.bk ρ
theorem yh:DS X c k (.Break pos) uk:=λρ=>PS.imp Ae λD σ H ⟨hid,sr,q⟩=>q σ H hid sr (Same.refl _)
def cP(p:FT)(t u:FS):FS:=λρ=>match p ρ with
 |some true=>t ρ
 |some false=>u ρ
 |none=>.no
theorem cJ {p:FT}{a b:List Stmt}(hp:DT X c e p)(ha:ua X c k a t)(hb:ua X c k b u):DS X c k (.If e a b pos) (cP p t u):=λρ=>
 PS.imp (Dc (Fh λhid=>hp hid ρ) (ha ρ) (hb ρ)) λD σ H hq_=>by
  obtain⟨hid,sr,q⟩:=hq_
  cases e1:p ρ with
  |none=>unfold cP at q;rw[e1] at q;exact q.elim
  |some x=>
   refine⟨hid,sr,x,e1,λH1 s1=>?_⟩
   unfold cP at q;rw[e1] at q;cases x with
   |true=>exact qy ⟨hid,sr.ext s1,EndOk.mono q (aQ s1)⟩
   |false=>exact qW ⟨hid,sr.ext s1,EndOk.mono q (aQ s1)⟩
def ba(f:FE):FS:=λρ=>match f ρ with
 |some d=>.rt d ρ
 |none=>.no
theorem Da {K:W.Frag}{hid:bK}{ρ':aF}{σ:St}{H H':Hp}{v:V}{d:D}(hk:k≠ .b)(p:PostE K c hid k ρ' σ H H' v d)(h0: ∀b,c.hid₀ b=true->hid b=true):Ret K c k ρ' H' v d:=by
 cases k with
 |b=>exact absurd rfl hk
 |s=>
  obtain⟨_,sr,r⟩:=p
  refine⟨sr.kp,r.mono (iW sr.h0),λi bs e=>?_⟩
  obtain⟨a,xs,z1,z2,z3,z4,z5⟩:=sr.sl i _ e
  refine⟨a,xs,z4,z2,?_⟩
  show Reps K (vw H' c.hid₀) xs bs;exact z5.mono (iW sr.h0)
 |n=>
  obtain⟨_,a,xs,ds,rfl,rfl,_,h1,h2,h3,sr,h5,h6⟩:=p
  have le:Same (vw H' (aZ hid a)) (vw H' (aZ c.hid₀ a)):=iW λb q=>by
   unfold aZ at q⊢;cases e:c.hid₀ b with
   |true=>rw[h0 b e];rfl
   |false=>rw[e] at q;rw[Bool.or_eq_true];right;simpa using q
  refine⟨sr.kp,⟨a,xs,ds,rfl,rfl,h2,h1,h5.mono le⟩,λi bs e=>?_⟩
  obtain⟨a',xs',z1,z2,z3,z4,z5⟩:=sr.sl i _ e
  exact⟨a',xs',z4,z2,z5.mono le⟩
theorem aV {f:FE}(he:DP X c k e f)(hk:k≠ .b:=by decide):DS X c k (.Return (some e) pos) (ba f):=λρ=>PS.imp (zF (oB λhid=>he hid ρ)) λD σ H hq_=>by
 obtain⟨hid,sr,q⟩:=hq_
 unfold ba at q;cases e1:f ρ with
 |none=>rw[e1] at q;exact q.elim
 |some z=>rw[e1] at q;exact⟨hid,sr,_,e1,λv H' s r=>q v H' (Da hk (sr.post s r hk) sr.h0)⟩
def yp:Option Sl->Option (List D)
 |some (.own ds)=>some ds
 |_=>none
def x8(i:Nat):FS:=λρ=>match yp ρ[i]? with
 |some ds=>.rt (.lst ds) ρ
 |none=>.no
theorem wY {o:Option Sl}{ds:List D}(h:yp o=some ds):o=some (.own ds):=by
 unfold yp at h;split at h
 ·cases h;rfl
 ·cases h
theorem wo(i:Nat){x:Str}{pos':Pos}(hN:X.N[i]? =some x:=by rfl)(hv:qI X.env.scope x:=by first|exact Or.inl rfl|exact Or.inr (Or.inl rfl)|exact Or.inr (Or.inr rfl))(hd:(x==("__debug__":Str))=false:=by decide)
 (hcd:(x==("__classdict__":Str))=false:=by decide):DS X c .n (.Return (some (.Name x pos')) pos) (x8 i):=λρ=>PS.imp (zF (pv i hN hv hd hcd)) λD σ H hq_=>by
 obtain⟨hid,sr,q⟩:=hq_
 unfold x8 at q;cases e0:yp ρ[i]? with
 |none=>rw[e0] at q;exact q.elim
 |some ds=>
  rw[e0] at q;have e:=wY e0
  obtain⟨a,xs,z1,z2,z3,z4,z5⟩:=sr.sl i _ e
  have le:Same (vw H hid) (vw H (aZ c.hid₀ a)):=iW λb w=>by
   unfold aZ at w;cases e:c.hid₀ b with
   |true=>exact sr.h0 b e
   |false=>
    rw[e] at w;have:b=a:=by simpa using w
    rw[this];exact z3
  refine⟨_,z1,q _ H ⟨sr.kp,⟨a,xs,ds,rfl,rfl,z4,z2,z5.mono le⟩,λj bs e'=>?_⟩⟩
  obtain⟨a',xs',w1,w2,w3,w4,w5⟩:=sr.sl j _ e'
  exact⟨a',xs',w4,w2,w5.mono le⟩
end
section
variable {K:W.Frag}{c:Ct}{hid:bK}{ρ:aF}{σ:St}{H H':Hp}{i:Nat}{a:Addr}{v:V}{d:D}
theorem SR.setV(h:SR K c hid ρ σ H)(r:Rep K (vw H hid) v d)(i:Nat):SR K c hid (ρ.set i (.v d)) (σ.set i (some v)) H:=by
 refine⟨h.tr,h.ht,h.h0,h.kp,h.t0,h.c0,h.m0,by simp[h.len],λj s q=>?_,λj l z n o1 o2 q1 q2=>?_⟩
 ·by_cases e:j=i
  ·subst e
   have lt:j<ρ.length:=by
    have:=(List.getElem?_eq_some_iff.mp q).1
    simpa using this
   rw[List.getElem?_set_self lt] at q;cases q
   exact⟨v,List.getElem?_set_self (by rw[h.len];exact lt),r⟩
  ·rw[List.getElem?_set_ne (Ne.symm e)] at q
   have w:=h.sl j s q
   have es:(σ.set i (some v))[j]? =σ[j]? :=List.getElem?_set_ne (Ne.symm e)
   cases s with
   |no=>trivial
   |v d=>obtain⟨x,h1,h2⟩:=w;exact⟨x,es.trans h1,h2⟩
   |own ds=>obtain⟨a,xs,h1,h2⟩:=w;exact⟨a,xs,es.trans h1,h2⟩
   |arg ds=>obtain⟨a,xs,h1,h2⟩:=w;exact⟨a,xs,es.trans h1,h2⟩
   |ob b=>obtain⟨a,h1,h2⟩:=w;exact⟨a,es.trans h1,h2⟩
 ·have nj: ∀m,Ow (ρ.set i (.v d))[m]? ->m≠i:=λm o e=>by
   subst e
   by_cases lt:m<ρ.length
   ·rw[List.getElem?_set_self lt] at o;exact o
   ·rw[List.getElem?_eq_none (by simpa using lt)] at o;exact o
  have e1:=nj j o1
  have e2:=nj l o2
  rw[List.getElem?_set_ne (Ne.symm e1)] at o1 q1;rw[List.getElem?_set_ne (Ne.symm e2)] at o2 q2;exact h.ap j l z n o1 o2 q1 q2
theorem SR.setO {xs:List V}{ds:List D}(h:SR K c hid ρ σ H)(ha:H a=some (.lst xs))(hh:hid a=true)(h0:c.H₀ a=none)(r:Reps K (vw H hid) xs ds)(no: ∀i:Nat,Ow ρ[i]? ->σ[i]? ≠some (some (.ref a)))(i:Nat):
 SR K c hid (ρ.set i (.own ds)) (σ.set i (some (.ref a))) H:=by
 refine⟨h.tr,h.ht,h.h0,h.kp,h.t0,h.c0,h.m0,by simp[h.len],λj s q=>?_,λj l z n o1 o2 q1 q2=>?_⟩
 ·by_cases e:j=i
  ·subst e
   have lt:j<ρ.length:=by
    have:=(List.getElem?_eq_some_iff.mp q).1
    simpa using this
   rw[List.getElem?_set_self lt] at q;cases q
   exact⟨a,xs,List.getElem?_set_self (by rw[h.len];exact lt),ha,hh,h0,r⟩
  ·rw[List.getElem?_set_ne (Ne.symm e)] at q
   have w:=h.sl j s q
   have es:(σ.set i (some (V.ref a)))[j]? =σ[j]? :=List.getElem?_set_ne (Ne.symm e)
   cases s with
   |no=>trivial
   |v d=>obtain⟨x,h1,h2⟩:=w;exact⟨x,es.trans h1,h2⟩
   |own ds=>obtain⟨a,xs,h1,h2⟩:=w;exact⟨a,xs,es.trans h1,h2⟩
   |arg ds=>obtain⟨a,xs,h1,h2⟩:=w;exact⟨a,xs,es.trans h1,h2⟩
   |ob b=>obtain⟨a,h1,h2⟩:=w;exact⟨a,es.trans h1,h2⟩
 ·by_cases e1:j=i
  ·subst e1
   have e2:l≠j:=λe=>n e.symm
   rw[List.getElem?_set_ne (Ne.symm e2)] at o2 q2
   by_cases lt:j<σ.length
   ·rw[List.getElem?_set_self lt] at q1;cases q1;exact no l o2 q2
   ·rw[List.getElem?_eq_none (by simpa using lt)] at q1;cases q1
  ·rw[List.getElem?_set_ne (Ne.symm e1)] at o1 q1
   by_cases e2:l=i
   ·subst e2
    by_cases lt:l<σ.length
    ·rw[List.getElem?_set_self lt] at q2;cases q2;exact no j o1 q1
    ·rw[List.getElem?_eq_none (by simpa using lt)] at q2;cases q2
   ·rw[List.getElem?_set_ne (Ne.symm e2)] at o2 q2
    exact h.ap j l z n o1 o2 q1 q2
end
section
variable {X:Cx}{c:Ct}{k:Kd}{st:Stmt}{sts rest:List Stmt}{t u:FS}{e:Expr}{es:List Expr}{pos pos':Pos}{x:Str}{i:Nat}
def je(i:Nat)(f:GE):FS:=λρ=>match f ρ with
 |some (d,ρ')=>.nx (ρ'.set i (.v d))
 |none=>.no
def aT(i:Nat)(f:FE):FS:=λρ=>match f ρ with
 |some d=>.nx (ρ.set i (.v d))
 |none=>.no
def Ia:D->Option (List D)
 | .lst ds=>some ds
 |_=>none
def zo(i:Nat)(f:GE):FS:=λρ=>match f ρ with
 |some (d,ρ')=>(match Ia d with
  |some ds=>.nx (ρ'.set i (.own ds))
  |none=>.no)
 |none=>.no
def ga(i:Nat)(f:FE):FS:=λρ=>match f ρ with
 |some d=>(match Ia d with
  |some ds=>.nx (ρ.set i (.own ds))
  |none=>.no)
 |none=>.no
theorem nq(i:Nat){f:GE}(hn:X.N.Nodup)(he:DE X c .s e f)(hi:X.N[i]? =some x:=by rfl)(hx:yc X.env.scope x:=by first|exact Or.inl rfl|exact Or.inr rfl)(hs:swapsWith e (some (.Name x pos')) pos.line X.env=pure false:=by rfl)
 (hf:X.fn x=true\/X.env.scope.names.lookup x=some .local:=by first|exact .inl rfl|exact .inr rfl|assumption):DS X c k (.Assign [.Name x pos'] e pos) (je i f):=λρ=>PS.imp (oC hn hi hx (oB λhid=>he hid ρ) hs hf) λD σ H hq_=>by
 obtain⟨hid,sr,q⟩:=hq_
 unfold je at q;cases e1:f ρ with
 |none=>rw[e1] at q;exact q.elim
 |some z=>
  rw[e1] at q;exact⟨hid,sr,z.1,z.2,e1,λv H' ⟨kp,s',r⟩=>q _ H' hid (s'.setV r i) kp.vw⟩
theorem aU(i:Nat){f:FE}(hn:X.N.Nodup)(he:DP X c .s e f)(hi:X.N[i]? =some x:=by rfl)(hx:yc X.env.scope x:=by first|exact Or.inl rfl|exact Or.inr rfl)(hs:swapsWith e (some (.Name x pos')) pos.line X.env=pure false:=by rfl)
 (hf:X.fn x=true\/X.env.scope.names.lookup x=some .local:=by first|exact .inl rfl|exact .inr rfl|assumption):DS X c k (.Assign [.Name x pos'] e pos) (aT i f):=λρ=>PS.imp (oC hn hi hx (oB λhid=>he hid ρ) hs hf) λD σ H hq_=>by
 obtain⟨hid,sr,q⟩:=hq_
 unfold aT at q;cases e1:f ρ with
 |none=>rw[e1] at q;exact q.elim
 |some z=>
  rw[e1] at q;exact⟨hid,sr,z,e1,λv H' s' r=>q _ H' hid ((sr.ext s').setV r i) (aQ s')⟩
theorem GR {K:W.Frag}{hid:bK}{ρ':aF}{σ:St}{H H':Hp}{v:V}{d:D}{D:Ends}(p:PostE K c hid .n ρ' σ H H' v d)(q:EndOk K c k D (vw H hid) (match Ia d with
 |some ds=>.nx (ρ'.set i (.own ds))
 |none=>.no)):D.nx (σ.set i (some v)) H':=by
 obtain⟨kp,a,xs,ds,rfl,rfl,hn,h1,h2,h3,h4,h5,h6⟩:=p
 refine q _ H' (aZ hid a) (h4.setO h1 eU h2 h5 h6 i) λb o w=>?_
 obtain⟨w1,w2⟩:=vw_some.mp w
 refine vw_some.mpr ⟨?_,kp b o w2 w1⟩
 unfold aZ;rw[w1];have:b≠a:=bd w2 hn
 simp[this]
theorem gl(i:Nat){f:FE}(hn:X.N.Nodup)(he:DP X c .n e f)(hi:X.N[i]? =some x:=by rfl)(hx:yc X.env.scope x:=by first|exact Or.inl rfl|exact Or.inr rfl)(hs:swapsWith e (some (.Name x pos')) pos.line X.env=pure false:=by rfl)
 (hf:X.fn x=true\/X.env.scope.names.lookup x=some .local:=by first|exact .inl rfl|exact .inr rfl|assumption):DS X c k (.Assign [.Name x pos'] e pos) (ga i f):=λρ=>PS.imp (oC hn hi hx (oB λhid=>he hid ρ) hs hf) λD σ H hq_=>by
 obtain⟨hid,sr,q⟩:=hq_
 unfold ga at q;cases e1:f ρ with
 |none=>rw[e1] at q;exact q.elim
 |some z=>
  rw[e1] at q;exact⟨hid,sr,z,e1,λv H' s r=>GR (sr.post s r (by decide)) q⟩
def ca(f:GE):FS:=λρ=>match f ρ with
 |some (_,ρ')=>.nx ρ'
 |none=>.no
theorem gK {f:GE}(he:DE X c .s e f)(hs:swapsWith e none pos.line X.env=pure false:=by rfl):DS X c k (.Expr e pos) (ca f):=λρ=>PS.imp (Bo (oB λhid=>he hid ρ) hs) λD σ H hq_=>by
 obtain⟨hid,sr,q⟩:=hq_
 unfold ca at q;cases e1:f ρ with
 |none=>rw[e1] at q;exact q.elim
 |some z=>
  rw[e1] at q;exact⟨hid,sr,z.1,z.2,e1,λv H' ⟨kp,s',_⟩=>q _ H' hid s' kp.vw⟩
def Ha(K:W.Frag)(r:V->List V->Hp->VK->Prop)(n:Nat)(M:List D->List D->Option (D×List D)):Prop:= ∀(H:Hp) (hid:bK) (a:Addr) (xs us:List V) (bs ds bs':List D) (d:D) (Q:VK),H a=some (.lst xs)->hid a=true->Reps K (vw H hid) xs bs->Reps K (vw H hid) us ds->
 ds.length=n->M bs ds=some (d,bs')->(∀w xs',Reps K (vw H hid) xs' bs'->Rep K (vw H hid) w d->Q w (bM H a (.lst xs')))->r (.ref a) us H Q
theorem FX {K:W.Frag}{r:V->List V->Hp->VK->Prop}{n:Nat}{M:List D->List D->Option (D×List D)}(hM:Ha K r n M){hid:bK}{ρ1:aF}{σ:St}{H H1:Hp}{a:Addr}{us:List V}{bs ds bs':List D}{d:D}{Q:VK}(k1:Kept hid H H1)(s1:SR K c hid ρ1 σ H1)(e2:iM i ρ1=some bs)
 (ha:σ[i]? =some (some (.ref a))) (r1:Reps K (vw H1 hid) us ds) (hn:ds.length=n) (hm:M bs ds=some (d,bs')) (q: ∀v H',PostE K c hid .s (g7 i bs' ρ1) σ H H' v d->Q v H'):r (.ref a) us H1 Q:=by
 obtain⟨a',xs,b1,b2,b3,b4,b5⟩:=s1.held e2
 rw[ha] at b1;cases b1;refine hM H1 hid a xs us bs ds bs' d Q b2 b3 b4 r1 hn hm λw xs' rx rw'=>q w _ ⟨k1.trans λb o z hb=>?_,?_,?_⟩
 ·rw[aH (λe=>by subst e;rw[b3] at hb;cases hb)];exact z
 ·exact s1.put e2 ha (λb o z hb=>by rw[aH hb];exact z) aK (by rw[eD b3];exact rx)
 ·rw[eD b3];exact rw'
variable {n:Nat}{M:List D->List D->Option (D×List D)}{fs:GA}{r:V->List V->Hp->VK->Prop}{y name:Str}{py apos:Pos}{id:String}
theorem iV(i:Nat)(hM:Ha X.K r n M)(hm:Il X id r)(slot:Slot "list" name id)(hty:typeOf (.builtin id)=pure (.type "method_descriptor"))(ha:DG X c (e::es) fs)
 (hN:X.N[i]? =some y:=by rfl) (hv:qI X.env.scope y:=by first|exact Or.inl rfl|exact Or.inr (Or.inl rfl)|exact Or.inr (Or.inr rfl)) (hd:(y==("__debug__":Str))=false:=by decide) (hcd:(y==("__classdict__":Str))=false:=by decide)
 (hbase:attributeBase (.Name y py) name X.env (eval (.Name y py) X.env)=eval (.Name y py) X.env:=by rfl)
 (hfew:((backTo pos (starEach (e::es) X.env)).all (λx=> !x.1)&&(backToKw pos (keywordEach [] X.env)).all (λx=>x.1.isSome)
   &&decide ((e::es).length+([]:List Keyword).length+(if([]:List Keyword).isEmpty then 0 else 1)<30))=true:=by rfl)
 (hline:(apos.endLine==pos.line)=true:=by rfl) (hs:starEach (e::es) X.env=(false,eval e X.env)::starEach es X.env:=by rfl) (hplain:(backTo pos (starEach es X.env)).any (·.1)=false:=by rfl):
 DE X c .s (.Call (.Attribute (.Name y py) name apos) (e::es) [] pos) (aN i n M fs):=λhid ρ=>
 PE.imp (zU PySem.F.plainAttrs_list slot hty hm (pv i hN hv hd hcd) (ha hid ρ) hbase hfew hline hs hplain) λσ H Q hq_=>by
  obtain⟨sr,d,ρ',hd',q⟩:=hq_
  obtain⟨bs0,ds,ρ1,bs,bs',e0,e1,e2,e3,e4,rfl⟩:=oe hd'
  obtain⟨a,xs0,a1,a2,a3,_,_⟩:=sr.held e0
  exact⟨.ref a,a1,.inl ⟨rfl,_,SqL.of a2⟩,sr,ds,ρ1,e1,λus H1 k1 s1 r1=>FX hM k1 s1 e2 a1 r1 e3 e4 q⟩
end
section
variable {K:W.Frag}
def gH:List D->List D->Option (D×List D):=λbs ds=>match ds with
 | [d]=>if bs.length<sizeLine then some (.non,bs++[d]) else none
 |_=>none
theorem gm:Ha K vC 1 gH:=by
 intro H hid a xs us bs ds bs' d Q h1 h2 h3 h4 h5 h6 q;unfold gH at h6;split at h6
 ·split at h6
  ·cases h6
   cases h4 with
   |cons r t=>
    cases t
    exact⟨a,xs,_,rfl,rfl,h1,by rw[h3.length];assumption,q _ _ (h3.append (.cons r .nil)) .non⟩
  ·cases h6
 ·cases h6
def pd:List D->List D->Option (D×List D):=λbs ds=>match ds with
 | [.int i]=>match (if bs.length<=sizeLine then ub bs.length i else none) with
   |some j=>(bs[j]?).map λd=>(d,bs.eraseIdx j)
   |none=>none
 |_=>none
theorem Ex:Ha K yJ 1 pd:=by
 intro H hid a xs us bs ds bs' d Q h1 h2 h3 h4 h5 h6 q;unfold pd at h6;split at h6
 ·split at h6
  ·rename_i i _ j e
   cases e1:bs[j]? with
   |none=>rw[e1] at h6;cases h6
   |some z=>
    rw[e1] at h6;cases h6;cases h4 with
    |cons r t=>
     cases t
     cases r
     obtain⟨x,g1,g2⟩:=h3.get e1
     split at e
     ·obtain⟨w1,w2,w3,w4⟩:=rh e
      have hl:=h3.length
      have l63:=kB
      refine⟨a,xs,i,j,x,rfl,rfl,h1,by omega,by omega,by rw[hl];exact w1,g1,q _ _ (h3.eraseIdx j) g2⟩
     ·cases e
  ·cases h6
 ·cases h6
end
abbrev FG:=D->aF->Option aF
abbrev vH:=List D->aF->Option aF
def OwK(ρ ρ':aF)(σ σ':St):Prop:= ∀i:Nat,Ow ρ'[i]? ->Ow ρ[i]? /\σ'[i]? =σ[i]?
theorem OwK.trans {ρ ρ1 ρ2:aF}{σ σ1 σ2:St}(a:OwK ρ ρ1 σ σ1)(b:OwK ρ1 ρ2 σ1 σ2):OwK ρ ρ2 σ σ2:=λi o=>⟨(a i (b i o).1).1,(b i o).2.trans (a i (b i o).1).2⟩
def Hr(K:W.Frag)(c:Ct)(hid:bK)(g:FG)(ρ:aF)(d:D):TG:=λv σ H Q=>SR K c hid ρ σ H/\Rep K (vw H hid) v d/\ ∃ρ',g d ρ=some ρ'/\ ∀σ',SR K c hid ρ' σ' H->OwK ρ ρ' σ σ'->Q σ' H
def oP(X:Cx)(c:Ct)(tg:Expr)(g:FG):Prop:= ∀hid ρ d,PG X tg (Hr X.K c hid g ρ d)
def Hm(K:W.Frag)(c:Ct)(hid:bK)(g:vH)(ρ:aF)(d:List D):xo:=λv σ H Q=>SR K c hid ρ σ H/\Reps K (vw H hid) v d/\ ∃ρ',g d ρ=some ρ'/\ ∀σ',SR K c hid ρ' σ' H->OwK ρ ρ' σ σ'->Q σ' H
def GX(X:Cx)(c:Ct)(tg:List Expr)(g:vH):Prop:= ∀hid ρ d,PGs X tg (Hm X.K c hid g ρ d)
theorem PG.imp {X:Cx}{e:Expr}{t t':TG}(h:PG X e t)(i: ∀v σ H Q,t' v σ H Q->t v σ H Q):PG X e t':=λae s σ H v u Q I r q=>h ae s σ H v u Q I r (i v σ H Q q)
theorem PGs.imp {X:Cx}{e:List Expr}{t t':xo}(h:PGs X e t)(i: ∀v σ H Q,t' v σ H Q->t v σ H Q):PGs X e t':=λae s σ H v u Q I r q=>h ae s σ H v u Q I r (i v σ H Q q)
theorem zH {X:Cx}{e:Expr}{α:Type}{t:α->TG}(h: ∀z,PG X e (t z)):PG X e (λv σ H Q=> ∃z,t z v σ H Q):=λae s σ H v u Q I r ⟨z,q⟩=>h z ae s σ H v u Q I r q
theorem rP {X:Cx}{e:List Expr}{α:Type}{t:α->xo}(h: ∀z,PGs X e (t z)):PGs X e (λv σ H Q=> ∃z,t z v σ H Q):=λae s σ H v u Q I r ⟨z,q⟩=>h z ae s σ H v u Q I r q
section
variable {X:Cx}{c:Ct}{k:Kd}{st:Stmt}{sts body:List Stmt}{t u:FS}{e tg iter:Expr}{es:List Expr}{pos pos':Pos}{x:Str}{i:Nat}
def gN(i:Nat):FG:=λd ρ=>some (ρ.set i (.v d))
theorem aC(i:Nat)(hn:X.N.Nodup)(hi:X.N[i]? =some x:=by rfl)(hx:yc X.env.scope x:=by first|exact Or.inl rfl|exact Or.inr rfl)(hf:X.fn x=true\/X.env.scope.names.lookup x=some .local:=by first|exact .inl rfl|exact .inr rfl|assumption):
 oP X c (.Name x pos) (gN i):=λhid ρ d=>PG.imp (CY (i:=i) hn hi hx hf) λv σ H Q hq_=>by
 obtain⟨sr,r,ρ',e,q⟩:=hq_
 cases e
 refine q _ (sr.setV r i) λj o=>?_
 have ne:j≠i:=λe=>by
  subst e
  by_cases lt:j<ρ.length
  ·rw[List.getElem?_set_self lt] at o;exact o
  ·rw[List.getElem?_eq_none (by simpa using lt)] at o;exact o
 rw[List.getElem?_set_ne (Ne.symm ne)] at o⊢;exact⟨o,rfl⟩
def jI:vH:=λds ρ=>match ds with
 | []=>some ρ
 |_=>none
def eV(g:FG)(gs:vH):vH:=λds ρ=>match ds with
 | []=>none
 |d::r=>(g d ρ).bind λρ'=>gs r ρ'
theorem eY:GX X c [] jI:=λhid ρ d=>PGs.imp vV λv σ H Q hq_=>by
 obtain⟨sr,r,ρ',e,q⟩:=hq_
 unfold jI at e;split at e
 ·cases e;cases r;exact⟨rfl,q σ sr λi o=>⟨o,rfl⟩⟩
 ·cases e
theorem be {g:FG}{gs:vH}(h1:oP X c e g)(h2:GX X c es gs)(hs:(assignEach (e::es) X.env).map (·.2)=assign e X.env::(assignEach es X.env).map (·.2):=by rfl):GX X c (e::es) (eV g gs):=λhid ρ d=>
 PGs.imp (tR (zH λd=>h1 hid ρ d) (rP λz:aF×List D=>h2 hid z.1 z.2) hs) λv σ H Q hq_=>by
  obtain⟨sr,r,ρ',e,q⟩:=hq_
  cases d with
  |nil=>cases e
  |cons d1 ds=>
   cases r with
   |cons r1 r2=>
    have e:(g d1 ρ).bind (λρ'=>gs ds ρ')=some ρ':=e
    cases e1:g d1 ρ with
    |none=>rw[e1] at e;cases e
    |some ρ1=>
     rw[e1] at e;exact⟨_,_,rfl,d1,sr,r1,ρ1,e1,λσ1 s1 o1=>⟨(ρ1,ds),s1,r2,ρ',e,λσ2 s2 o2=>q σ2 s2 (o1.trans o2)⟩⟩
def gT(n:Nat)(gs:vH):FG:=λd ρ=>match d with
 | .tup ds=>if ds.length=n then gs ds ρ else none
 |_=>none
theorem gh {gs:vH}{kk n:Nat}(hc:X.calm=true)(h:GX X c es gs)(hn:(assignEach es X.env).length=n:=by rfl)(hst:(assignEach es X.env).findIdx? (·.1)=none:=by rfl):oP X c (.Tuple es kk pos) (gT n gs):=λhid ρ d=>
 PG.imp (zt hc (rP λds=>h hid ρ ds) hn hst) λv σ H Q hq_=>by
  obtain⟨sr,r,ρ',e,q⟩:=hq_
  unfold gT at e;split at e
  ·split at e
   ·cases r with
    |tup h1 h2=>exact⟨_,_,rfl,Same.seqT (dY _ _) h1,by rw[h2.length];assumption,_,sr,h2,ρ',e,q⟩
   ·cases e
  ·cases e
def E1:Option aF->Out
 |some ρ=>.nx ρ
 |none=>.no
def cv(g:FG)(f:GE):FS:=λρ=>match f ρ with
 |some z=>E1 (g z.1 z.2)
 |none=>.no
theorem g8 {g:FG}{f:GE}(he:DE X c .s e f)(hg:oP X c tg g)(hs:swapsWithSole [tg] e pos.line X.env=pure false:=by rfl)(hw:swappedStores [tg] e X.env=pure none:=by rfl)
 (h1:(assignEach [tg] X.env).map (·.2)=[assign tg X.env]:=by rfl):DS X c k (.Assign [tg] e pos) (cv g f):=λρ=>
 PS.imp (AH (oB λhid=>he hid ρ) (zH λz:bK×aF×D=>hg z.1 z.2.1 z.2.2) hs hw h1) λD σ H hq_=>by
  obtain⟨hid,sr,q⟩:=hq_
  unfold cv at q;cases e1:f ρ with
  |none=>rw[e1] at q;exact q.elim
  |some z=>
   rw[e1] at q;cases e2:g z.1 z.2 with
   |none=>dsimp only at q;rw[e2] at q;exact q.elim
   |some ρ2=>
    dsimp only at q;rw[e2] at q;exact⟨hid,sr,z.1,z.2,e1,λv H' ⟨kp,s',r⟩=>⟨(hid,z.2,z.1),s',r,ρ2,e2,λσ' s2 _=>q σ' H' hid s2 kp.vw⟩⟩
def bW(i:Nat)(fi:FE)(d:D)(ρ:aF):Option aF:=match iM i ρ with
 |some bs=>(match fi ρ with
  |some (.int j)=>(match ub bs.length j with
   |some m=>some (g7 i (bs.set m d) ρ)
   |none=>none)
  |_=>none)
 |none=>none
theorem uC {fi:FE}{d:D}{ρ ρ':aF}(h:bW i fi d ρ=some ρ'): ∃bs j m,iM i ρ=some bs/\fi ρ=some (.int j)/\ub bs.length j=some m/\ρ'=g7 i (bs.set m d) ρ:=by
 unfold bW at h;split at h
 ·split at h
  ·split at h
   ·cases h;exact⟨_,_,_, ‹_›, ‹_›, ‹_›,rfl⟩
   ·cases h
  ·cases h
 ·cases h
def HM(K:W.Frag)(c:Ct)(hid:bK)(g:FG)(ρ:aF)(d:D):TG:=λv σ H Q=>SR K c hid ρ σ H/\Rep K (vw H hid) v d/\ ∃ρ',g d ρ=some ρ'/\ ∀H',Kept hid H H'->SR K c hid ρ' σ H'->Q σ H'
def G6(X:Cx)(c:Ct)(tg:Expr)(g:FG):Prop:= ∀hid ρ d,PG X tg (HM X.K c hid g ρ d)
theorem gg(i:Nat){y:Str}{py:Pos}{ix:Expr}{fi:FE}{k1:Kd}(hi:DP X c k1 ix fi)(hN:X.N[i]? =some y:=by rfl)(hv:qI X.env.scope y:=by first|exact Or.inl rfl|exact Or.inr (Or.inl rfl)|exact Or.inr (Or.inr rfl))(hd:(y==("__debug__":Str))=false:=by decide)(hcd:(y==("__classdict__":Str))=false:=by decide)
 (ha: ∀v,assign (.Subscript (.Name y py) ix pos) X.env v=(do
   let ov <-holding [v] (eval (.Name y py) X.env)
   let iv <-holding [v,ov] (eval ix X.env)
   standAt pos
   holding [v,ov,iv] (setItem ov iv v)
   release [v,ov,iv] []):=by intro _;rfl):G6 X c (.Subscript (.Name y py) ix pos) (bW i fi):=λhid ρ d=>
 PG.imp (Dp (pv i hN hv hd hcd) (hi hid ρ) Au ha) λv σ H Q hq_=>by
  obtain⟨sr,r,ρ',e,q⟩:=hq_
  obtain⟨bs,j,m,e1,e2,e3,rfl⟩:=uC e
  obtain⟨a,xs,a1,a2,a3,a4,a5⟩:=sr.held e1
  refine⟨.ref a,a1,sr,_,e2,λw H1 s1 r1=>?_⟩
  have b1:=(RK.b k1 r1 λa n=>sr.fresh n).int
  cases b1
  have a4':=a4.mono (aQ (hid:=hid) s1)
  refine⟨a,xs,j,m,rfl,rfl,s1 _ _ a2,by rw[a4.length];exact e3,q _ (λb o z hb=>?_) ?_⟩
  ·rw[aH (λe=>by subst e;rw[a3] at hb;cases hb)];exact s1 _ _ z
  ·exact(sr.ext s1).put e1 a1 (λb o z hb=>by rw[aH hb];exact z) aK (by rw[eD a3];exact Reps.set (r.mono (aQ s1)) m a4')
theorem lJ {g:FG}{f:GE}(he:DE X c .s e f)(hg:G6 X c tg g)(hs:swapsWithSole [tg] e pos.line X.env=pure false:=by rfl)(hw:swappedStores [tg] e X.env=pure none:=by rfl)
 (h1:(assignEach [tg] X.env).map (·.2)=[assign tg X.env]:=by rfl):DS X c k (.Assign [tg] e pos) (cv g f):=λρ=>
 PS.imp (AH (oB λhid=>he hid ρ) (zH λz:bK×aF×D=>hg z.1 z.2.1 z.2.2) hs hw h1) λD σ H hq_=>by
  obtain⟨hid,sr,q⟩:=hq_
  unfold cv at q;cases e1:f ρ with
  |none=>rw[e1] at q;exact q.elim
  |some z=>
   rw[e1] at q;cases e2:g z.1 z.2 with
   |none=>dsimp only at q;rw[e2] at q;exact q.elim
   |some ρ2=>
    dsimp only at q;rw[e2] at q;exact⟨hid,sr,z.1,z.2,e1,λv H' ⟨kp,s',r⟩=>⟨(hid,z.2,z.1),s',r,ρ2,e2,λH2 k2 s2=>q σ H2 hid s2 (kp.trans k2).vw⟩⟩
def HE(K:W.Frag)(c:Ct)(hid:bK)(g:vH)(ρ:aF)(d:List D):xo:=λv σ H Q=>SR K c hid ρ σ H/\Reps K (vw H hid) v d/\ ∃ρ',g d ρ=some ρ'/\ ∀H',Kept hid H H'->SR K c hid ρ' σ H'->Q σ H'
def Hb(X:Cx)(c:Ct)(tg:List Expr)(g:vH):Prop:= ∀hid ρ d,PGs X tg (HE X.K c hid g ρ d)
theorem rj:Hb X c [] jI:=λhid ρ d=>PGs.imp vV λv σ H Q hq_=>by
 obtain⟨sr,r,ρ',e,q⟩:=hq_
 unfold jI at e;split at e
 ·cases e;cases r;exact⟨rfl,q H (.of (Same.refl _)) sr⟩
 ·cases e
theorem iu {g:FG}{gs:vH}(h1:G6 X c e g)(h2:Hb X c es gs)(hs:(assignEach (e::es) X.env).map (·.2)=assign e X.env::(assignEach es X.env).map (·.2):=by rfl):Hb X c (e::es) (eV g gs):=λhid ρ d=>
 PGs.imp (tR (zH λd=>h1 hid ρ d) (rP λz:aF×List D=>h2 hid z.1 z.2) hs) λv σ H Q hq_=>by
  obtain⟨sr,r,ρ',e,q⟩:=hq_
  cases d with
  |nil=>cases e
  |cons d1 ds=>
   cases r with
   |cons r1 r2=>
    have e:(g d1 ρ).bind (λρ'=>gs ds ρ')=some ρ':=e
    cases e1:g d1 ρ with
    |none=>rw[e1] at e;cases e
    |some ρ1=>
     rw[e1] at e;exact⟨_,_,rfl,d1,sr,r1,ρ1,e1,λH1 k1 s1=>⟨(ρ1,ds),s1,r2.mono k1.vw,ρ',e,λH2 k2 s2=>q H2 (k1.trans k2) s2⟩⟩
theorem qo {gs:vH}{kk n:Nat}(hc:X.calm=true)(h:Hb X c es gs)(hn:(assignEach es X.env).length=n:=by rfl)(hst:(assignEach es X.env).findIdx? (·.1)=none:=by rfl):G6 X c (.Tuple es kk pos) (gT n gs):=λhid ρ d=>
 PG.imp (zt hc (rP λds=>h hid ρ ds) hn hst) λv σ H Q hq_=>by
  obtain⟨sr,r,ρ',e,q⟩:=hq_
  unfold gT at e;split at e
  ·split at e
   ·cases r with
    |tup h1 h2=>exact⟨_,_,rfl,Same.seqT (dY _ _) h1,by rw[h2.length];assumption,_,sr,h2,ρ',e,q⟩
   ·cases e
  ·cases e
def ItOk(K:W.Frag)(W:Hp)(J:It)(ds:List D):Prop:=
 (∀(i:Nat) (d:D) (H:Hp),ds[i]? =some d->Same W H->J.go i H/\ ∀x H',J.yld i H x H'->Same H H'/\ ∀hid:bK,(∀b,hid b=true-> ∃o,H b=some o)->Same W (vw H hid)->Rep K (vw H' hid) x d)/\ ∀H,Same W H->J.stop ds.length H
def IO(K:W.Frag)(c:Ct)(hid:bK)(f:GA)(ρ:aF):TI:=λσ H R=>SR K c hid ρ σ H/\ ∃ds ρ',f ρ=some (ds,ρ')/\ ∀J H',Kept hid H H'->SR K c hid ρ' σ H'->ItOk K (vw H' hid) J ds->R J H'
def DI(X:Cx)(c:Ct)(tg iter:Expr)(f:GA):Prop:= ∀hid ρ,PI X tg iter (IO X.K c hid f ρ)
theorem PI.imp {t t':TI}(h:PI X tg iter t)(i: ∀σ H Q,t' σ H Q->t σ H Q):PI X tg iter t':=λae s σ H R I q=>h ae s σ H R I (i σ H R q)
theorem HR {α:Type}{t:α->TI}(h: ∀z,PI X tg iter (t z)):PI X tg iter (λσ H R=> ∃z,t z σ H R):=λae s σ H R I ⟨z,q⟩=>h z ae s σ H R I q
def u4(f:GE):GA:=λρ=>match f ρ with
 |some (.lst ds,ρ')=>some (ds,ρ')
 |_=>none
theorem An {K:W.Frag}{W:Hp}{a:Addr}{xs:List V}{ds:List D}(h:SqT K W a xs)(r:Reps K W xs ds):ItOk K W (Hv K a) ds:=by
 refine⟨λi d H e s=>?_,λH s=>⟨xs,Same.seqT s h,by rw[r.length];exact Nat.le_refl _⟩⟩
 obtain⟨x,e1,r1⟩:=r.get e
 refine⟨⟨xs,x,Same.seqT s h,e1⟩,λy H' ⟨e2,e3⟩=>?_⟩
 subst e2;have:=e3 xs (Same.seqT s h)
 rw[e1] at this;cases this;exact⟨Same.refl _,λhid _ sw=>r1.mono sw⟩
theorem wg {f:GE}(h:DE X c .s iter f):DI X c tg iter (u4 f):=λhid ρ=>PI.imp (qk (h hid ρ)) λσ H R hq_=>by
 obtain⟨sr,ds,ρ',e,q⟩:=hq_
 unfold u4 at e;split at e
 ·rename_i ds' ρ1 e1
  cases e
  refine⟨sr,.lst ds,ρ',e1,λv H' ⟨kp,s',r⟩=>?_⟩
  cases r with
  |lst h1 h2=>have h1:=SqL.of (K:=X.K) h1;exact⟨_,rfl,⟨_,(dY _ _).seq h1⟩,q _ H' kp s' (by
    refine⟨λi d H e s=>?_,λH s=>⟨_,s.seq h1,by rw[h2.length];exact Nat.le_refl _⟩⟩
    obtain⟨x,e1,r1⟩:=h2.get e
    refine⟨⟨_,x,s.seq h1,e1⟩,λy H' ⟨e2,e3⟩=>?_⟩
    subst e2;have:=e3 _ (s.seq h1)
    rw[e1] at this;cases this;exact⟨Same.refl _,λhid _ sw=>r1.mono sw⟩)⟩
 ·cases e
def o6(lo:Int)(n:Nat):List D:=(List.range n).map λ(i:Nat)=>D.int (lo+i)
theorem kn {K:W.Frag}{W:Hp}{lo:Int}{n:Nat}:ItOk K W (FD lo n) (o6 lo n):=by
 refine⟨λi d H e s=>?_,λH s=>by show n<=(o6 lo n).length;simp[o6]⟩
 unfold o6 at e;rw[List.getElem?_map] at e;cases e1:(List.range n)[i]? with
 |none=>rw[e1] at e;cases e
 |some j=>
  rw[e1] at e;obtain⟨h1,h2⟩:=List.getElem?_eq_some_iff.mp e1
  simp at h1 h2;subst h2;cases e
  refine⟨h1,λy H' ⟨e2,e3⟩=>?_⟩
  subst e2 e3;exact⟨Same.refl _,λhid _ sw=>.int⟩
def zO(f:GA):GA:=λρ=>match f ρ with
 |some ([.int j],ρ')=>if j.natAbs<4000000000 then some (o6 0 j.toNat,ρ') else none
 |_=>none
theorem xn {a:Expr}{f:GA}{p:Pos}(hm:X.mg "range"=none)(ha:DG X c [a] f)(hg:Gl X "range":=by rfl)(hs:starEach [a] X.env=[(false,eval a X.env)]:=by rfl):DI X c tg (.Call (.Name "range" p) [a] [] pos) (zO f):=λhid ρ=>
 PI.imp (qb hg hm (ha hid ρ) hs) λσ H R hq_=>by
  obtain⟨sr,ds,ρ',e,q⟩:=hq_
  unfold zO at e;split at e
  ·split at e
   ·cases e
    refine⟨sr,_,_, ‹_›,λvs H' kp s' r=>?_⟩
    cases r with
    |cons r t=>cases t;cases r;exact⟨_,rfl,by omega,by omega,q _ H' kp s' kn⟩
   ·cases e
  ·cases e
def cD(g:FG)(b:FS):List D->FS
 | [],ρ=>.nx ρ
 |d::r,ρ=>match g d ρ with
  |none=>.no
  |some ρ1=>match b ρ1 with
   | .nx ρ2=>cD g b r ρ2
   | .ct ρ2=>cD g b r ρ2
   | .bk ρ2=>.nx ρ2
   | .rt d ρ2=>.rt d ρ2
   | .no=>.no
def dI(f:GA)(g:FG)(b:FS):FS:=λρ=>match f ρ with
 |some (ds,ρ')=>cD g b ds ρ'
 |none=>.no
theorem eO {f:GA}{g:FG}{tb:FS}(hp:PassesOwn (model X.prog X.w) X.A X.env X.xe)(hc:X.calm=true)(hi:DI X c tg iter f)(hg:oP X c tg g)(hb:ua X c k body tb)
 (hs: ∀x,foldedSetIterable iter X.env x=pure x:=by intro _;rfl):DS X c k (.For tg iter body [] pos) (dI f g tb):=λρ=>
 PS.imp (Dv hp hc (HR λhid=>hi hid ρ) (zH λz:bK×aF×D=>hg z.1 z.2.1 z.2.2) (sv λρ=>hb ρ) hs) λD σ H hq_=>by
  obtain⟨hid,sr,q⟩:=hq_
  unfold dI at q;cases e1:f ρ with
  |none=>rw[e1] at q;exact q.elim
  |some z=>
   obtain⟨ds,ρ0⟩:=z
   rw[e1] at q;have q':EndOk X.K c k D (vw H hid) (cD g tb ds ρ0):=q
   refine⟨hid,sr,ds,ρ0,e1,λJ H1 kp s1 it=>?_⟩
   refine⟨λi m σ H=>m=ds.length-i/\i<=ds.length/\ ∃hid2 ρ2,SR X.K c hid2 ρ2 σ H/\Same (vw H1 hid) (vw H hid2)/\EndOk X.K c k D (vw H hid2) (cD g tb (ds.drop i) ρ2),⟨ds.length,by simp,Nat.zero_le _,hid,ρ0,s1,Same.refl _,EndOk.mono q' kp.vw⟩,?_⟩
   rintro i m σ2 H2 ⟨rfl,hi',hid2,ρ2,s2,w2,q2⟩
   have wH:Same (vw H1 hid) H2:=w2.trans (dY _ _)
   by_cases hlt:i<ds.length
   ·have hd:ds[i]? =some ds[i]:=List.getElem?_eq_getElem hlt
    have e2:ds.drop i=ds[i]::ds.drop (i+1):=List.drop_eq_getElem_cons hlt
    rw[e2] at q2;unfold cD at q2;obtain⟨go,yl⟩:=it.1 i ds[i] H2 hd wH
    refine .inr ⟨go,λσ' H'=> ∃hid3 ρ3,SR X.K c hid3 ρ3 σ' H'/\Same (vw H1 hid) (vw H' hid3)/\EndOk X.K c k D (vw H' hid3) (cD g tb (ds.drop (i+1)) ρ3),λσ' H' n3=>⟨ds.length- (i+1),by omega,rfl,hlt,n3⟩,λx H3 y=>?_⟩
    obtain⟨s3,rp⟩:=yl x H3 y
    have rx:=rp hid2 s2.tr w2
    cases e3:g ds[i] ρ2 with
    |none=>rw[e3] at q2;exact q2.elim
    |some ρ3=>
     rw[e3] at q2;refine⟨(hid2,ρ2,ds[i]),s2.ext s3,rx,ρ3,e3,λσ4 s4 _=>⟨ρ3,hid2,s4,?_⟩⟩
     have w3:Same (vw H2 hid2) (vw H3 hid2):=aQ s3
     dsimp only at q2;cases e4:tb ρ3 with
     |nx ρ5=>rw[e4] at q2;exact λσ' H' hid' z w=>⟨hid',ρ5,z,(w2.trans w3).trans w,EndOk.mono q2 (w3.trans w)⟩
     |ct ρ5=>rw[e4] at q2;exact λσ' H' hid' z w=>⟨hid',ρ5,z,(w2.trans w3).trans w,EndOk.mono q2 (w3.trans w)⟩
     |bk ρ5=>rw[e4] at q2;exact λσ' H' hid' z w=>q2 σ' H' hid' z (w3.trans w)
     |rt d ρ5=>rw[e4] at q2;exact q2
     |no=>rw[e4] at q2;exact q2.elim
   ·have e:i=ds.length:=by omega
    subst e;rw[List.drop_eq_nil_of_le (Nat.le_refl _)] at q2;exact .inl ⟨it.2 H2 wH,q2 σ2 H2 hid2 s2 (Same.refl _)⟩
def yb(p:FT)(b:FS):Nat->FS
 |0,_=>.no
 |n+1,ρ=>match p ρ with
  |none=>.no
  |some false=>.nx ρ
  |some true=>match b ρ with
   | .nx ρ2=>yb p b n ρ2
   | .ct ρ2=>yb p b n ρ2
   | .bk ρ2=>.nx ρ2
   | .rt d ρ2=>.rt d ρ2
   | .no=>.no
theorem A0(n:Nat){p:FT}{tb:FS}(hp:PassesOwn (model X.prog X.w) X.A X.env X.xe)(hc:DT X c e p)(hb:ua X c k body tb):DS X c k (.While e body [] pos) (yb p tb n):=λρ=>
 PS.imp (Ac hp (Fh λz:bK×aF=>hc z.1 z.2) (sv λρ=>hb ρ)) λD σ H hq_=>by
  obtain⟨hid,sr,q⟩:=hq_
  refine⟨λm σ H=> ∃hid2 ρ2,SR X.K c hid2 ρ2 σ H/\EndOk X.K c k D (vw H hid2) (yb p tb m ρ2),⟨n,hid,ρ,sr,q⟩,?_⟩
  rintro m σ2 H2 ⟨hid2,ρ2,s2,q2⟩
  cases m with
  |zero=>exact q2.elim
  |succ m=>
   unfold yb at q2;cases e1:p ρ2 with
   |none=>rw[e1] at q2;exact q2.elim
   |some b=>
    rw[e1] at q2;refine⟨(hid2,ρ2),s2,b,e1,λH3 s3=>?_⟩
    cases b with
    |false=>exact qW (q2 σ2 H3 hid2 (s2.ext s3) (aQ s3))
    |true=>
     refine qy ⟨λσ' H'=> ∃hid3 ρ3,SR X.K c hid3 ρ3 σ' H'/\EndOk X.K c k D (vw H' hid3) (yb p tb m ρ3),λσ' H' n3=>⟨m,Nat.lt_succ_self _,n3⟩,ρ2,hid2,s2.ext s3,?_⟩
     have w3:Same (vw H2 hid2) (vw H3 hid2):=aQ s3
     dsimp only at q2;cases e4:tb ρ2 with
     |nx ρ5=>rw[e4] at q2;exact λσ' H' hid' z w=>⟨hid',ρ5,z,EndOk.mono q2 (w3.trans w)⟩
     |ct ρ5=>rw[e4] at q2;exact λσ' H' hid' z w=>⟨hid',ρ5,z,EndOk.mono q2 (w3.trans w)⟩
     |bk ρ5=>rw[e4] at q2;exact λσ' H' hid' z w=>q2 σ' H' hid' z (w3.trans w)
     |rt d ρ5=>rw[e4] at q2;exact q2
     |no=>rw[e4] at q2;exact q2.elim
end
def ij(n:Nat)(ds:List D):aF:=ds.map Sl.v++List.replicate (n-ds.length) .no
def gF(kd:Kd)(n:Nat)(t:FS)(ds:List D):Option D:=match t (ij n ds) with
 | .rt d _=>some d
 | .nx _=>(match kd with
   | .n=>none
   |_=>some .non)
 |_=>none
def nT(n:Nat)(bs ds:List D):aF:=.arg bs::(ds.map Sl.v++List.replicate (n-1-ds.length) .no)
def n9:aF->Option (List D)
 | .arg bs::_=>some bs
 |_=>none
def uY(kd:Kd)(n:Nat)(t:FS)(bs ds:List D):Option (D×List D):=match t (nT n bs ds) with
 | .rt d ρ=>(n9 ρ).map λb=>(d,b)
 | .nx ρ=>(match kd with
   | .n=>none
   |_=>(n9 ρ).map λb=>(.non,b))
 |_=>none
theorem y8 {K:W.Frag}{c:Ct}{hid:bK}{H:Hp}(m:Nat): ∀ {vs:List V} {ds:List D},Reps K (vw H hid) vs ds-> ∀(i:Nat) (s:Sl),(ds.map Sl.v++List.replicate m .no)[i]? =some s->SlOk K c hid (vs.map some++List.replicate m none) H i s:=by
 intro vs ds r i s e;have hl:=r.length
 by_cases hi:i<ds.length
 ·rw[List.getElem?_append_left (by simpa using hi),List.getElem?_map] at e
  have e2:ds[i]? =some ds[i]:=List.getElem?_eq_getElem hi
  rw[e2] at e;cases e
  obtain⟨x,h1,h2⟩:=r.get e2
  exact⟨x,by rw[List.getElem?_append_left (by simp;omega),List.getElem?_map,h1];rfl,h2⟩
 ·rw[List.getElem?_append_right (by simpa using hi),List.getElem?_replicate] at e
  split at e
  ·cases e;trivial
  ·cases e
theorem Dy {ds:List D}{m i:Nat}: ¬Ow (ds.map Sl.v++List.replicate m Sl.no)[i]? :=λo=>by
 by_cases hi:i<ds.length
 ·rw[List.getElem?_append_left (by simpa using hi),List.getElem?_map,List.getElem?_eq_getElem hi] at o
  exact o
 ·rw[List.getElem?_append_right (by simpa using hi),List.getElem?_replicate] at o
  split at o<;>exact o
theorem SR.begins {K:W.Frag}{hid:bK}{H:Hp}{N:List Str}{vs:List V}{ds:List D}(tr:Fn hid H)(r:Reps K (vw H hid) vs ds):SR K ⟨H,hid,λ_=>false⟩ hid (ij N.length ds) (start N vs) H:=by
 have hl:=r.length
 unfold start ij;rw[hl];exact⟨tr.1,tr.2,λ_ h=>h,λ_ _ h _=>h,λb o h=>⟨o,h⟩,tr.1,(λ_ h=>nomatch h),by simp[hl],λi s e=>y8 _ r i s e,λi j a _ o=>absurd o Dy⟩
section
variable {P:Program}{w:World}{K:W.Frag}{mg:Str->Option Value}{base:Heap}{x qual:Str}{st:Stmt}{f:Addr}{fd:FuncData}{N ps:List Str}{k:Nat}{t:FS}{kd:Kd}
theorem wE(F:Fun K x qual st f fd)(S:FnScope N ps (am st))(hkd:kd≠ .b)
 (body: ∀(cdv:Value) (A:Around) (outer:List Env) (s:Shared) (H:Hp) (hid:bK) (E:XK),Room k (A.deeper (envOfC qual (am st) s.heap.objs.size f cdv))->
   ua (pg rO P w K mg base N qual (am st) f cdv A outer s H E).nox ⟨H,hid,λ_=>false⟩ kd (aM st) t):
 FnOk P w K mg base rO (k+1) f fd ps (dU K kd ps.length (gF kd N.length t)):=by
 refine F.ok S (λvs H Q E h=>?_) (λcdv A outer s H vs Q E hr h=>?_)
 ·obtain⟨hid,ds,_,r,hl,_⟩:=h
  rw[r.length,hl]
 ·obtain⟨hid,ds,tr,r,hl,d,hP,q⟩:=h
  refine⟨_,body cdv A outer s H hid E hr (ij N.length ds),hid,SR.begins tr r,?_⟩
  unfold gF at hP;cases e:t (ij N.length ds) with
  |nx ρ=>
   rw[e] at hP;intro σ' H' hid' sr _;have sm:Same H H':=λb o z=>sr.kp b o z rfl
   cases kd with
   |b=>exact absurd rfl hkd
   |s=>cases hP;exact q _ H' sm .non
   |n=>cases hP
  |rt d' ρ=>
   rw[e] at hP;cases hP
   intro v H' R;have sm:Same H H':=λb o z=>R.kp b o z rfl
   cases kd with
   |b=>exact absurd rfl hkd
   |s=>exact q v H' sm R.val
   |n=>exact q v H' sm R.val
  |bk ρ=>rw[e] at hP;cases hP
  |ct ρ=>rw[e] at hP;cases hP
  |no=>rw[e] at hP;cases hP
theorem SR.beginsE {hid:bK}{H:Hp}{a:Addr}{xs us:List V}{bs ds:List D}(tr:Fn hid H)(ha:hid a=true)(hx:H a=some (.lst xs))(rb:Reps K (vw H hid) xs bs)(r:Reps K (vw H hid) us ds)(hN:0<N.length):
 SR K ⟨H,hid,λb=>decide (b=a)⟩ hid (nT N.length bs ds) (start N (.ref a::us)) H:=by
 have hl:=r.length
 have es:start N (.ref a::us)=some (V.ref a)::(us.map some++List.replicate (N.length-1-ds.length) none):=by
  unfold start;rw[List.map_cons,List.cons_append,List.length_cons,hl];congr 3
  omega
 rw[es];unfold nT;refine⟨tr.1,tr.2,λ_ h=>h,λ_ _ h _=>h,λb o h=>⟨o,h⟩,tr.1,λb h=>?_,by simp[hl],λi s e=>?_,λi j z n o1 o2 q1 q2=>?_⟩
 ·have:b=a:=by simpa using h
  rw[this];exact ha
 ·cases i with
  |zero=>
   cases e
   exact⟨a,xs,rfl,hx,ha,by simp,rb⟩
  |succ i=>
   have z:=y8 (c:=⟨H,hid,λb=>decide (b=a)⟩) (N.length-1-ds.length) r i s (by simpa using e)
   cases s with
   |no=>trivial
   |v d=>obtain⟨x,h1,h2⟩:=z;exact⟨x,by simpa using h1,h2⟩
   |own ds=>obtain⟨x,xs,h1,h2⟩:=z;exact⟨x,xs,by simpa using h1,h2⟩
   |arg ds=>obtain⟨x,xs,h1,h2⟩:=z;exact⟨x,xs,by simpa using h1,h2⟩
   |ob b=>obtain⟨x,h1,h2⟩:=z;exact⟨x,by simpa using h1,h2⟩
 ·cases i with
  |zero=>
   cases j with
   |zero=>exact n rfl
   |succ j=>exact Dy (by simpa using o2)
  |succ i=>exact Dy (by simpa using o1)
theorem wV {ρ:aF}{b:List D}(h:n9 ρ=some b):ρ[0]? =some (.arg b):=by
 unfold n9 at h;split at h
 ·cases h;rfl
 ·cases h
theorem E6 {n:Nat}(F:Fun K x qual st f fd)(S:FnScope N ps (am st))(hkd:kd≠ .b)(hn:ps.length=n+1)
 (body: ∀(cdv:Value) (A:Around) (outer:List Env) (s:Shared) (H:Hp) (hid:bK) (a:Addr) (E:XK),Room k (A.deeper (envOfC qual (am st) s.heap.objs.size f cdv))->
   ua (pg rO P w K mg base N qual (am st) f cdv A outer s H E).nox ⟨H,hid,λb=>decide (b=a)⟩ kd (aM st) t):
 FnOk P w K mg base rO (k+1) f fd ps (si K kd n (uY kd N.length t)):=by
 refine F.ok S (λvs H Q E h=>?_) (λcdv A outer s H vs Q E hr h=>?_)
 ·obtain⟨hid,a,xs,bs,us,ds,rfl,_,_,_,_,r,hl,_⟩:=h
  rw[List.length_cons,r.length,hl,hn]
 ·obtain⟨hid,a,xs,bs,us,ds,rfl,tr,ha,hx,rb,r,hl,d,bs',hM,q⟩:=h
  have hN:0<N.length:=by have:=congrArg List.length S.pre;rw[List.length_take] at this;omega
  refine⟨_,body cdv A outer s H hid a E hr (nT N.length bs ds),hid,SR.beginsE tr ha hx rb r hN,?_⟩
  have fin: ∀(v:V) (H':Hp) (ρ:aF) (d:D),Ret K ⟨H,hid,λb=>decide (b=a)⟩ kd ρ H' v d->n9 ρ=some bs'->(∀v H' xs',(∀b o,H b=some o->b≠a->H' b=some o)->H' a=some (.lst xs')->Gc K kd hid H H' v d xs' bs'->Q v H')->Q v H':=by
   intro v H' ρ d R h0 q;obtain⟨a',xs',m1,m2,m3⟩:=R.arg 0 _ (wV h0)
   have:a'=a:=by simpa using m1
   subst this;refine q v H' xs' (λb o z n=>R.kp b o z (by simpa using n)) m2 ?_
   cases kd with
   |b=>exact absurd rfl hkd
   |s=>exact⟨R.val,m3⟩
   |n=>
    obtain⟨p,ys,es,rfl,rfl,h1,h2,h3⟩:=R.val
    exact⟨p,ys,es,rfl,rfl,h1,h2,h3,m3⟩
  unfold uY at hM;cases e:t (nT N.length bs ds) with
  |nx ρ=>
   rw[e] at hM;intro σ' H' hid' sr _;cases kd with
   |b=>exact absurd rfl hkd
   |s=>
    dsimp only at hM;cases e0:n9 ρ with
    |none=>rw[e0] at hM;cases hM
    |some b=>
     rw[e0] at hM;cases hM;exact fin .non H' ρ .non (Da (k:=.s) (by decide) (sr.post (k:=.s) (Same.refl _) .non (by decide)) sr.h0) e0 q
   |n=>cases hM
  |rt d' ρ=>
   rw[e] at hM;dsimp only at hM;cases e0:n9 ρ with
   |none=>rw[e0] at hM;cases hM
   |some b=>
    rw[e0] at hM;cases hM;intro v H' R;exact fin v H' ρ _ R e0 q
  |bk ρ=>rw[e] at hM;cases hM
  |ct ρ=>rw[e] at hM;cases hM
  |no=>rw[e] at hM;cases hM
end
def vE(K:W.Frag):Sp:=λvs H Q _=> ∃(a:Addr) (ns:List Int),vs=[.ref a]/\SqR K H a (ns.map V.int)/\ns.length<=63/\ ∀H',Q (.bl true) H'
theorem p7 {K:W.Frag}{F:Hp}: ∀ns:List Int,Reps K F (ns.map V.int) (ns.map D.int)
 | []=>.nil
 |_::r=>.cons .int (p7 r)
theorem D5 {P:Program}{w:World}{K:W.Frag}{mg:Str->Option Value}{base:Heap}{f:Addr}{fd:FuncData}{x:Str}{k:Nat}{M:List D->Option D}(F:FnOk P w K mg base rO k f fd [x] (dU K .s 1 M))(hM: ∀ns:List Int,ns.length<=63->M [.scr (ns.map D.int)]=some (.bl true)):
 FnOk P w K mg base rO k f fd [x] (vE K):=F.imp λvs H Q E hq_=>by
 obtain⟨a,ns,e,hS,hl,q⟩:=hq_
 subst e;have hv:vw H (λ_=>false)=H:=by funext b;unfold vw;simp
 refine⟨λ_=>false,[.scr (ns.map D.int)],⟨(λb h=>nomatch h),(λb xs h=>nomatch h)⟩,?_,rfl,.bl true,hM ns hl,λv H' _ r=>?_⟩
 ·rw[hv];exact .cons (.scr hS (p7 ns)) .nil
 ·cases r;exact q H'
theorem walkD {l:W.OpenLaw}{k:Nat}{x:Str}{q:Program}{loose:List Str}{XP:(Str->Option Value)->Heap->Prop}{YP:World->Heap->Prop}{d:DefRec}{K:Params->W.Frag}(hn:l.most=some 63)(hdf:d.params.defaults=[])(hr:Room k callerA)
 (hY: ∀(w:World) (h:Heap),YP w h->(K w.params).In h)
 (F: ∀(w:World) (mg:Str->Option Value) (fa:Addr) (h:Heap),(K w.params).In h->h.Ns mainGlobals mg->mg d.name=some (.ref fa)->
   ∃fd:FuncData,(∀(s:Shared) (u:Value),BindsTo s fd ⟨[u],[]⟩ [(x,u)])/\ ∀base:Heap,(K w.params).In base->base.Ns mainGlobals mg->FnOk l.prog w (K w.params) mg base rO k fa fd [x] (vE (K w.params))):
 W.WalkO q loose XP YP l.row.toRowW d [] (λf vs=>PySem.call f vs):=
 L2.walk_of (n:=63) (k:=k) (x:=x) (CX:=λ_=>rO) (sp:=λw=>vE (K w.params)) hn (by decide) hdf hr hY F (λ_ H a ns hl hO hS=>⟨a,ns,rfl,hS.elim (λr=>r.elim (λe=>by rcases hO a with z|⟨o,xs,z⟩<;>rw[z] at e<;>cases e) .inl) .inr,hl,λ_=>rfl⟩) λ_ _ _ _ _ z=>z
def qD(cells:List (Str×Addr)):List (Str×NameKind)->List (Str×Addr)->List (Str×Addr)
 | [],acc=>acc
 |(n,k)::r,acc=>qD cells r (if k== .free then(match cells.lookup n with
  |some c=>(n,c)::acc
  |none=>acc) else acc)
theorem rD {cells:List (Str×Addr)}: ∀ {names:List (Str×NameKind)} {acc:List (Str×Addr)},(∀p∈acc,cells.lookup p.1=some p.2)-> ∀p∈qD cells names acc,cells.lookup p.1=some p.2
 | [],acc,h,p,hp=>h p hp
 |(n,k)::r,acc,h,p,hp=>by
  refine rD (names:=r) ?_ p hp
  intro q hq;split at hq
  ·split at hq
   ·rename_i c e
    rcases List.mem_cons.mp hq with rfl|hq
    ·exact e
    ·exact h q hq
   ·exact h q hq
  ·exact h q hq
theorem tY {cells:List (Str×Addr)}: ∀ {names:List (Str×NameKind)} {acc:List (Str×Addr)} (p:Str×Addr),p∈qD cells names acc->p∈acc\/(p.1,NameKind.free)∈names
 | [],acc,p,hp=>.inl hp
 |(n,k)::r,acc,p,hp=>by
  rcases tY (names:=r) p hp with hq|hq
  ·split at hq
   ·rename_i ek
    split at hq
    ·rcases List.mem_cons.mp hq with e|hq
     ·subst e
      have:k=.free:=by simpa using ek
      subst this;exact .inr List.mem_cons_self
     ·exact .inl hq
    ·exact .inl hq
   ·exact .inl hq
  ·exact .inr (List.mem_cons_of_mem _ hq)
theorem tP {cells:List (Str×Addr)}: ∀ {names:List (Str×NameKind)} {acc:List (Str×Addr)} {p:Str×Addr},p∈acc->p∈qD cells names acc
 | [],acc,p,h=>h
 |(n,k)::r,acc,p,h=>by
  refine tP (names:=r) ?_
  split
  ·split
   ·exact List.mem_cons_of_mem _ h
   ·exact h
  ·exact h
theorem vt {cells:List (Str×Addr)}{x:Str}{c:Addr}(hc:cells.lookup x=some c): ∀ {names:List (Str×NameKind)} {acc:List (Str×Addr)},(x,NameKind.free)∈names->(x,c)∈qD cells names acc
 | [],_,h=>nomatch h
 |(n,k)::r,acc,h=>by
  rcases List.mem_cons.mp h with e|h
  ·cases e
   refine tP (names:=r) ?_
   rw[if_pos (by rfl),hc]
   exact List.mem_cons_self
  ·exact vt hc (names:=r) h
theorem ph {l:List (Str×Addr)}{x:Str}{c:Addr}(h:(x,c)∈l)(u: ∀p∈l,p.1=x->p.2=c):l.lookup x=some c:=by
 induction l with
 |nil=>exact nomatch h
 |cons p r ih=>
  obtain⟨n,a⟩:=p
  rw[List.lookup_cons];cases e:x==n with
  |true=>
   have e':x=n:=eq_of_beq e
   have:=u (n,a) List.mem_cons_self e'.symm
   simpa using this
  |false=>
   have ne:x≠n:=λe'=>by rw[e'] at e;simp at e
   rcases List.mem_cons.mp h with e'|h
   ·cases e';exact absurd rfl ne
   ·exact ih h λp hp=>u p (List.mem_cons_of_mem _ hp)
theorem uo {cells:List (Str×Addr)}{names:List (Str×NameKind)}{x:Str}{c:Addr}(h:(qD cells names []).lookup x=some c):cells.lookup x=some c:=
 rD (names:=names) (acc:=[]) (λ_ z=>nomatch z) (x,c) (PySem.mem_of_lookup h)
theorem mT {cells:List (Str×Addr)}{names:List (Str×NameKind)}{x:Str}{c:Addr}(hc:cells.lookup x=some c)(hf:(x,NameKind.free)∈names):(qD cells names []).lookup x=some c:=
 ph (vt hc hf) λp hp e=>by
  have:=rD (names:=names) (acc:=[]) (λ_ z=>nomatch z) p hp
  rw[e,hc] at this;exact(Option.some.inj this).symm
theorem fh {scope:Scope}{env:Env}(h: ∀x,(x,NameKind.free)∈scope.names-> ∃c,env.cells.lookup x=some c):closureFor scope env=pure (qD env.cells scope.names []):=by
 unfold closureFor;have key: ∀(names:List (Str×NameKind)) (acc:List (Str×Addr)),(∀x,(x,NameKind.free)∈names-> ∃c,env.cells.lookup x=some c)->
  (forIn names acc (λ(p:Str×NameKind) (r:List (Str×Addr))=>match p with
    |(name,kind)=>if(kind==NameKind.free)=true then do
       let __do_lift <-cellOf env name
       pure (ForInStep.yield ((name,__do_lift)::r)) else pure (ForInStep.yield r)):Sem (List (Str×Addr)))=pure (qD env.cells names acc):=by
  intro names
  induction names with
  |nil=>intro acc _;rfl
  |cons p r ih=>
   intro acc h;obtain⟨n,k⟩:=p
   rw[List.forIn_cons];have hr: ∀x,(x,NameKind.free)∈r-> ∃c,env.cells.lookup x=some c:=λx hx=>h x (List.mem_cons_of_mem _ hx)
   cases e:k==NameKind.free with
   |false=>
    simp only[e,Bool.false_eq_true,if_false,pure_bind];rw[ih acc hr]
    conv=>rhs;unfold qD
    simp[e]
   |true=>
    have ek:k=.free:=by simpa using e
    subst ek;obtain⟨c,hc⟩:=h n List.mem_cons_self
    have ec:cellOf env n=pure c:=by unfold cellOf;rw[hc]
    simp only[beq_self_eq_true,if_true,ec,pure_bind];rw[ih _ hr]
    conv=>rhs;unfold qD
    simp[hc]
 have:=key scope.names [] h
 simp only[this,pure_bind]
theorem iI {sc:Scope}{env:Env}{x:Str}{k:NameKind}(h:(relabel sc env).names.lookup x=some k): ∃k0,sc.names.lookup x=some k0/\(k=k0\/(k0=.free/\k=.cell)):=by
 unfold relabel at h;dsimp only at h
 generalize sc.names=l at h⊢
 induction l with
 |nil=>simp at h
 |cons p r ih=>
  obtain⟨n,k1⟩:=p
  rw[List.map_cons] at h;dsimp only at h;rw[List.lookup_cons];cases hx:x==n with
  |true=>
   refine⟨k1,rfl,?_⟩
   split at h
   ·rename_i hc
    rw[List.lookup_cons] at h;simp only[hx] at h;cases h
    have:k1=.free:=by
     simp only[Bool.and_eq_true] at hc;exact eq_of_beq hc.1.1
    exact .inr ⟨this,rfl⟩
   ·rw[List.lookup_cons] at h
    simp only[hx] at h;cases h
    exact .inl rfl
  |false=>
   split at h
   ·rw[List.lookup_cons] at h;simp only[hx] at h;exact ih h
   ·rw[List.lookup_cons] at h;simp only[hx] at h;exact ih h
def ma(cells:List (Str×Addr))(scope:Scope)(C:Addr):List (Str×Addr):=cellsFrom (C+1) scope.names (qD cells scope.names [])
theorem bJ: ∀(names:List (Str×NameKind)) (n:Nat) (acc:List (Str×Addr)),cellsFrom n names acc=cellsFrom n names []++acc
 | [],_,_=>rfl
 |(name,kind)::r,n,acc=>by
  unfold cellsFrom;split
  ·rw[bJ r (n+1) ((name,n)::acc),bJ r (n+1) [(name,n)],List.append_assoc];rfl
  ·exact bJ r n acc
theorem qE: ∀ {names:List (Str×NameKind)} {n:Nat} {p:Str×Addr},p∈cellsFrom n names []->(p.1,NameKind.cell)∈names
 | [],_,_,h=>nomatch h
 |(name,kind)::r,n,p,h=>by
  unfold cellsFrom at h;split at h
  ·rename_i hk
   have hk':kind=.cell:=by simpa using hk
   subst hk';rw[bJ] at h;rcases List.mem_append.mp h with h|h
   ·exact List.mem_cons_of_mem _ (qE h)
   ·rw[List.mem_singleton.mp h];exact List.mem_cons_self
  ·exact List.mem_cons_of_mem _ (qE h)
theorem mz: ∀ {names:List (Str×NameKind)} {n:Nat} {x:Str},(x,NameKind.cell)∈names-> ∃c,(x,c)∈cellsFrom n names []
 | [],_,_,h=>nomatch h
 |(name,kind)::r,n,x,h=>by
  unfold cellsFrom;rcases List.mem_cons.mp h with e|h
  ·cases e
   rw[if_pos (by rfl),bJ]
   exact⟨n,List.mem_append_right _ List.mem_cons_self⟩
  ·split
   ·obtain⟨c,hc⟩:=mz (n:=n+1) h
    rw[bJ];exact⟨c,List.mem_append_left _ hc⟩
   ·exact mz h
theorem uO {l:List (Str×Addr)}{x:Str}{c:Addr}(h:(x,c)∈l): ∃c',l.lookup x=some c':=by
 induction l with
 |nil=>exact nomatch h
 |cons p r ih=>
  obtain⟨n,a⟩:=p
  rw[List.lookup_cons];cases e:x==n with
  |true=>exact⟨a,rfl⟩
  |false=>
   rcases List.mem_cons.mp h with e'|h
   ·cases e';simp at e
   ·exact ih h
theorem fF {cells:List (Str×Addr)}{sc:Scope}{C:Addr}{x:Str}{c:Addr}(h:(ma cells sc C).lookup x=some c):(x,c)∈cellsFrom (C+1) sc.names []\/(qD cells sc.names []).lookup x=some c:=by
 unfold ma at h;rw[bJ,List.lookup_append] at h;cases e:(cellsFrom (C+1) sc.names []).lookup x with
 |none=>rw[e] at h;exact .inr h
 |some c'=>rw[e] at h;cases h;exact .inl (PySem.mem_of_lookup e)
theorem yW {cells:List (Str×Addr)}{sc:Scope}{C:Addr}{x:Str}(h:(x,NameKind.cell)∈sc.names): ∃c,(ma cells sc C).lookup x=some c:=by
 obtain⟨c,hc⟩:=mz (n:=C+1) h
 obtain⟨c',e⟩:=uO hc
 exact⟨c',by unfold ma;rw[bJ,List.lookup_append,e];rfl⟩
theorem tW {cells:List (Str×Addr)}{sc:Scope}{C:Addr}{x:Str}(h:(x,NameKind.cell)∉sc.names):(ma cells sc C).lookup x=(qD cells sc.names []).lookup x:=by
 unfold ma;rw[bJ,List.lookup_append];cases e:(cellsFrom (C+1) sc.names []).lookup x with
 |none=>rfl
 |some c'=>exact absurd (qE (PySem.mem_of_lookup e)) h
theorem qH {M:Model}{A:Around}{E:Value->Shared->Prop}{s:Shared}{scope:Scope}{globals:Addr}{closure:List (Str×Addr)}{qual:Str}{outer:Env}{Q:Env->Shared->Prop}
 (hQ: ∀h',h'.Ns s.heap.objs.size (λ_=>none)->(∀b o,s.heap.get? b=some o->h'.get? b=some o)->CellsOk h' (s.heap.objs.size+1) (cellsFrom (s.heap.objs.size+1) scope.names [])->
   Q (newEnv scope s.heap.objs.size globals (cellsFrom (s.heap.objs.size+1) scope.names closure) qual none .none (some outer) builtinsNs) {s with heap:=h',toks:=s.toks}):
 wpAny M A (newFunctionEnv scope globals closure [] qual none .none (some outer)) Q E s:=by
 simp only[newFunctionEnv,Option.isSome_some,if_true];refine wpAny_bind (wpAny_alloc ?_)
 refine wpAny_bind (wpAny_layCells _ (λname kind cells=>by cases hkc:kind==NameKind.cell<;>simp[hkc]) _ _ _ _ ?_)
 have ok:=cellsFrom_ok scope.names (s.heap.push {cls:=.type "dict",data:=.dict #[]}) (s.heap.objs.size+1) [] ⟨λ_ _ hm=>(nomatch hm),List.Pairwise.nil⟩ (by rw[Heap.size_push];exact Nat.le_refl _)
 rw[Heap.size_push] at ok;rw[show({s with heap:=s.heap.push {cls:=.type "dict",data:=.dict #[]}}:Shared).heap.objs.size=s.heap.objs.size+1 from Heap.size_push ..]
 rw[List.forIn_nil];refine wpAny_bind (wpAny_pure (wpAny_pure ?_))
 exact hQ _ ((Heap.Ns.new s.heap (.type "dict")).keeps (pushCells_keeps _ _)) (λb o e=>pushCells_keeps _ _ b o (Heap.get?_push_of_some _ e)) ok
def aE(X:Cx)(N':List Str)(scope:Scope)(C:Addr)(s₀:Shared)(H₀:Hp)(ex:List Addr):Cx where
 prog:=X.prog
 w:=X.w
 K:=X.K
 mg:=X.mg
 base:=X.base
 A:=X.A
 N:=N'
 s₀:=s₀
 H₀:=H₀
 env:=compEnvC scope (ma X.env.cells scope C) C X.env
 outer:=X.stack
 stack:=X.stack
 ex:=ex
 fn:=λx=>scope.names.lookup x==some .local||scope.names.lookup x==some .cell
 calm:=X.calm
 pn:=[]
 xe:=λ_ _=>False
def ur(N N':List Str)(sc:Scope):Bool:=
 decide (N.length<=N'.length)&&((N'.take N.length).zip N).all (λp=>(p.1==p.2&& !(sc.names.lookup p.1==some .local)&& !(sc.names.lookup p.1==some .cell))||(sc.names.lookup p.1).isNone)&&
  (N'.drop N.length).all λx=>sc.names.lookup x==some .local||sc.names.lookup x==some .cell
def uc(sc:Scope)(outer:Scope):Bool:=
 sc.names.all λy=>(y.2 != .cell||sc.names.lookup y.1==some .cell)&&(y.2 != .local||sc.names.lookup y.1==some .local)&&(y.2 != .free||(sc.names.lookup y.1==some .free&&(outer.names.lookup y.1==some .cell||outer.names.lookup y.1==some .free)))
theorem tH {sc o:Scope}(h:uc sc o=true): ∀y∈sc.names,y.2=.cell->sc.names.lookup y.1=some .cell:=λy hy e=>by
 have:=List.all_eq_true.mp h y hy
 simpa [e] using this
theorem jZ {sc o:Scope}(h:uc sc o=true): ∀y∈sc.names,y.2=.local->sc.names.lookup y.1=some .local:=λy hy e=>by
 have:=List.all_eq_true.mp h y hy
 simpa [e] using this
theorem ig {sc o:Scope}(h:uc sc o=true): ∀x,(x,NameKind.free)∈sc.names->o.names.lookup x=some .cell\/o.names.lookup x=some .free:=λx hx=>by
 have:=List.all_eq_true.mp h _ hx
 simpa using (by simpa using this:_/\_).2
theorem p4 {sc o:Scope}(h:uc sc o=true): ∀x,(x,NameKind.free)∈sc.names->sc.names.lookup x=some .free:=λx hx=>by
 have:=List.all_eq_true.mp h _ hx
 simpa using (by simpa using this:_/\_).1
theorem w6 {N N':List Str}{sc:Scope}(h:ur N N' sc=true){i:Nat}{x:Str}(hi:i<N.length)(e:N'[i]? =some x)(hv: ∃k,sc.names.lookup x=some k/\(k=.local\/k=.cell\/k=.free)):N[i]? =some x/\sc.names.lookup x=some .free:=by
 unfold ur at h;simp only[Bool.and_eq_true,decide_eq_true_eq] at h;obtain⟨⟨h1,h2⟩,_⟩:=h
 have hN:N[i]? =some N[i]:=List.getElem?_eq_getElem hi
 have e1:(N'.take N.length)[i]? =some x:=by rw[List.getElem?_take_of_lt hi];exact e
 have hm:(x,N[i])∈(N'.take N.length).zip N:=by
  refine List.mem_of_getElem? (i:=i) ?_
  rw[List.getElem?_zip_eq_some];exact⟨e1,hN⟩
 have:=List.all_eq_true.mp h2 _ hm
 obtain⟨k,hk,hk2⟩:=hv
 dsimp only at this;rw[hk] at this;simp only[Option.isNone_some,Bool.or_false,Bool.and_eq_true,Bool.not_eq_true'] at this;obtain⟨⟨t1,t2⟩,t3⟩:=this
 have ex:x=N[i]:=eq_of_beq t1
 rcases hk2 with rfl|rfl|rfl
 ·simp at t2
 ·simp at t3
 ·exact⟨by rw[hN,<-ex],hk⟩
theorem CA {N N':List Str}{sc:Scope}(h:ur N N' sc=true):N.length<=N'.length:=by
 unfold ur at h;simp only[Bool.and_eq_true,decide_eq_true_eq] at h;exact h.1.1
section
variable {X:Cx}{ae:List (Addr×Obj)}{σ:St}{H:Hp}{s:Shared}{scope:Scope}{N':List Str}{fp:List Addr}
theorem xC(I:Inv X ae σ H s){b:Addr}(f:iY X ae H b):b∉pS X.stack:=λz=>by
 rcases List.mem_cons.mp (I.stkSub b z) with e|z
 ·exact f.2.1 e
 ·exact f.2.2.1 z
theorem nO {h':Heap}{tk:Nat}(I:Inv X ae σ H s)(hF: ∀b∈fp,iY X ae H b)(hO: ∀b∈fp,∃o,s.heap.get? b=some o)(hk:scope.kind=.function)(hs:uc scope X.env.scope=true)(hn:ur X.N N' scope=true)
 (ns:h'.Ns s.heap.objs.size λ_=>none) (kp: ∀b o,s.heap.get? b=some o->h'.get? b=some o) (oc:CellsOk h' (s.heap.objs.size+1) (cellsFrom (s.heap.objs.size+1) scope.names [])):
 Inv (aE X N' scope s.heap.objs.size s H fp) [] (σ++List.replicate (N'.length-X.N.length) none) H {s with heap:=h',toks:=tk}:=by
 have hlen:=CA hn
 have cl: ∀x c,(qD X.env.cells scope.names []).lookup x=some c->X.env.cells.lookup x=some c:=λx c e=>uo e
 have clt: ∀x c,(qD X.env.cells scope.names []).lookup x=some c->c<s.heap.objs.size:=λx c e=>let⟨_,z⟩:=I.cell x c (cl x c e);z.lt
 have newC:H s.heap.objs.size=none:=I.hok.fresh (Nat.le_refl _)
 refine⟨⟨I.ok.mod,hk,I.ok.glob,I.ok.blt,Nat.le_refl _,λx y c h1 h2=>?_,λx hx=>?_,λx c h1 h2=>?_,I.ok.hd,I.ok.frames,.inl rfl,λb hb=>⟨?_,λx c e=>?_⟩,I.bs,Nat.le_trans I.ok.bsz I.sz,λb o e hb=>?_,λb hb=>xC I (hF b hb),I.stack,I.stkFree⟩,
  rfl,I.bare,Un.kept kp,⟨_,ns,λi x v e1 e2 e3=>?_⟩,λx c e=>?_,newC,λx c e=>?_,λp hp=>absurd (show p∈([]:List (Addr×Obj)) from hp) (by simp),I.hok.kept kp,?_⟩
 ·
  rcases fF h1 with h1|h1<;>rcases fF h2 with h2|h2
  ·exact name_of_addr oc.apart h1 h2
  ·exact absurd (clt y c h2) (Nat.not_lt.mpr (Nat.le_of_succ_le (oc.empty _ _ h1).2))
  ·exact absurd (clt x c h1) (Nat.not_lt.mpr (Nat.le_of_succ_le (oc.empty _ _ h2).2))
  ·exact I.ok.inj x y c (cl x c h1) (cl y c h2)
 ·
  have hx':(relabel scope X.env).names.lookup x=some .cell\/(relabel scope X.env).names.lookup x=some .free:=hx
  have:(x,NameKind.cell)∈scope.names\/(x,NameKind.free)∈scope.names:=by
   rcases hx' with hx'|hx'
   ·obtain⟨k0,e0,e1|⟨e1,_⟩⟩:=iI hx'
    ·subst e1;exact .inl (PySem.mem_of_lookup e0)
    ·subst e1;exact .inr (PySem.mem_of_lookup e0)
   ·obtain⟨k0,e0,e1|⟨_,e1⟩⟩:=iI hx'
    ·subst e1;exact .inr (PySem.mem_of_lookup e0)
    ·cases e1
  rcases this with this|this
  ·exact yW this
  ·have hc:=ig hs x this
   obtain⟨c,e⟩:=I.ok.has x hc
   exact⟨c,(tW λz=>by have z1:=tH hs _ z rfl;have z2:=p4 hs x this;rw[z2] at z1;cases z1).trans (mT e this)⟩
 ·
  have h1':scope.names.lookup x=some .local\/scope.names.lookup x=some .cell:=by
   have h1:(scope.names.lookup x==some .local||scope.names.lookup x==some .cell)=true:=h1
   simpa using h1
  rcases fF h2 with h2|h2
  ·exact Nat.le_of_succ_le (oc.empty _ _ h2).2
  ·exfalso
   rcases tY _ (PySem.mem_of_lookup h2) with z|z
   ·exact nomatch z
   ·rw[p4 hs x z] at h1';rcases h1' with h1'|h1'<;>cases h1'
 ·obtain⟨o,e⟩:=hO b hb
  exact Nat.ne_of_lt (Heap.lt_size e)
 ·rcases fF e with e|e
  ·obtain⟨o,e'⟩:=hO b hb
   exact λz=>absurd (Heap.lt_size e') (Nat.not_lt.mpr (z▸Nat.le_of_succ_le (oc.empty _ _ e).2))
  ·exact(hF b hb).2.2.2.2.1 x c (cl x c e)
 ·obtain⟨_,_,_,h4,_⟩:=hF b hb
  rcases h4 with h4|h4
  ·exact I.ok.noex b o e h4
  ·exact absurd (Nat.lt_of_lt_of_le (Heap.lt_size e) (Nat.le_trans I.ok.bsz h4)) (Nat.lt_irrefl _)
 ·have hi:i<X.N.length:=by
   by_cases hi:i<σ.length
   ·rw[<-I.len];exact hi
   ·rw[List.getElem?_append_right (by omega),List.getElem?_replicate] at e2
    split at e2<;>cases e2
  rw[List.getElem?_append_left (by rw[I.len];exact hi)] at e2
  have e3':(relabel scope X.env).names.lookup x=some .local\/(relabel scope X.env).names.lookup x=some .cell\/(relabel scope X.env).names.lookup x=some .free:=e3
  have hv: ∃k,scope.names.lookup x=some k/\(k=.local\/k=.cell\/k=.free):=by
   rcases e3' with z|z|z
   all_goals
    obtain⟨k0,q0,q1|⟨q1,q2⟩⟩:=iI z
    ·subst q1;exact⟨_,q0,by simp⟩
    ·subst q1;exact⟨_,q0,by simp⟩
  obtain⟨hN,hf⟩:=w6 hn hi e1 hv
  have hfm:=PySem.mem_of_lookup hf
  have hc:=ig hs x hfm
  have nc:(x,NameKind.cell)∉scope.names:=λz=>by have z1:=tH hs _ z rfl;rw[hf] at z1;cases z1
  obtain⟨m,hm,hl⟩:=I.loc
  obtain⟨u,r,l⟩:=hl i x v hN e2 (.inr hc)
  refine⟨u,r,.inr ⟨?_,?_⟩⟩
  ·show(relabel scope X.env).names.lookup x=some .cell\/(relabel scope X.env).names.lookup x=some .free
   rcases e3' with z|z|z
   ·obtain⟨k0,q0,q1|⟨q1,q2⟩⟩:=iI z
    ·subst q1;rw[hf] at q0;cases q0
    ·cases q2
   ·exact .inl z
   ·exact .inr z
  ·rcases l with⟨l,_⟩|⟨_,c,ec,z⟩
   ·have l':X.env.scope.names.lookup x=some .local:=l
    rcases hc with hc|hc<;>rw[hc] at l'<;>cases l'
   ·exact⟨c,(tW nc).trans (mT ec hfm),z.keeps kp⟩
 ·rcases fF e with e|e
  ·exact⟨_,(oc.empty _ _ e).1⟩
  ·obtain⟨v,z⟩:=I.cell x c (cl x c e)
   exact⟨v,z.keeps kp⟩
 ·rcases fF e with e|e
  ·exact I.hok.fresh (Nat.le_of_succ_le (oc.empty _ _ e).2)
  ·exact I.freeC x c (cl x c e)
 ·show(σ++_).length=N'.length
  rw[List.length_append,List.length_replicate,I.len];omega
end
def Hs(K:W.Frag)(c:Ct)(hid:bK)(f:FA)(ρ:aF):TI:=λσ H R=>SR K c hid ρ σ H/\ ∃ds,f ρ=some ds/\ ∀J H',Same H H'->ItOk K (vw H' hid) J ds->R J H'
def DIp(X:Cx)(c:Ct)(tg iter:Expr)(f:FA):Prop:= ∀hid ρ,PI X tg iter (Hs X.K c hid f ρ)
def Cq(K:W.Frag)(L W:Hp)(J:It)(ds:List D):Prop:=
 (∀(i:Nat) (d:D) (H:Hp),ds[i]? =some d->Same L H->Same W H->J.go i H/\ ∀x H',J.yld i H x H'->Same H H'/\ ∀hid:bK,(∀b,hid b=true-> ∃o,H b=some o)->Same W (vw H hid)->Rep K (vw H' hid) x d)/\ ∀H,Same L H->Same W H->J.stop ds.length H
theorem ItOk.b {K:W.Frag}{L W:Hp}{J:It}{ds:List D}(h:ItOk K W J ds):Cq K L W J ds:=⟨λi d H e _ w=>h.1 i d H e w,λH _ w=>h.2 H w⟩
def Io(K:W.Frag)(c:Ct)(hid:bK)(f:FA)(ρ:aF):TI:=λσ H R=>SR K c hid ρ σ H/\ ∃ds,f ρ=some ds/\ ∀J H',Same H H'->Cq K H' (vw H' hid) J ds->R J H'
def Es(X:Cx)(c:Ct)(tg iter:Expr)(f:FA):Prop:= ∀hid ρ,PI X tg iter (Io X.K c hid f ρ)
section
variable {X:Cx}{c:Ct}{k:Kd}{tg iter:Expr}{pos:Pos}
theorem DIp.b {f:FA}(h:DIp X c tg iter f):Es X c tg iter f:=λhid ρ=>PI.imp (h hid ρ) λσ H R ⟨sr,ds,e,q⟩=>⟨sr,ds,e,λJ H' s io=>q J H' s io.b⟩
theorem DIp.e {f:FA}(h:DIp X c tg iter f):DI X c tg iter (bL f):=λhid ρ=>PI.imp (h hid ρ) λσ H R hq_=>by
 obtain⟨sr,ds,ρ',e,q⟩:=hq_
 obtain⟨e1,rfl⟩:=s0 e
 exact⟨sr,ds,e1,λJ H' s io=>q J H' (.of s) (sr.ext s) io⟩
def m9(f:FE):FA:=λρ=>(f ρ).bind λd=>match d with
 | .lst ds=>some ds
 |_=>none
def BU(f:FE):FA:=λρ=>(f ρ).bind λd=>match d with
 | .tup ds=>some ds
 |_=>none
theorem pQ {f:FE}{ρ:aF}{ds:List D}(h:m9 f ρ=some ds):f ρ=some (.lst ds):=by
 unfold m9 at h;cases e:f ρ with
 |none=>rw[e] at h;cases h
 |some d=>
  rw[e] at h;cases d with
  |lst z=>cases h;rfl
  |_=>cases h
theorem xw {f:FE}{ρ:aF}{ds:List D}(h:BU f ρ=some ds):f ρ=some (.tup ds):=by
 unfold BU at h;cases e:f ρ with
 |none=>rw[e] at h;cases h
 |some d=>
  rw[e] at h;cases d with
  |tup z=>cases h;rfl
  |_=>cases h
theorem zV {K:W.Frag}{W:Hp}{a:Addr}{xs:List V}{ds:List D}(h1:SqL K W a xs)(h2:Reps K W xs ds):ItOk K W (Hz K a) ds:=by
 refine⟨λi d H e s=>?_,λH s=>⟨_,s.seq h1,by rw[h2.length];exact Nat.le_refl _⟩⟩
 obtain⟨x,e1,r1⟩:=h2.get e
 refine⟨⟨_,x,s.seq h1,e1⟩,λy H' ⟨e2,e3⟩=>?_⟩
 subst e2;have:=e3 _ (s.seq h1)
 rw[e1] at this;cases this;exact⟨Same.refl _,λhid _ sw=>r1.mono sw⟩
theorem sU {f:FE}(h:DP X c .s iter f):DIp X c tg iter (m9 f):=λhid ρ=>PI.imp (qk (h hid ρ)) λσ H R hq_=>by
 obtain⟨sr,ds,e,q⟩:=hq_
 refine⟨sr,_,pQ e,λv H' s' r=>?_⟩
 cases r with
 |lst h1 h2=>have h1:=SqL.of (K:=X.K) h1;exact⟨_,rfl,⟨_,(dY _ _).seq h1⟩,q _ H' s' (zV h1 h2)⟩
theorem y9 {f:FE}(h:DP X c .b iter f):Es X c tg iter (m9 f):=λhid ρ=>PI.imp (qk (h hid ρ)) λσ H R hq_=>by
 obtain⟨sr,ds,e,q⟩:=hq_
 refine⟨sr,_,pQ e,λv H' s' r=>?_⟩
 obtain⟨a,xs,rfl,h1,h2⟩:=Rep1.lst r
 refine⟨a,rfl,⟨_,h1⟩,q _ H' s' ⟨λi d H e s w=>?_,λH s w=>⟨_,s.seq h1,by rw[h2.length];exact Nat.le_refl _⟩⟩⟩
 obtain⟨x,e1,r1⟩:=h2.get e
 refine⟨⟨_,x,s.seq h1,e1⟩,λy H' ⟨e2,e3⟩=>?_⟩
 subst e2;have:=e3 _ (s.seq h1)
 rw[e1] at this;cases this;exact⟨Same.refl _,λhid _ sw=>r1.mono sw⟩
theorem CV {f:FE}(h:DP X c .s iter f):DIp X c tg iter (BU f):=λhid ρ=>PI.imp (EV (h hid ρ)) λσ H R hq_=>by
 obtain⟨sr,ds,e,q⟩:=hq_
 refine⟨sr,_,xw e,λv H' s' r=>?_⟩
 cases r with
 |tup h1 h2=>exact⟨_,rfl,⟨_,Same.seqT (dY _ _) h1⟩,q _ H' s' (An h1 h2)⟩
def cS(f:FA):FA:=λρ=>(f ρ).bind λds=>match ds with
 | [.int j]=>if j.natAbs<4000000000 then some (o6 0 j.toNat) else none
 |_=>none
def oD(f:FA):FA:=λρ=>(f ρ).bind λds=>match ds with
 | [.int i,.int j]=>if i.natAbs<4000000000/\j.natAbs<4000000000 then some (o6 i (j-i).toNat) else none
 |_=>none
theorem cB {a:Expr}{f:FA}{p:Pos}(hm:X.mg "range"=none)(ha:DA X c [a] f)(hg:Gl X "range":=by rfl)(hs:starEach [a] X.env=[(false,eval a X.env)]:=by rfl):DIp X c tg (.Call (.Name "range" p) [a] [] pos) (cS f):=λhid ρ=>
 PI.imp (qb hg hm (ha hid ρ) hs) λσ H R hq_=>by
  obtain⟨sr,ds,e,q⟩:=hq_
  unfold cS at e;cases e1:f ρ with
  |none=>rw[e1] at e;cases e
  |some z=>
   rw[e1] at e;dsimp only[Option.bind] at e;split at e
   ·split at e
    ·cases e
     refine⟨sr,_,e1,λvs H' s' r=>?_⟩
     cases r with
     |cons r t=>cases t;cases r;exact⟨_,rfl,by omega,by omega,q _ H' s' kn⟩
    ·cases e
   ·cases e
theorem ug {a b:Expr}{f:FA}{p:Pos}(hm:X.mg "range"=none)(ha:DA X c [a,b] f)(hg:Gl X "range":=by rfl)(hs:starEach [a,b] X.env=[(false,eval a X.env),(false,eval b X.env)]:=by rfl)(hs2:starEach [b] X.env=[(false,eval b X.env)]:=by rfl):DIp X c tg (.Call (.Name "range" p) [a,b] [] pos) (oD f):=λhid ρ=>
 PI.imp (xQ hg hm (ha hid ρ) hs hs2) λσ H R hq_=>by
  obtain⟨sr,ds,e,q⟩:=hq_
  unfold oD at e;cases e1:f ρ with
  |none=>rw[e1] at e;cases e
  |some z=>
   rw[e1] at e;dsimp only[Option.bind] at e;split at e
   ·split at e
    ·cases e
     refine⟨sr,_,e1,λvs H' s' r=>?_⟩
     cases r with
     |cons r t=>cases t with
      |cons r' t=>cases t;cases r;cases r';exact⟨_,_,rfl,by omega,q _ H' s' kn⟩
    ·cases e
   ·cases e
def kW(ifs:List Expr)(env:Env):Sem Bool:=forIn ifs true λc r=>if r=true then do let ok <-isTrue c env (eval c env);pure (ForInStep.yield ok) else pure (ForInStep.yield r)
def rM(X:Cx)(c:Ct)(ifs:List Expr)(p:FT):Prop:= ∀hid ρ (ae:List (Addr×Obj)) (s:Shared) (σ:St) (H:Hp) (Q:Bool->Hp->Prop),Inv X ae σ H s->HK X.K c hid p ρ σ H Q->wpAny (model X.prog X.w) X.A (kW ifs X.env) (TP X ae σ Q) X.xe s
def ft:FT:=λ_=>some true
theorem gJ:rM X c [] ft:=λhid ρ ae s σ H Q I hq_=>by
 obtain⟨sr,d,e,q⟩:=hq_
 cases e
 exact wpAny_tests_nil ⟨H,I,q H (Same.refl _)⟩
theorem jY {e:Expr}{p:FT}(h:DT X c e p):rM X c [e] p:=λhid ρ ae s σ H Q I q=>wpAny_tests_one (h hid ρ ae s σ H Q I q)
end
theorem eZ {prog:Program}{w:World}{A:Around}{R:Result->Shared->Prop}{s:Shared}{elt target iter:Expr}{ifs:List Expr}{scope:Scope}{pos:Pos}{it acc:Value}{env:Env}(I:Nat->Shared->Prop)
 (turn: ∀n s,I n s->wpAny (model prog w) A (pyNext it) (λr s₁=>match r with
   |none=>R (.ok .next) s₁
   |some v=>wpAny (model prog w) A (letOwnedTupleGo target it v) (λ_ s₁=>wpAny (model prog w) A (assign target env v) (λ_ s₂=>
     wpAny (model prog w) A (kW ifs env) (λok s₃=>
      if ok=true then wpAny (model prog w) A (eval elt env) (λx s₄=>
       wpAny (model prog w) A (call (.builtin "list.append") [acc,x]) (λ_ s₅=> ∃m,m<n/\I m s₅) (λ_ _=>False) s₄) (λ_ _=>False) s₃
      else∃m,m<n/\I m s₃) (λ_ _=>False) s₂) (λ_ _=>False) s₁) (λ_ _=>False) s₁) (λ_ _=>False) s)
 (n:Nat) (h:I n s):
 codeAny (model prog w) A (.compLoop (.ListComp elt [⟨target,iter,ifs,0⟩] scope pos) 0 it acc env) R s:=by
 have no: ∀ {E':Value->Shared->Prop} (x:Value) (s:Shared),False->E' x s:=λ_ _ z=>z.elim
 refine codeAny_loop rfl I (λn s hI=>?_) n h
 show wpAny _ A ((compTurn (.ListComp elt [⟨target,iter,ifs,0⟩] scope pos) 0 it acc env).onRaise (λx=>do noteFrame x env;theTreesLotGoes x)) _ _ s
 refine wpAny_noted ?_
 rw[compTurn_list];refine wpAny_bind (wpAny_standAt (wpAny_bind (wpAny_mono (turn n s hI) (λr s₁ h₁=>?_) no)))
 cases r with
 |none=>exact wpAny_pure h₁
 |some v=>
  refine wpAny_bind (wpAny_mono h₁ (λ_ s₁ h₁=>?_) no)
  refine wpAny_bind (wpAny_mono h₁ (λ_ s₂ h₂=>wpAny_bind (wpAny_mono h₂ (λok s₃ h₃=>?_) no)) no)
  cases ok with
  |false=>exact wpAny_pure ⟨rfl,h₃⟩
  |true=>
   exact wpAny_bind (wpAny_bind (wpAny_mono h₃ (λx s₄ h₄=>wpAny_bind (wpAny_mono h₄ (λ_ s₅ h₅=>wpAny_pure (wpAny_pure ⟨rfl,h₅⟩)) no)) no))
def dw(g:FG)(p:FT)(f:FE)(ρ0:aF):List D->Option (List D)
 | []=>some []
 |d::r=>(g d ρ0).bind λρ1=>(p ρ1).bind λb=>if b=true then(f ρ1).bind λy=>(dw g p f ρ0 r).map (y:: ·) else dw g p f ρ0 r
def cy(m:Nat)(gi:FA)(g:FG)(p:FT)(f:FE):FE:=λρ=>(gi ρ).bind λds=>if ds.length<=sizeLine then(dw g p f (ρ++List.replicate m .no) ds).map D.lst else none
theorem nP {m:Nat}{gi:FA}{g:FG}{p:FT}{f:FE}{ρ:aF}{d:D}(h:cy m gi g p f ρ=some d): ∃ds ys,gi ρ=some ds/\ds.length<=sizeLine/\dw g p f (ρ++List.replicate m .no) ds=some ys/\d=.lst ys:=by
 unfold cy at h;cases e1:gi ρ with
 |none=>rw[e1] at h;cases h
 |some ds=>
  rw[e1] at h;dsimp only[Option.bind] at h;split at h
  ·cases e2:dw g p f (ρ++List.replicate m .no) ds with
   |none=>rw[e2] at h;cases h
   |some ys=>rw[e2] at h;cases h;exact⟨ds,ys,rfl, ‹_›,e2,rfl⟩
  ·cases h
def jA(n:Nat)(g:FG):Prop:= ∀d (ρ0 ρ1:aF),g d ρ0=some ρ1->ρ1.length=ρ0.length/\ ∀i:Nat,i<n->ρ1[i]? =ρ0[i]?
theorem fm {n i:Nat}(h:n<=i):jA n (gN i):=λd ρ0 ρ1 e=>by
 cases e
 exact⟨by simp,λj hj=>List.getElem?_set_ne (by omega)⟩
theorem SR.forget {K:W.Frag}{c:Ct}{hid:bK}{ρ0 ρ1:aF}{σ:St}{H:Hp}(h:SR K c hid ρ1 σ H)(hl:ρ1.length=ρ0.length)(hs: ∀(i:Nat) (s:Sl),ρ0[i]? =some s->s=.no\/ρ1[i]? =some s):SR K c hid ρ0 σ H:=by
 have ow: ∀i:Nat,Ow ρ0[i]? ->Ow ρ1[i]? :=λi o=>by
  cases e:ρ0[i]? with
  |none=>rw[e] at o;exact o.elim
  |some s=>
   rcases hs i s e with rfl|z
   ·rw[e] at o;exact o.elim
   ·rw[z,<-e];exact o
 refine⟨h.tr,h.ht,h.h0,h.kp,h.t0,h.c0,h.m0,h.len.trans hl,λi s e=>?_,λi j a n o1 o2=>h.ap i j a n (ow i o1) (ow j o2)⟩
 rcases hs i s e with rfl|z
 ·trivial
 ·exact h.sl i s z
theorem SR.more {K:W.Frag}{c:Ct}{hid:bK}{ρ:aF}{σ:St}{H:Hp}(h:SR K c hid ρ σ H)(m:Nat):SR K c hid (ρ++List.replicate m .no) (σ++List.replicate m none) H:=by
 have lt: ∀ {i:Nat},Ow (ρ++List.replicate m Sl.no)[i]? ->i<ρ.length:=λ{i} o=>by
  by_cases hi:i<ρ.length
  ·exact hi
  ·rw[List.getElem?_append_right (by omega),List.getElem?_replicate] at o
   split at o<;>exact o.elim
 refine⟨h.tr,h.ht,h.h0,h.kp,h.t0,h.c0,h.m0,by simp[h.len],λi s e=>?_,λi j a n o1 o2 q1 q2=>?_⟩
 ·by_cases hi:i<ρ.length
  ·rw[List.getElem?_append_left hi] at e
   have z:=h.sl i s e
   have es:(σ++List.replicate m none)[i]? =σ[i]? :=List.getElem?_append_left (by rw[h.len];exact hi)
   cases s with
   |no=>trivial
   |v d=>obtain⟨x,h1,h2⟩:=z;exact⟨x,es.trans h1,h2⟩
   |own ds=>obtain⟨a,xs,h1,h2⟩:=z;exact⟨a,xs,es.trans h1,h2⟩
   |arg ds=>obtain⟨a,xs,h1,h2⟩:=z;exact⟨a,xs,es.trans h1,h2⟩
   |ob b=>obtain⟨a,h1,h2⟩:=z;exact⟨a,es.trans h1,h2⟩
  ·rw[List.getElem?_append_right (by omega),List.getElem?_replicate] at e
   split at e
   ·cases e;trivial
   ·cases e
 ·have l1:=lt o1
  have l2:=lt o2
  rw[List.getElem?_append_left l1] at o1;rw[List.getElem?_append_left l2] at o2;rw[List.getElem?_append_left (by rw[h.len];exact l1)] at q1
  rw[List.getElem?_append_left (by rw[h.len];exact l2)] at q2
  exact h.ap i j a n o1 o2 q1 q2
section
variable {X:Cx}{c:Ct}{elt tg iter:Expr}{ifs:List Expr}{scope:Scope}{pos:Pos}{N':List Str}{m:Nat}{gi:FA}{g:FG}{p:FT}{f:FE}
theorem SR.write {K:W.Frag}{hid:bK}{ρ:aF}{σ:St}{H:Hp}{a:Addr}{o':HO}(h:SR K c hid ρ σ H)(hh:hid a=true)(h0:c.H₀ a=none)(na: ∀i:Nat,Ow ρ[i]? ->σ[i]? ≠some (some (.ref a)))(hn: ∀xs,o'≠ .tup xs:=by intro _ e;cases e):SR K c hid ρ σ (bM H a o'):=by
 have tr': ∀b o,H b=some o-> ∃o2,(bM H a o') b=some o2:=λb o q=>by
  by_cases e:b=a
  ·subst e;exact⟨_,aK⟩
  ·exact⟨o,by rw[aH e];exact q⟩
 refine⟨λb hb=>let⟨o,q⟩:=h.tr b hb;tr' b o q,λb xs hb q=>by
  by_cases e:b=a
  ·subst e;rw[aK] at q;exact hn _ (Option.some.inj q)
  ·rw[aH e] at q;exact h.ht b xs hb q,h.h0,λb o q m=>?_,λb o q=>let⟨o2,q2⟩:=h.t0 b o q;tr' b o2 q2,h.c0,h.m0,h.len,λi s e=>?_,h.ap⟩
 ·rw[aH (bd q h0)];exact h.kp b o q m
 ·have z:=h.sl i s e
  have ne: ∀a',Ow ρ[i]? ->σ[i]? =some (some (.ref a'))->a'≠a:=λa' o q w=>by subst w;exact na i o q
  cases s with
  |no=>trivial
  |v d=>obtain⟨x,h1,h2⟩:=z;exact⟨x,h1,by rw[eD hh];exact h2⟩
  |own ds=>obtain⟨a',xs,h1,h2,h3,h4,h5⟩:=z;exact⟨a',xs,h1,by rw[aH (ne a' (by rw[e];trivial) h1)];exact h2,h3,h4,by rw[eD hh];exact h5⟩
  |arg ds=>obtain⟨a',xs,h1,h2,h3,h4,h5⟩:=z;exact⟨a',xs,h1,by rw[aH (ne a' (by rw[e];trivial) h1)];exact h2,h3,h4,by rw[eD hh];exact h5⟩
  |ob b=>obtain⟨a',h1,h2⟩:=z;exact⟨a',h1,h2.mono (λow o q=>by rw[aH (ne a' (by rw[e];exact ow) h1)];exact q) (by rw[eD hh];exact Same.refl _) λ_ q=>q⟩
structure CLI(Y:Cx)(K:W.Frag)(c:Ct)(hid:bK)(ρ0:aF)(H W:Hp)(D0:Addr)(fp:List Addr)(tn:Nat->Heap->Prop)(g:FG)(p:FT)(f:FE)(ds ys:List D)(n i:Nat)(xs:List V)(ad:List D)(σ':St)(H':Hp)(s':Shared):Prop where
 e:n=ds.length-i
 hi:i<=ds.length
 I:Inv Y [] σ' H' s'
 st:tn i s'.heap
 fr: ∀b∈fp,H' b=none
 sr:SR K c hid ρ0 σ' H'
 sm:Same H H'
 ac:H' D0=some (.lst xs)
 rp:Reps K (vw H' hid) xs ad
 w:Same W (vw H' hid)
 hl:xs.length<=i
 na: ∀i:Nat,Ow ρ0[i]? ->σ'[i]? ≠some (some (.ref D0))
 go: ∃rest,dw g p f ρ0 (ds.drop i)=some rest/\ad++rest=ys
theorem xK(hcalm:X.calm=true)(hT:jA X.N.length g)
 (hg: ∀C s₀ H₀ ex,oP (aE X N' scope C s₀ H₀ ex) c tg g) (hp: ∀C s₀ H₀ ex,rM (aE X N' scope C s₀ H₀ ex) c ifs p) (he: ∀C s₀ H₀ ex,DP (aE X N' scope C s₀ H₀ ex) c .s elt f)
 {σ3:St} {H H3:Hp} {s3 s4:Shared} {hid:bK} {ρ:aF} {J:It} {it D0 C:Addr} {fp:List Addr} {tn:Nat->Heap->Prop} {ds ys:List D} {R:Result->Shared->Prop} {W:Hp} (hρ:ρ.length=X.N.length)
 (I:Inv (aE X N' scope C s3 H3 fp) [] σ3 H3 s4) (sr:SR X.K c hid (ρ++List.replicate m .no) σ3 H3) (hh:hid D0=true) (h00:c.H₀ D0=none) (na: ∀i:Nat,Ow (ρ++List.replicate m Sl.no)[i]? ->σ3[i]? ≠some (some (.ref D0))) (hacc:H3 D0=some (.lst [])) (sm:Same H H3) (nD:H D0=none) (wv:Same W (vw H3 hid)) (T:Turn X.prog X.w X.K tg J fp it tn) (st:tn 0 s4.heap) (hF: ∀b∈fp,H3 b=none)
 (io:Cq X.K H W J ds) (hz:ds.length<=sizeLine) (hc:dw g p f (ρ++List.replicate m .no) ds=some ys)
 (hR: ∀(s':Shared) (σ':St) (H':Hp) (xs:List V),Inv (aE X N' scope C s3 H3 fp) [] σ' H' s'->Same H H'->H' D0=some (.lst xs)->Reps X.K (vw H' hid) xs ys->R (.ok .next) s'):
 codeAny (model X.prog X.w) X.A (.compLoop (.ListComp elt [⟨tg,iter,ifs,0⟩] scope pos) 0 (.ref it) (.ref D0) (compEnvC scope (ma X.env.cells scope C) C X.env)) R s4:=by
 have stat: ∀ {ae:List (Addr×Obj)} {H':Hp},(∀q∈ae,q.1∉fp)->(∀b∈fp,H' b=none)-> ∀b∈fp,iY (aE X N' scope C s3 H3 fp) ae H' b:=λ{ae H'} hpn hn b hb=>
  ⟨hn b hb,(I.ok.exf b hb).1,I.ok.exfs b hb,.inl hb,(I.ok.exf b hb).2,λq hq e=>hpn q (by have hq':q∈([]:List (Addr×Obj))++ae:=hq;simpa using hq') (by rw[e];exact hb)⟩
 have no: ∀q∈([]:List (Addr×Obj)),q.1∉fp:=λq hq=>nomatch hq
 refine eZ (λn s'=> ∃(i:Nat) (xs:List V) (ad:List D) (σ':St) (H':Hp),CLI (aE X N' scope C s3 H3 fp) X.K c hid (ρ++List.replicate m .no) H W D0 fp tn g p f ds ys n i xs ad σ' H' s') ?_ ds.length
  ⟨0,[],[],σ3,H3,by simp,Nat.zero_le _,I,st,hF,sr,sm,hacc,.nil,wv,Nat.zero_le _,na,ys,by simpa using hc,rfl⟩
 rintro n s5 ⟨i,xs,ad,σ5,H5,rfl,hi,I5,st5,f5,sr5,sm5,ac5,rp5,w5,hl5,na5,rest,hc5,hy5⟩
 have wH:Same W H5:=w5.trans (dY _ _)
 by_cases hlt:i<ds.length
 ·have hd:ds[i]? =some ds[i]:=List.getElem?_eq_getElem hlt
  have e2:ds.drop i=ds[i]::ds.drop (i+1):=List.drop_eq_getElem_cons hlt
  rw[e2] at hc5;unfold dw at hc5;obtain⟨go,yl⟩:=io.1 i ds[i] H5 hd sm5 wH
  refine bI (T.item (aE X N' scope C s3 H3 fp) rfl rfl rfl hcalm i [] s5 σ5 H5 (λ_ _=>False) I5 (stat no f5) st5 go) λr s6 hq_=>?_
  obtain⟨u,hr,h6⟩:=hq_
  subst hr;refine bI h6 λ_ s7 hq_=>?_
  obtain⟨x,H7,I7,r7,y7,st7,f7⟩:=hq_
  obtain⟨s7',rp⟩:=yl x H7 y7
  have rx:=rp hid sr5.tr w5
  have I7':=I7.pinned (stat no f7) (T.obj _ _ st7)
  cases e3:g ds[i] (ρ++List.replicate m .no) with
  |none=>rw[e3] at hc5;cases hc5
  |some ρ1=>
   rw[e3] at hc5;have hc5:(p ρ1).bind (λb=>if b=true then(f ρ1).bind λy=>(dw g p f (ρ++List.replicate m .no) (ds.drop (i+1))).map (y:: ·) else dw g p f (ρ++List.replicate m .no) (ds.drop (i+1)))=some rest:=hc5
   obtain⟨tl1,tl2⟩:=hT _ _ _ e3
   have fg: ∀ {σ':St} {H':Hp},SR X.K c hid ρ1 σ' H'->SR X.K c hid (ρ++List.replicate m .no) σ' H':=λ{σ' H'} z=>z.forget tl1 λj s e=>by
    by_cases hj:j<X.N.length
    ·exact .inr ((tl2 j hj).trans e)
    ·refine .inl ?_
     rw[List.getElem?_append_right (by omega),List.getElem?_replicate] at e
     split at e
     ·cases e;rfl
     ·cases e
   have keepT: ∀ {σ':St} {H':Hp} {s':Shared},Inv (aE X N' scope C s3 H3 fp) ([]++ku fp s7.heap) σ' H' s'->tn (i+1) s'.heap/\ ∀b∈fp,H' b=none:=λ{σ' H' s'} J'=>by
    refine⟨T.keep _ _ _ st7 λb hb o e=>(J'.pin (b,o) (List.mem_append_right _ (List.mem_append_right _ (dh hb e)))).1,λb hb=>?_⟩
    obtain⟨o,e,_⟩:=T.obj _ _ st7 b hb
    exact(J'.pin (b,o) (List.mem_append_right _ (List.mem_append_right _ (dh hb e)))).2.1
   refine bI (hg C s3 H3 fp hid _ ds[i] _ s7 σ5 H7 x u (λσ' H'=>H'=H7/\SR X.K c hid ρ1 σ' H7/\OwK (ρ++List.replicate m .no) ρ1 σ5 σ') I7' r7 ⟨sr5.ext s7',rx,ρ1,e3,λσ' z o=>⟨rfl,z,o⟩⟩) λ_ s8 hq_=>?_
   obtain⟨σ8,H8,I8,e8,q8,o8⟩:=hq_
   subst e8;have na8: ∀i:Nat,Ow (ρ++List.replicate m Sl.no)[i]? ->σ8[i]? ≠some (some (.ref D0)):=λj o=>by
    have o1:Ow ρ1[j]? :=by
     by_cases hj:j<X.N.length
     ·rw[tl2 j hj];exact o
     ·exfalso
      rw[List.getElem?_append_right (by omega),List.getElem?_replicate] at o
      split at o<;>exact o.elim
    rw[(o8 j o1).2];exact na5 j o
   cases e4:p ρ1 with
   |none=>rw[e4] at hc5;cases hc5
   |some b=>
    rw[e4] at hc5;have hc5:(if b=true then(f ρ1).bind λy=>(dw g p f (ρ++List.replicate m .no) (ds.drop (i+1))).map (y:: ·) else dw g p f (ρ++List.replicate m .no) (ds.drop (i+1)))=some rest:=hc5
    refine bI (hp C s3 H3 fp hid ρ1 _ s8 σ8 H8 (λb' H'=>b'=b/\Same H8 H') I8 ⟨q8,b,e4,λH' s'=>⟨rfl,s'⟩⟩) λok s9 hq_=>?_
    obtain⟨H9,I9,e9,sm9⟩:=hq_
    subst e9;have w9:Same (vw H5 hid) (vw H9 hid):=aQ (s7'.trans sm9)
    cases ok with
    |false=>
     have hc5:dw g p f (ρ++List.replicate m .no) (ds.drop (i+1))=some rest:=hc5
     obtain⟨k1,k2⟩:=keepT I9
     exact⟨ds.length- (i+1),by omega,i+1,xs,ad,σ8,H9,rfl,hlt,I9.unpinned,k1,k2,fg (q8.ext sm9),sm5.trans (s7'.trans sm9),sm9 _ _ (s7' _ _ ac5),rp5.mono w9,w5.trans w9,by omega,na8,rest,hc5,hy5⟩
    |true=>
     have hc5:((f ρ1).bind λy=>(dw g p f (ρ++List.replicate m .no) (ds.drop (i+1))).map (y:: ·))=some rest:=hc5
     cases e5:f ρ1 with
     |none=>rw[e5] at hc5;cases hc5
     |some y=>
      rw[e5] at hc5;have hc5:(dw g p f (ρ++List.replicate m .no) (ds.drop (i+1))).map (y:: ·)=some rest:=hc5
      cases e6:dw g p f (ρ++List.replicate m .no) (ds.drop (i+1)) with
      |none=>rw[e6] at hc5;cases hc5
      |some rest'=>
       rw[e6] at hc5;cases hc5
       show wpAny (model X.prog X.w) X.A (eval elt _) _ _ s9;refine bI (he C s3 H3 fp hid ρ1 _ s9 σ8 H9 (λv H'=>Same H9 H'/\Rep X.K (vw H' hid) v y) I9 ⟨q8.ext sm9,y,e5,λv H' s' r=>⟨s',r⟩⟩) λv s10 hq_=>?_
       obtain⟨z,H10,I10,rz,sm10,rp10⟩:=hq_
       have sm':Same H5 H10:=s7'.trans (sm9.trans sm10)
       have a10:H10 D0=some (.lst xs):=sm' _ _ ac5
       refine bI (dB (X:=aE X N' scope C s3 H3 fp) _ s10 σ8 H10 (.ref D0) [z] (.ref D0) [v] (λ_ H'=>H'=bM H10 D0 (.lst (xs++[z]))) I10 rfl (.cons rz .nil) ⟨D0,xs,z,rfl,rfl,a10,by omega,rfl⟩) λ_ s11 ⟨_,H11,I11,_,e11⟩=>?_
       subst e11;obtain⟨k1,k2⟩:=keepT I11
       have vv:vw (bM H10 D0 (.lst (xs++[z]))) hid=vw H10 hid:=eD hh
       have w10:Same (vw H5 hid) (vw H10 hid):=aQ sm'
       refine⟨ds.length- (i+1),by omega,i+1,xs++[z],ad++[y],σ8,_,rfl,hlt,I11.unpinned,k1,k2,?_,λb o e=>?_,aK,?_,?_,by simp;omega,na8,rest',e6,by rw[<-hy5];simp⟩
       ·
        have q10:=fg ((q8.ext sm9).ext sm10)
        exact q10.write hh h00 na8
       ·rw[aH (bd e nD)];exact sm' _ _ (sm5 _ _ e)
       ·rw[vv];exact(rp5.mono w10).append (.cons rp10 .nil)
       ·rw[vv];exact w5.trans w10
 ·have e:i=ds.length:=by omega
  subst e;rw[List.drop_eq_nil_of_le (Nat.le_refl _)] at hc5;cases hc5
  rw[List.append_nil] at hy5;subst hy5;refine bI (T.done (aE X N' scope C s3 H3 fp) rfl rfl rfl hcalm ds.length [] s5 σ5 H5 (λ_ _=>False) I5 (stat no f5) st5 (io.2 H5 sm5 wH)) λr s6 hq_=>?_
  obtain⟨hr,I6⟩:=hq_
  subst hr;exact hR s6 σ5 H5 xs I6 sm5 ac5 rp5
theorem oH(hcalm:X.calm=true)(hk:scope.kind=.function)(hs:uc scope X.env.scope=true)(hn:ur X.N N' scope=true)(hm:N'.length-X.N.length=m)(hT:jA X.N.length g)
 (hg: ∀C s₀ H₀ ex,oP (aE X N' scope C s₀ H₀ ex) c tg g) (hp: ∀C s₀ H₀ ex,rM (aE X N' scope C s₀ H₀ ex) c ifs p) (he: ∀C s₀ H₀ ex,DP (aE X N' scope C s₀ H₀ ex) c .s elt f)
 {E:Value->Shared->Prop} {ae:List (Addr×Obj)} {σ:St} {H:Hp} {s:Shared} {hid:bK} {ρ:aF} {J:It} {it:Addr} {fp:List Addr} {tn:Nat->Heap->Prop} {ds ys:List D} {RR:Value->Addr->Result->Shared->Prop}
 (I:Inv X ae σ H s) (sr:SR X.K c hid ρ σ H) (T:Turn X.prog X.w X.K tg J fp it tn) (st:tn 0 s.heap) (hF: ∀b∈fp,iY X ae H b) (io:Cq X.K H (vw H hid) J ds) (hz:ds.length<=sizeLine) (hc:dw g p f (ρ++List.replicate m .no) ds=some ys)
 (hR: ∀(D C:Addr) (s':Shared) (H':Hp) (xs:List V),s.heap.objs.size<=D->s.heap.objs.size<=C->D≠C->H D=none->Same H H'->H' D=some (.lst xs)->Reps X.K (vw H' (aZ hid D)) xs ys->(∃m,s'.heap.Ns C m)->H' C=none->s'.os=s.os->AllBare s'.gens->HOk X.prog X.w H' s'.heap->Un (pS X.stack) fp H H' s.heap s'.heap->RR (.ref D) C (.ok .next) s'):
 wpAny (model X.prog X.w) X.A (newList []) (λacc s₃=>wpAny (model X.prog X.w) X.A (newFunctionEnv scope X.env.globals (qD X.env.cells scope.names []) [] X.env.qual none .none (some X.env)) (λcenv s₄=>
  codeAny (model X.prog X.w) X.A (.compStart (.ListComp elt [⟨tg,iter,ifs,0⟩] scope pos) 0 (.ref it) acc {cenv with scope:=relabel scope X.env}) (RR acc cenv.locals) s₄) E s₃) E s:=by
 refine wpAny_newObj_type (qH λh₁ hns₁ kp1 oc₁=>?_)
 dsimp only at hns₁ kp1 oc₁⊢
 generalize hH2:s.heap.push {cls:=.type "list",dict:=none,data:=.seq ([]:List Value).toArray}=H2 at hns₁ kp1 oc₁⊢
 have hC:H2.objs.size=s.heap.objs.size+1:=by rw[<-hH2,Heap.size_push]
 have hD:H s.heap.objs.size=none:=I.hok.fresh (Nat.le_refl _)
 have I2:Inv X ae σ (bM H s.heap.objs.size (.lst [])) {s with heap:=H2}:=by
  rw[<-hH2];exact I.laid (t':=s.toks) (λb o e=>Heap.get?_push_of_some _ e) (Nat.le_refl _) ⟨Nat.zero_le _,[],0,.nil,Heap.get?_push_size _ rfl⟩
 have fpLt: ∀b∈fp,b<s.heap.objs.size:=λb hb=>let⟨o,e,_⟩:=T.obj 0 s.heap st b hb;Heap.lt_size e
 have hF2: ∀b∈fp,iY X ae (bM H s.heap.objs.size (.lst [])) b:=λb hb=>⟨by rw[aH (Nat.ne_of_lt (fpLt b hb))];exact(hF b hb).1,(hF b hb).2⟩
 have kp0: ∀b o,s.heap.get? b=some o->H2.get? b=some o:=λb o e=>by rw[<-hH2];exact Heap.get?_push_of_some _ e
 have IY:=nO (tk:=s.toks) (N':=N') (fp:=fp) I2 hF2 (λb hb=>let⟨o,e,_⟩:=T.obj 0 s.heap st b hb;⟨o,kp0 b o e⟩) hk hs hn hns₁ kp1 oc₁
 rw[hm] at IY;dsimp only at IY;have sr0:SR X.K c (aZ hid s.heap.objs.size) (ρ++List.replicate m .no) (σ++List.replicate m none) (bM H s.heap.objs.size (.lst [])):=(sr.hide (aW hD _) hD aK).more m
 have hρ:ρ.length=X.N.length:=by rw[<-sr.len];exact I.len
 have nf:hid s.heap.objs.size=false:=sr.fresh hD
 have st1:tn 0 h₁:=T.keep _ _ _ st λb hb o e=>kp1 b o (kp0 b o e)
 have na0: ∀i:Nat,Ow (ρ++List.replicate m Sl.no)[i]? ->(σ++List.replicate m none)[i]? ≠some (some (V.ref s.heap.objs.size)):=(sr.more m).notOw nf
 have wv:Same (vw H hid) (vw (bM H s.heap.objs.size (.lst [])) (aZ hid s.heap.objs.size)):=by rw[rm hD];exact Same.refl _
 have loop: ∀s4:Shared,s4={s with heap:=h₁,toks:=s.toks}->
  codeAny (model X.prog X.w) X.A (.compLoop (.ListComp elt [⟨tg,iter,ifs,0⟩] scope pos) 0 (.ref it) (.ref s.heap.objs.size) (compEnvC scope (ma X.env.cells scope H2.objs.size) H2.objs.size X.env)) (RR (.ref s.heap.objs.size) H2.objs.size) s4:=by
  rintro s4 rfl
  refine xK (H:=H) (hid:=aZ hid s.heap.objs.size) (W:=vw H hid) hcalm hT hg hp he hρ IY sr0 eU (sr.fresh0 hD) na0 aK (aW hD _) hD wv T st1 (λb hb=>(hF2 b hb).1) io hz hc ?_
  intro s' σ' H' xs I' sm' hx' rp';have un1:Un (pS X.stack) fp H (bM H s.heap.objs.size (.lst [])) s.heap H2:=Un.laid (λb o e=>kp0 b o e) (Nat.le_refl _) hD
  refine hR s.heap.objs.size H2.objs.size s' H' xs (Nat.le_refl _) (by rw[hC];exact Nat.le_succ _) (by rw[hC];exact Nat.ne_of_lt (Nat.lt_succ_self _)) hD sm' hx' rp' (let⟨m,hm,_⟩:=I'.loc;⟨m,hm⟩) I'.free I'.os I'.bare I'.hok (un1.trans I'.base)
 exact codeAny_compStart_list (loop _ rfl) (T.self X.A 0 _ _ _ st1 (loop _ rfl))
theorem kJ(hcalm:X.calm=true)(hT:jA X.N.length g)(hi:Es X c tg iter gi)
 (hg: ∀C s₀ H₀ ex,oP (aE X N' scope C s₀ H₀ ex) c tg g) (hp: ∀C s₀ H₀ ex,rM (aE X N' scope C s₀ H₀ ex) c ifs p) (he: ∀C s₀ H₀ ex,DP (aE X N' scope C s₀ H₀ ex) c .s elt f)
 (hk:scope.kind=.function:=by rfl) (hs:uc scope X.env.scope=true:=by kernel_rfl) (hn:ur X.N N' scope=true:=by kernel_rfl) (hm:N'.length-X.N.length=m:=by rfl) (hset: ∀x,foldedSetIterable iter X.env x=pure x:=by intro _;rfl):
 DP X c .n (.ListComp elt [⟨tg,iter,ifs,0⟩] scope pos) (cy m gi g p f):=by
 intro hid ρ ae s σ H Q I hq;obtain⟨sr,d,hd,q⟩:=hq
 obtain⟨ds,ys,e1,hz,hc,rfl⟩:=nP hd
 rw[eval_ListComp];refine wpAny_comprehension_free (use:=none) rfl hset (fh λx hx=>I.ok.has x (ig hs x hx)) hk (jZ hs) ?_
 refine bI (hi hid ρ ae s σ H (λJ H'=>Same H H'/\Cq X.K H' (vw H' hid) J ds) I ⟨sr,ds,e1,λJ H' s1 io=>⟨s1,io⟩⟩) λv s1 h1=>bI h1 λitv s2 h2=>?_
 obtain⟨it,fp,tn,J,H2,rfl,I2,T,st2,f2,sm,io⟩:=h2
 refine oH (RR:=λacc C=>compPost (model X.prog X.w) X.A X.xe none (EP X ae σ Q) acc C) hcalm hk hs hn hm hT hg hp he I2 (sr.ext sm) T st2 f2 io hz hc ?_
 intro D C s' H' xs hDge hCge hDC hD sm' hx rp ⟨mm,hns⟩ hC' hos hbare hok hun;refine⟨mm,hns,λh' hsb=>⟨.ref D,H',?_,rfl,q _ H' (sm.trans sm') ⟨D,xs,ys,rfl,rfl,sm.free hD,hx,rp⟩⟩⟩
 have neC: ∀b o,s2.heap.get? b=some o->b≠C:=λb o e z=>by subst z;exact absurd (Heap.lt_size e) (Nat.not_lt.mpr hCge)
 have hun':Un (pS X.stack) fp H2 H' s2.heap h':=⟨λb o e n h1 h2=>(hsb.2 b (neC b o e)).trans (hun.keep b o e n h1 h2),λb o e n h1 h2=>let⟨sl,z⟩:=hun.slot b o e n h1 h2;⟨sl,(hsb.2 b (neC b o e)).trans z⟩,hun.free,λb o e h2=>let⟨o',z⟩:=hun.there b o e h2;⟨o',(hsb.2 b (neC b o e)).trans z⟩,hun.tups,hun.frzs,hun.tbls⟩
 have hok':HOk X.prog X.w H' h':=λb o e=>by
  have nb: ∀b' o',H' b'=some o'->b'≠C:=λb' o' e' z=>by subst z;rw[hC'] at e';cases e'
  refine(hok b o e).stay (λc' u hc' z=>(hsb.2 c' ?_).trans z) (λ_ z=>z) λ_ _ z=>z
  rcases hc' with z'|z'
  ·rw[z'];exact nb b o e
  ·exact nb c' _ z'
 exact I2.call' (s':={s' with heap:=h'}) (ch:=fp) hos hun' hok' hbare λb hb=>⟨(f2 b hb).2.2.2.1,(f2 b hb).2.1,(f2 b hb).2.2.2.2.1,(f2 b hb).2.2.2.2.2⟩
end
section
variable {X:Cx}{c:Ct}{elt tg iter:Expr}{ifs:List Expr}{scope:Scope}{pos spos py:Pos}{N':List Str}{m:Nat}{gi:FA}{g:FG}{p:FT}{f:FE}{y:Str}
theorem BV(i:Nat)(hcalm:X.calm=true)(hN:X.N.Nodup)(hT:jA X.N.length g)(hi:Es X c tg iter gi)
 (hg: ∀C s₀ H₀ ex,oP (aE X N' scope C s₀ H₀ ex) c tg g) (hp: ∀C s₀ H₀ ex,rM (aE X N' scope C s₀ H₀ ex) c ifs p) (he: ∀C s₀ H₀ ex,DP (aE X N' scope C s₀ H₀ ex) c .s elt f)
 (hsw:swapsWith (.ListComp elt [⟨tg,iter,ifs,0⟩] scope pos) (some (.Name y py)) spos.line X.env=pure true) (hyi:X.N[i]? =some y) (hy:X.env.scope.names.lookup y=some .local)
 (hk:scope.kind=.function) (hs:uc scope X.env.scope=true) (hn:ur X.N N' scope=true) (hm:N'.length-X.N.length=m) (hset: ∀x,foldedSetIterable iter X.env x=pure x) (ρ:aF):
 PS X (.Assign [.Name y py] (.ListComp elt [⟨tg,iter,ifs,0⟩] scope pos) spos) (BQ (λσ H Q=> ∃hid,A4 X.K c hid .n (cy m gi g p f) ρ σ H Q) (vG i)):=by
 intro ae s σ H E I hq;obtain⟨hid,sr,d,hd,q⟩:=hq
 obtain⟨ds,ys,e1,hz,hc,rfl⟩:=nP hd
 rw[exec_Assign_Name_used _ _ _ _ hsw];refine wpAny_bind (wpAny_standAt (wpAny_bind ?_))
 show wpAny _ X.A (do let _ <-comprehension (.ListComp elt [⟨tg,iter,ifs,0⟩] scope pos) scope X.env _ (newList []) false (eval iter X.env) (some (assign (.Name y py) X.env))) _ _ s
 refine wpAny_bind (wpAny_mono (wpAny_comprehension_free (use:=some (assign (.Name y py) X.env)) (Q:=λ_ s'=>SP X ae E .next s') rfl hset (fh λx hx=>I.ok.has x (ig hs x hx)) hk (jZ hs) ?_) (λ_ s' hq=>wpAny_pure (wpAny_pure hq)) λ_ _ e=>e)
 refine bI (hi hid ρ ae s σ H (λJ H'=>Same H H'/\Cq X.K H' (vw H' hid) J ds) I ⟨sr,ds,e1,λJ H' s1 io=>⟨s1,io⟩⟩) λv s1 h1=>bI h1 λitv s2 h2=>?_
 obtain⟨it,fp,tn,J,H2,rfl,I2,T,st2,f2,sm,io⟩:=h2
 refine oH (RR:=λacc C=>compPost (model X.prog X.w) X.A X.xe (some (assign (.Name y py) X.env)) (λ_ s'=>SP X ae E .next s') acc C) hcalm hk hs hn hm hT hg hp he I2 (sr.ext sm) T st2 f2 io hz hc ?_
 intro D C s' H' xs hDge hCge hDC hD sm' hx rp ⟨mm,hns⟩ hC' hos hbare hok hun;have I3:Inv X ae σ H' s':=I2.call' (ch:=fp) hos hun hok hbare λb hb=>⟨(f2 b hb).2.2.2.1,(f2 b hb).2.1,(f2 b hb).2.2.2.2.1,(f2 b hb).2.2.2.2.2⟩
 have fin:=q _ H' (sm.trans sm') ⟨D,xs,ys,rfl,rfl,sm.free hD,hx,rp⟩
 have ltC: ∀b o,s2.heap.get? b=some o->b≠C:=λb o e z=>by subst z;exact absurd (Heap.lt_size e) (Nat.not_lt.mpr hCge)
 have hLC:C≠X.env.locals:=λz=>by
  have:=I2.lt
  rw[<-z] at this;exact absurd this (Nat.not_lt.mpr hCge)
 show wpAny _ X.A (assign (.Name y py) X.env (.ref D)) _ _ s';refine wpAny_assign_Name (lU (v:=.ref D) I3 hN hyi (.inl hy) rfl (λs'' I4 hb=>?_) (.inr hy))
 obtain⟨a,hsb,ha⟩:=hb
 have hCa:C≠a:=by
  rcases ha with rfl|ha
  ·exact hLC
  ·obtain⟨w',o,ho,_⟩:=I2.cell y a ha
   exact λz=>ltC a o ho z.symm
 refine⟨mm,hns.sameBut hsb hCa,λh3 hs3=>⟨_,H',?_,fin⟩⟩
 refine I4.turned (t':=s''.toks) (it:=C) (λb o nb e=>(hs3.2 b nb).trans e) hC' hLC (.inr (Nat.le_trans I2.sz hCge)) (λx c' e z=>?_) (λq hq z=>?_)
 ·obtain⟨w',o,ho,_⟩:=I2.cell x c' e
  exact ltC c' o ho z
 ·exact ltC q.1 q.2 (I2.pin q hq).1 z
theorem vy(i:Nat){k:Kd}(hcalm:X.calm=true)(hN:X.N.Nodup)(hT:jA X.N.length g)(hi:Es X c tg iter gi)
 (hg: ∀C s₀ H₀ ex,oP (aE X N' scope C s₀ H₀ ex) c tg g) (hp: ∀C s₀ H₀ ex,rM (aE X N' scope C s₀ H₀ ex) c ifs p) (he: ∀C s₀ H₀ ex,DP (aE X N' scope C s₀ H₀ ex) c .s elt f)
 (hsw:swapsWith (.ListComp elt [⟨tg,iter,ifs,0⟩] scope pos) (some (.Name y py)) spos.line X.env=pure true:=by rfl) (hyi:X.N[i]? =some y:=by rfl) (hy:X.env.scope.names.lookup y=some .local:=by rfl)
 (hk:scope.kind=.function:=by rfl) (hs:uc scope X.env.scope=true:=by kernel_rfl) (hn:ur X.N N' scope=true:=by kernel_rfl) (hm:N'.length-X.N.length=m:=by rfl) (hset: ∀x,foldedSetIterable iter X.env x=pure x:=by intro _;rfl):
 DS X c k (.Assign [.Name y py] (.ListComp elt [⟨tg,iter,ifs,0⟩] scope pos) spos) (aT i (cy m gi g p f)):=λρ=>PS.imp (BV i hcalm hN hT hi hg hp he hsw hyi hy hk hs hn hm hset ρ) λD σ H hq_=>by
 obtain⟨hid,sr,q⟩:=hq_
 unfold aT at q;cases e1:cy m gi g p f ρ with
 |none=>rw[e1] at q;exact q.elim
 |some z=>
  rw[e1] at q;exact⟨hid,sr,z,e1,λv H' s r=>q _ H' hid ((sr.ext s).setV (RN.rep r λa n=>sr.fresh n) i) (aQ s)⟩
end
mutual
def eI:D->D->Bool
 | .non,.non=>true
 | .bl a,.bl b=>a==b
 | .bl a,.int b=>(if a then 1 else 0)==b
 | .int a,.bl b=>a==(if b then 1 else 0)
 | .int a,.int b=>a==b
 | .str a,.str b=>a==b
 | .tup a,.tup b=>cY a b
 | .lst a,.lst b=>cY a b
 | .lst a,.scr b=>cY a b
 | .scr a,.lst b=>cY a b
 | .scr a,.scr b=>cY a b
 |_,_=>false
def cY:List D->List D->Bool
 | [],[]=>true
 |x::xs,y::ys=>eI x y&&cY xs ys
 |_,_=>false
end
mutual
def fw:D->Nat
 | .tup a=>dO a+1
 | .lst a=>dO a+1
 | .scr _=>cLine
 |_=>0
def dO:List D->Nat
 | []=>0
 |x::xs=>max (fw x) (dO xs)
end
theorem oG: ∀ {xs:List D} {i:Nat} {d:D},xs[i]? =some d->fw d<=dO xs
 | [],_,_,h=>by simp at h
 |x::xs,0,d,h=>by simp at h;subst h;unfold dO;exact Nat.le_max_left _ _
 |x::xs,i+1,d,h=>by
  have:=oG (xs:=xs) (i:=i) (d:=d) (by simpa using h)
  unfold dO;exact Nat.le_trans this (Nat.le_max_right _ _)
mutual
theorem kS: ∀x:D,eI x x=true
 | .non=>by unfold eI;rfl
 | .bl a=>by unfold eI;simp
 | .int a=>by unfold eI;simp
 | .str a=>by unfold eI;simp
 | .tup a=>by unfold eI;exact jR a
 | .lst a=>by unfold eI;exact jR a
 | .scr a=>by unfold eI;exact jR a
theorem jR: ∀x:List D,cY x x=true
 | []=>by unfold cY;rfl
 |x::xs=>by unfold cY;rw[kS x,jR xs];rfl
end
def j8(xs ys:List D)(j:Nat):Bool:=match xs[j]?,ys[j]? with
 |some x,some y=>eI x y
 |_,_=>false
theorem p5 {xs ys:List D}(h:xs.length=ys.length):(List.range xs.length).all (j8 xs ys)=cY xs ys:=by
 induction xs generalizing ys with
 |nil=>
  cases ys with
  |nil=>unfold cY;rfl
  |cons y ys=>simp at h
 |cons x xs ih=>
  cases ys with
  |nil=>simp at h
  |cons y ys=>
   rw[List.length_cons,List.range_succ_eq_map,List.all_cons,List.all_map];have e0:j8 (x::xs) (y::ys) 0=eI x y:=rfl
   have e1:((j8 (x::xs) (y::ys))∘Nat.succ)=j8 xs ys:=by funext j;simp[j8]
   rw[e0,e1,ih (by simpa using h)]
   conv=>rhs;unfold cY
theorem nJ: ∀ {xs ys:List D},xs.length≠ys.length->cY xs ys=false
 | [],[],h=>absurd rfl h
 | [],_::_,_=>by unfold cY;rfl
 |_::_,[],_=>by unfold cY;rfl
 |x::xs,y::ys,h=>by unfold cY;rw[nJ (xs:=xs) (ys:=ys) (by simpa using h)];simp
section
variable {X:Cx}{ae:List (Addr×Obj)}{σ:St}{H:Hp}{s:Shared}
theorem fN(I:Inv X ae σ H s){a:Addr}{xs ys:List V}(h:SqL X.K H a xs)(h':SqT X.K H a ys):False:=by
 obtain⟨its,_,pl,_⟩:=I.list h
 obtain⟨its',_,pt,_⟩:=I.tuple h'
 exact SeqAt.ne_of_list_tuple pl.isList pt rfl
theorem Fi {a b:List D}(h: ∀zs,cY a zs=cY b zs):(∀z,eI (.tup a) z=eI (.tup b) z)/\(∀z,eI (.lst a) z=eI (.lst b) z)/\ ∀z,eI (.scr a) z=eI (.lst b) z:=by
 refine⟨λz=>?_,λz=>?_,λz=>?_⟩<;>cases z<;>unfold eI<;>first|exact h _|rfl
theorem Gq {b:List D}: ∀z,eI (.scr b) z=eI (.lst b) z:=(Fi λ_=>rfl).2.2
mutual
theorem Rep.eqv(I:Inv X ae σ H s): ∀ {v:V} {x y:D},Rep X.K H v x->Rep X.K H v y-> ∀z,eI x z=eI y z
 |_,_,_,.non,.non=>λ_=>rfl
 |_,_,_,.bl,.bl=>λ_=>rfl
 |_,_,_,.int,.int=>λ_=>rfl
 |_,_,_,.str,.str=>λ_=>rfl
 |_,_,_,.tup h r,.tup h' r'=>by rw[I.tuple_inj h h'] at r;exact(Fi (Reps.eqv I r r')).1
 |_,_,_,.lst h r,.lst h' r'=>by rw[I.list_inj (SqL.of h) (SqL.of h')] at r;exact(Fi (Reps.eqv I r r')).2.1
 |_,_,_,.lst h r,.scr h' r'=>by rw[I.list_inj (SqL.of h) h'.seq] at r;exact λz=>((Fi (Reps.eqv I r r')).2.1 z).trans (Gq z).symm
 |_,_,_,.scr h r,.lst h' r'=>by rw[I.list_inj h.seq (SqL.of h')] at r;exact(Fi (Reps.eqv I r r')).2.2
 |_,_,_,.scr h r,.scr h' r'=>by rw[I.list_inj h.seq h'.seq] at r;exact λz=>((Fi (Reps.eqv I r r')).2.2 z).trans (Gq z).symm
 |_,_,_,.tup h r,.lst h' r'=>(fN I (SqL.of h') h).elim
 |_,_,_,.lst h r,.tup h' r'=>(fN I (SqL.of h) h').elim
 |_,_,_,.tup h r,.scr h' r'=>(fN I h'.seq h).elim
 |_,_,_,.scr h r,.tup h' r'=>(fN I h.seq h').elim
theorem Reps.eqv(I:Inv X ae σ H s): ∀ {v:List V} {x y:List D},Reps X.K H v x->Reps X.K H v y-> ∀z,cY x z=cY y z
 |_,_,_,.nil,.nil=>λ_=>rfl
 |_,_,_,.cons r t,.cons r' t'=>λz=>by
  cases z with
  |nil=>unfold cY;rfl
  |cons w ws=>unfold cY;rw[Rep.eqv I r r' w,Reps.eqv I t t' ws]
end
theorem aJ(I:Inv X ae σ H s){a:Addr}{xs:List V}{ds:List D}(h:SqL X.K H a xs)(r:Reps X.K H xs ds): ∃its:List Value,s.heap.IsList a its.toArray/\its.length=ds.length/\ ∀(j:Nat) (hj:j<its.length),∃(v:V) (d:D),ds[j]? =some d/\RelV v its[j]/\Rep X.K H v d:=by
 obtain⟨its,rv,pl,_⟩:=I.list h
 have h1:=rv.length
 have h2:=r.length
 refine⟨its,pl.isList,by omega,λj hj=>?_⟩
 have e:xs[j]? =some xs[j]:=List.getElem?_eq_getElem (by omega)
 obtain⟨u,e1,r1⟩:=rv.get e
 obtain⟨d,e2,r2⟩:=r.get' e
 have:its[j]=u:=by rw[List.getElem?_eq_getElem hj] at e1;exact Option.some.inj e1
 rw[this];exact⟨xs[j],d,e2,r1,r2⟩
theorem bV(I:Inv X ae σ H s){a:Addr}{xs:List V}{ds:List D}(h:SqT X.K H a xs)(r:Reps X.K H xs ds): ∃its:List Value,s.heap.IsTuple a its.toArray/\its.length=ds.length/\ ∀(j:Nat) (hj:j<its.length),∃(v:V) (d:D),ds[j]? =some d/\RelV v its[j]/\Rep X.K H v d:=by
 obtain⟨its,rv,pl,_⟩:=I.tuple h
 have h1:=rv.length
 have h2:=r.length
 refine⟨its,pl,by omega,λj hj=>?_⟩
 have e:xs[j]? =some xs[j]:=List.getElem?_eq_getElem (by omega)
 obtain⟨u,e1,r1⟩:=rv.get e
 obtain⟨d,e2,r2⟩:=r.get' e
 have:its[j]=u:=by rw[List.getElem?_eq_getElem hj] at e1;exact Option.some.inj e1
 rw[this];exact⟨xs[j],d,e2,r1,r2⟩
end
section
variable {X:Cx}{ae:List (Addr×Obj)}{σ:St}{H:Hp}{s:Shared}
theorem gr(A:Around):A.in1.units=A.units+1:=rfl
theorem C6 {A:Around}{n:Nat}(IH: ∀ {x y:D} {v u:V} {a b:Value} {A:Around},fw x<n->A.units+fw x<cLine->RelV v a->RelV u b->Rep X.K H v x->Rep X.K H u y->SeqAt.EqAt A s a b (eI x y)){xs ys:List D}{its its2:List Value}(hd:dO xs<n)(hu:A.units+dO xs<cLine)
 (g1: ∀(j:Nat) (hj:j<its.length),∃(v:V) (d:D),xs[j]? =some d/\RelV v its[j]/\Rep X.K H v d) (g2: ∀(j:Nat) (hj:j<its2.length),∃(v:V) (d:D),ys[j]? =some d/\RelV v its2[j]/\Rep X.K H v d):
 ∀j (h1:j<its.toArray.size) (h2:j<its2.toArray.size),SeqAt.EqAt A s its.toArray[j] its2.toArray[j] (j8 xs ys j):=λj h1 h2=>by
 obtain⟨v,d,e1,r1,p1⟩:=g1 j (by simpa using h1)
 obtain⟨u,d',e2,r2,p2⟩:=g2 j (by simpa using h2)
 have ez:j8 xs ys j=eI d d':=by unfold j8;rw[e1,e2]
 rw[ez];have hdd:=oG e1
 exact IH (by omega) (by omega) (by simpa using r1) (by simpa using r2) p1 p2
theorem jN(I:Inv X ae σ H s){A:Around}{n:Nat}(IH: ∀ {x y:D} {v u:V} {a b:Value} {A:Around},fw x<n->A.units+fw x<cLine->RelV v a->RelV u b->Rep X.K H v x->Rep X.K H u y->SeqAt.EqAt A s a b (eI x y)){xs ys:List D}{zs ws:List V}{a b:Addr}(hd:dO xs<n)(hu:A.units+(dO xs+1)<cLine)
 (h1:SqL X.K H a zs) (r1:Reps X.K H zs xs) (h2:SqL X.K H b ws) (r2:Reps X.K H ws ys):SeqAt.RcAt A s (.ref a) (.ref b) (cY xs ys)/\SeqAt.RcNeAt A s (.ref a) (.ref b) (!cY xs ys):=by
 obtain⟨its,l1,n1,g1⟩:=aJ I h1 r1
 obtain⟨its2,l2,n2,g2⟩:=aJ I h2 r2
 by_cases e:xs.length=ys.length
 ·have hsz:its.toArray.size=its2.toArray.size:=by simp;omega
  have he:=C6 (A:=A.in1) IH hd (by rw[gr];omega) g1 g2
  have ea:(List.range its.toArray.size).all (j8 xs ys)=cY xs ys:=by rw[List.size_toArray,n1];exact p5 e
  rw[<-ea];exact⟨SeqAt.RcAt.lists l1 l2 hsz (by omega) he,SeqAt.RcNeAt.lists l1 l2 hsz (by omega) he⟩
 ·rw[nJ e]
  have hsz:(its.toArray.size !=its2.toArray.size)=true:=by simp;omega
  exact⟨SeqAt.RcAt.lists_lengths l1 l2 hsz (by omega),SeqAt.RcNeAt.lists_lengths l1 l2 hsz (by omega)⟩
theorem vi(I:Inv X ae σ H s){A:Around}{n:Nat}(IH: ∀ {x y:D} {v u:V} {a b:Value} {A:Around},fw x<n->A.units+fw x<cLine->RelV v a->RelV u b->Rep X.K H v x->Rep X.K H u y->SeqAt.EqAt A s a b (eI x y)){xs ys:List D}{zs ws:List V}{a b:Addr}(hd:dO xs<n)(hu:A.units+(dO xs+1)<cLine)
 (h1:SqT X.K H a zs) (r1:Reps X.K H zs xs) (h2:SqT X.K H b ws) (r2:Reps X.K H ws ys):SeqAt.RcAt A s (.ref a) (.ref b) (cY xs ys)/\SeqAt.RcNeAt A s (.ref a) (.ref b) (!cY xs ys):=by
 obtain⟨its,l1,n1,g1⟩:=bV I h1 r1
 obtain⟨its2,l2,n2,g2⟩:=bV I h2 r2
 have he:=C6 (A:=A.in1) IH hd (by rw[gr];omega) g1 g2
 have ea:((List.range (min its.toArray.size its2.toArray.size)).all (j8 xs ys)&&its.toArray.size==its2.toArray.size)=cY xs ys:=by
  rw[List.size_toArray,List.size_toArray,n1,n2]
  by_cases e:xs.length=ys.length
  ·rw[<-e,Nat.min_self,p5 e];simp
  ·rw[nJ e];simp[e]
 rw[<-ea];exact⟨SeqAt.RcAt.tuples l1 l2 (by omega) he,SeqAt.RcNeAt.tuples l1 l2 (by omega) he⟩
theorem mI(I:Inv X ae σ H s){A:Around}{a b:Addr}{x y:D}(r1:Rep X.K H (.ref a) x)(r2:Rep X.K H (.ref b) y)(e:a=b):SeqAt.EqAt A s (.ref a) (.ref b) (eI x y):=by
 subst e;rw[Rep.eqv I r1 r2,kS];exact SeqAt.EqAt.same _
theorem Fe(I:Inv X ae σ H s){n:Nat}(IH: ∀ {x y:D} {v u:V} {a b:Value} {A:Around},fw x<n->A.units+fw x<cLine->RelV v a->RelV u b->Rep X.K H v x->Rep X.K H u y->SeqAt.EqAt A s a b (eI x y)){x y:D}{v u:V}{a b:Value}{A:Around}(hd:fw x<n+1)(hu:A.units+fw x<cLine)(hc:A.units<cLine)
 (ra:RelV v a) (rb:RelV u b) (px:Rep X.K H v x) (py:Rep X.K H u y):SeqAt.EqAt A s a b (eI x y):=by
 unfold eI;cases px with
 |non=>
  cases ra
  cases py with
  |non=>
   cases rb
   exact SeqAt.EqAt.same _
  |bl=>
   cases rb
   exact SeqAt.EqAt.none_bool _
  |int=>
   obtain⟨t2,rfl⟩:=rb
   exact SeqAt.EqAt.none_int _ _
  |str=>
   obtain⟨t2,rfl⟩:=rb
   exact SeqAt.EqAt.none_str _ _
  | @tup a2 _ _ h2 r2=>
    cases rb
    obtain⟨its2,l2,_⟩:=bV I h2 r2
    exact SeqAt.EqAt.none_tuple l2 (by omega)
  | @lst a2 _ _ h2 r2=>
    cases rb
    obtain⟨its2,l2,_⟩:=aJ I (SqL.of h2) r2
    exact SeqAt.EqAt.none_list l2 (by omega)
  | @scr a2 _ _ h2 r2=>
    cases rb
    obtain⟨its2,l2,_⟩:=aJ I h2.seq r2
    exact SeqAt.EqAt.none_list l2 (by omega)
 |bl=>
  cases ra
  cases py with
  |non=>
   cases rb
   exact SeqAt.EqAt.bool_none _
  |bl=>
   cases rb
   exact SeqAt.EqAt.bool_bool _ _
  |int=>
   obtain⟨t2,rfl⟩:=rb
   exact SeqAt.EqAt.bool_int _ _ _
  |str=>
   obtain⟨t2,rfl⟩:=rb
   exact SeqAt.EqAt.bool_str _ _ _
  | @tup a2 _ _ h2 r2=>
    cases rb
    obtain⟨its2,l2,_⟩:=bV I h2 r2
    exact SeqAt.EqAt.bool_tuple _ l2 (by omega)
  | @lst a2 _ _ h2 r2=>
    cases rb
    obtain⟨its2,l2,_⟩:=aJ I (SqL.of h2) r2
    exact SeqAt.EqAt.bool_list _ l2 (by omega)
  | @scr a2 _ _ h2 r2=>
    cases rb
    obtain⟨its2,l2,_⟩:=aJ I h2.seq r2
    exact SeqAt.EqAt.bool_list _ l2 (by omega)
 |int=>
  obtain⟨t1,rfl⟩:=ra
  cases py with
  |non=>
   cases rb
   exact SeqAt.EqAt.int_none _ _
  |bl=>
   cases rb
   exact SeqAt.EqAt.int_bool _ _ _
  |int=>
   obtain⟨t2,rfl⟩:=rb
   exact SeqAt.EqAt.int_int _ _ _ _
  |str=>
   obtain⟨t2,rfl⟩:=rb
   exact SeqAt.EqAt.int_str _ _ _ _
  | @tup a2 _ _ h2 r2=>
    cases rb
    obtain⟨its2,l2,_⟩:=bV I h2 r2
    exact SeqAt.EqAt.int_tuple _ _ l2 (by omega)
  | @lst a2 _ _ h2 r2=>
    cases rb
    obtain⟨its2,l2,_⟩:=aJ I (SqL.of h2) r2
    exact SeqAt.EqAt.int_list _ _ l2 (by omega)
  | @scr a2 _ _ h2 r2=>
    cases rb
    obtain⟨its2,l2,_⟩:=aJ I h2.seq r2
    exact SeqAt.EqAt.int_list _ _ l2 (by omega)
 |str=>
  obtain⟨t1,rfl⟩:=ra
  cases py with
  |non=>
   cases rb
   exact SeqAt.EqAt.str_none _ _
  |bl=>
   cases rb
   exact SeqAt.EqAt.str_bool _ _ _
  |int=>
   obtain⟨t2,rfl⟩:=rb
   exact SeqAt.EqAt.str_int _ _ _ _
  |str=>
   obtain⟨t2,rfl⟩:=rb
   exact SeqAt.EqAt.str_str _ _ _ _
  | @tup a2 _ _ h2 r2=>
    cases rb
    obtain⟨its2,l2,_⟩:=bV I h2 r2
    exact SeqAt.EqAt.str_tuple _ _ l2 (by omega)
  | @lst a2 _ _ h2 r2=>
    cases rb
    obtain⟨its2,l2,_⟩:=aJ I (SqL.of h2) r2
    exact SeqAt.EqAt.str_list _ _ l2 (by omega)
  | @scr a2 _ _ h2 r2=>
    cases rb
    obtain⟨its2,l2,_⟩:=aJ I h2.seq r2
    exact SeqAt.EqAt.str_list _ _ l2 (by omega)
 | @tup a1 _ _ h1 r1=>
   cases ra
   obtain⟨its,l1,_⟩:=bV I h1 r1
   cases py with
   |non=>
    cases rb
    exact SeqAt.EqAt.tuple_none l1 (by omega)
   |bl=>
    cases rb
    exact SeqAt.EqAt.tuple_bool _ l1 (by omega)
   |int=>
    obtain⟨t2,rfl⟩:=rb
    exact SeqAt.EqAt.tuple_int _ _ l1 (by omega)
   |str=>
    obtain⟨t2,rfl⟩:=rb
    exact SeqAt.EqAt.tuple_str _ _ l1 (by omega)
   | @tup a2 _ _ h2 r2=>
     cases rb
     obtain⟨its2,l2,_⟩:=bV I h2 r2
     by_cases e:a1=a2
     ·exact(mI I (.tup h1 r1) (.tup h2 r2) e)
     ·exact SeqAt.EqAt.of_refs e (vi I IH (by unfold fw at hd;omega) (by unfold fw at hu;omega) h1 r1 h2 r2).1
   | @lst a2 _ _ h2 r2=>
     cases rb
     obtain⟨its2,l2,_⟩:=aJ I (SqL.of h2) r2
     exact SeqAt.EqAt.tuple_list l1 l2 (by omega)
   | @scr a2 _ _ h2 r2=>
     cases rb
     obtain⟨its2,l2,_⟩:=aJ I h2.seq r2
     exact SeqAt.EqAt.tuple_list l1 l2 (by omega)
 | @scr a1 _ _ h1 r1=>exact absurd hu (by unfold fw;omega)
 | @lst a1 _ _ h1 r1=>
   cases ra
   obtain⟨its,l1,_⟩:=aJ I (SqL.of h1) r1
   cases py with
   |non=>
    cases rb
    exact SeqAt.EqAt.list_none l1 (by omega)
   |bl=>
    cases rb
    exact SeqAt.EqAt.list_bool _ l1 (by omega)
   |int=>
    obtain⟨t2,rfl⟩:=rb
    exact SeqAt.EqAt.list_int _ _ l1 (by omega)
   |str=>
    obtain⟨t2,rfl⟩:=rb
    exact SeqAt.EqAt.list_str _ _ l1 (by omega)
   | @tup a2 _ _ h2 r2=>
     cases rb
     obtain⟨its2,l2,_⟩:=bV I h2 r2
     exact SeqAt.EqAt.list_tuple l1 l2 (by omega)
   | @lst a2 _ _ h2 r2=>
     cases rb
     obtain⟨its2,l2,_⟩:=aJ I (SqL.of h2) r2
     by_cases e:a1=a2
     ·exact(mI I (.lst h1 r1) (.lst h2 r2) e)
     ·exact SeqAt.EqAt.of_refs e (jN I IH (by unfold fw at hd;omega) (by unfold fw at hu;omega) (SqL.of h1) r1 (SqL.of h2) r2).1
   | @scr a2 _ _ h2 r2=>
     cases rb
     obtain⟨its2,l2,_⟩:=aJ I h2.seq r2
     by_cases e:a1=a2
     ·exact(mI I (.lst h1 r1) (.scr h2 r2) e)
     ·exact SeqAt.EqAt.of_refs e (jN I IH (by unfold fw at hd;omega) (by unfold fw at hu;omega) (SqL.of h1) r1 h2.seq r2).1
theorem oK(I:Inv X ae σ H s): ∀(n:Nat) {x y:D} {v u:V} {a b:Value} {A:Around},fw x<n->A.units+fw x<cLine->RelV v a->RelV u b->Rep X.K H v x->Rep X.K H u y->SeqAt.EqAt A s a b (eI x y)
 |0,x,y,v,u,a,b,A,hd,hu,ra,rb,px,py=>absurd hd (Nat.not_lt_zero _)
 |n+1,x,y,v,u,a,b,A,hd,hu,ra,rb,px,py=>Fe I (λh1 h2 h3 h4 h5 h6=>oK I n h1 h2 h3 h4 h5 h6) hd hu (by omega) ra rb px py
theorem EB(I:Inv X ae σ H s){x y:D}{v u:V}{a b:Value}{A:Around}(hu:A.units+fw x<cLine)(hc:A.units<cLine)(ra:RelV v a)(rb:RelV u b)(px:Rep X.K H v x)(py:Rep X.K H u y):SeqAt.RcAt A s a b (eI x y):=by
 have IH:=λ{x y:D} {v u:V} {a b:Value} {A:Around} (n:Nat)=> @oK X ae σ H s I n x y v u a b A
 have IH: ∀ {n:Nat} {x y:D} {v u:V} {a b:Value} {A:Around},fw x<n->A.units+fw x<cLine->RelV v a->RelV u b->Rep X.K H v x->Rep X.K H u y->SeqAt.EqAt A s a b (eI x y):=λ{n x y v u a b A}=>oK I n
 unfold eI;cases px with
 |non=>
  cases ra
  cases py with
  |non=>
   cases rb
   exact SeqAt.RcAt.none_none
  |bl=>
   cases rb
   exact SeqAt.RcAt.none_bool _
  |int=>
   obtain⟨t2,rfl⟩:=rb
   exact SeqAt.RcAt.none_int _ _
  |str=>
   obtain⟨t2,rfl⟩:=rb
   exact SeqAt.RcAt.none_str _ _
  | @tup a2 _ _ h2 r2=>
    cases rb
    obtain⟨its2,l2,_⟩:=bV I h2 r2
    exact SeqAt.RcAt.none_tuple l2 (by omega)
  | @lst a2 _ _ h2 r2=>
    cases rb
    obtain⟨its2,l2,_⟩:=aJ I (SqL.of h2) r2
    exact SeqAt.RcAt.none_list l2 (by omega)
  | @scr a2 _ _ h2 r2=>
    cases rb
    obtain⟨its2,l2,_⟩:=aJ I h2.seq r2
    exact SeqAt.RcAt.none_list l2 (by omega)
 |bl=>
  cases ra
  cases py with
  |non=>
   cases rb
   exact SeqAt.RcAt.bool_none _
  |bl=>
   cases rb
   exact SeqAt.RcAt.bool_bool _ _
  |int=>
   obtain⟨t2,rfl⟩:=rb
   exact SeqAt.RcAt.bool_int _ _ _
  |str=>
   obtain⟨t2,rfl⟩:=rb
   exact SeqAt.RcAt.bool_str _ _ _
  | @tup a2 _ _ h2 r2=>
    cases rb
    obtain⟨its2,l2,_⟩:=bV I h2 r2
    exact SeqAt.RcAt.bool_tuple _ l2 (by omega)
  | @lst a2 _ _ h2 r2=>
    cases rb
    obtain⟨its2,l2,_⟩:=aJ I (SqL.of h2) r2
    exact SeqAt.RcAt.bool_list _ l2 (by omega)
  | @scr a2 _ _ h2 r2=>
    cases rb
    obtain⟨its2,l2,_⟩:=aJ I h2.seq r2
    exact SeqAt.RcAt.bool_list _ l2 (by omega)
 |int=>
  obtain⟨t1,rfl⟩:=ra
  cases py with
  |non=>
   cases rb
   exact SeqAt.RcAt.int_none _ _
  |bl=>
   cases rb
   exact SeqAt.RcAt.int_bool _ _ _
  |int=>
   obtain⟨t2,rfl⟩:=rb
   exact SeqAt.RcAt.int_int _ _ _ _
  |str=>
   obtain⟨t2,rfl⟩:=rb
   exact SeqAt.RcAt.int_str _ _ _ _
  | @tup a2 _ _ h2 r2=>
    cases rb
    obtain⟨its2,l2,_⟩:=bV I h2 r2
    exact SeqAt.RcAt.int_tuple _ _ l2 (by omega)
  | @lst a2 _ _ h2 r2=>
    cases rb
    obtain⟨its2,l2,_⟩:=aJ I (SqL.of h2) r2
    exact SeqAt.RcAt.int_list _ _ l2 (by omega)
  | @scr a2 _ _ h2 r2=>
    cases rb
    obtain⟨its2,l2,_⟩:=aJ I h2.seq r2
    exact SeqAt.RcAt.int_list _ _ l2 (by omega)
 |str=>
  obtain⟨t1,rfl⟩:=ra
  cases py with
  |non=>
   cases rb
   exact SeqAt.RcAt.str_none _ _
  |bl=>
   cases rb
   exact SeqAt.RcAt.str_bool _ _ _
  |int=>
   obtain⟨t2,rfl⟩:=rb
   exact SeqAt.RcAt.str_int _ _ _ _
  |str=>
   obtain⟨t2,rfl⟩:=rb
   exact SeqAt.RcAt.str_str _ _ _ _
  | @tup a2 _ _ h2 r2=>
    cases rb
    obtain⟨its2,l2,_⟩:=bV I h2 r2
    exact SeqAt.RcAt.str_tuple _ _ l2 (by omega)
  | @lst a2 _ _ h2 r2=>
    cases rb
    obtain⟨its2,l2,_⟩:=aJ I (SqL.of h2) r2
    exact SeqAt.RcAt.str_list _ _ l2 (by omega)
  | @scr a2 _ _ h2 r2=>
    cases rb
    obtain⟨its2,l2,_⟩:=aJ I h2.seq r2
    exact SeqAt.RcAt.str_list _ _ l2 (by omega)
 | @tup a1 _ _ h1 r1=>
   cases ra
   obtain⟨its,l1,_⟩:=bV I h1 r1
   cases py with
   |non=>
    cases rb
    exact SeqAt.RcAt.tuple_none l1 (by omega)
   |bl=>
    cases rb
    exact SeqAt.RcAt.tuple_bool _ l1 (by omega)
   |int=>
    obtain⟨t2,rfl⟩:=rb
    exact SeqAt.RcAt.tuple_int _ _ l1 (by omega)
   |str=>
    obtain⟨t2,rfl⟩:=rb
    exact SeqAt.RcAt.tuple_str _ _ l1 (by omega)
   | @tup a2 _ _ h2 r2=>
     cases rb
     obtain⟨its2,l2,_⟩:=bV I h2 r2
     exact(vi I IH (Nat.lt_succ_self _) (by unfold fw at hu;omega) h1 r1 h2 r2).1
   | @lst a2 _ _ h2 r2=>
     cases rb
     obtain⟨its2,l2,_⟩:=aJ I (SqL.of h2) r2
     exact SeqAt.RcAt.tuple_list l1 l2 (by omega)
   | @scr a2 _ _ h2 r2=>
     cases rb
     obtain⟨its2,l2,_⟩:=aJ I h2.seq r2
     exact SeqAt.RcAt.tuple_list l1 l2 (by omega)
 | @scr a1 _ _ h1 r1=>exact absurd hu (by unfold fw;omega)
 | @lst a1 _ _ h1 r1=>
   cases ra
   obtain⟨its,l1,_⟩:=aJ I (SqL.of h1) r1
   cases py with
   |non=>
    cases rb
    exact SeqAt.RcAt.list_none l1 (by omega)
   |bl=>
    cases rb
    exact SeqAt.RcAt.list_bool _ l1 (by omega)
   |int=>
    obtain⟨t2,rfl⟩:=rb
    exact SeqAt.RcAt.list_int _ _ l1 (by omega)
   |str=>
    obtain⟨t2,rfl⟩:=rb
    exact SeqAt.RcAt.list_str _ _ l1 (by omega)
   | @tup a2 _ _ h2 r2=>
     cases rb
     obtain⟨its2,l2,_⟩:=bV I h2 r2
     exact SeqAt.RcAt.list_tuple l1 l2 (by omega)
   | @lst a2 _ _ h2 r2=>
     cases rb
     obtain⟨its2,l2,_⟩:=aJ I (SqL.of h2) r2
     exact(jN I IH (Nat.lt_succ_self _) (by unfold fw at hu;omega) (SqL.of h1) r1 (SqL.of h2) r2).1
   | @scr a2 _ _ h2 r2=>
     cases rb
     obtain⟨its2,l2,_⟩:=aJ I h2.seq r2
     exact(jN I IH (Nat.lt_succ_self _) (by unfold fw at hu;omega) (SqL.of h1) r1 h2.seq r2).1
theorem ym(I:Inv X ae σ H s){x y:D}{v u:V}{a b:Value}{A:Around}(hu:A.units+fw x<cLine)(hc:A.units<cLine)(ra:RelV v a)(rb:RelV u b)(px:Rep X.K H v x)(py:Rep X.K H u y):SeqAt.RcNeAt A s a b (!eI x y):=by
 have IH: ∀ {n:Nat} {x y:D} {v u:V} {a b:Value} {A:Around},fw x<n->A.units+fw x<cLine->RelV v a->RelV u b->Rep X.K H v x->Rep X.K H u y->SeqAt.EqAt A s a b (eI x y):=λ{n x y v u a b A}=>oK I n
 unfold eI;cases px with
 |non=>
  cases ra
  cases py with
  |non=>
   cases rb
   exact SeqAt.RcNeAt.none_none
  |bl=>
   cases rb
   exact SeqAt.RcNeAt.none_bool _
  |int=>
   obtain⟨t2,rfl⟩:=rb
   exact SeqAt.RcNeAt.none_int _ _
  |str=>
   obtain⟨t2,rfl⟩:=rb
   exact SeqAt.RcNeAt.none_str _ _
  | @tup a2 _ _ h2 r2=>
    cases rb
    obtain⟨its2,l2,_⟩:=bV I h2 r2
    exact SeqAt.RcNeAt.none_tuple l2 (by omega)
  | @lst a2 _ _ h2 r2=>
    cases rb
    obtain⟨its2,l2,_⟩:=aJ I (SqL.of h2) r2
    exact SeqAt.RcNeAt.none_list l2 (by omega)
  | @scr a2 _ _ h2 r2=>
    cases rb
    obtain⟨its2,l2,_⟩:=aJ I h2.seq r2
    exact SeqAt.RcNeAt.none_list l2 (by omega)
 |bl=>
  cases ra
  cases py with
  |non=>
   cases rb
   exact SeqAt.RcNeAt.bool_none _
  |bl=>
   cases rb
   exact SeqAt.RcNeAt.bool_bool _ _
  |int=>
   obtain⟨t2,rfl⟩:=rb
   exact SeqAt.RcNeAt.bool_int _ _ _
  |str=>
   obtain⟨t2,rfl⟩:=rb
   exact SeqAt.RcNeAt.bool_str _ _ _
  | @tup a2 _ _ h2 r2=>
    cases rb
    obtain⟨its2,l2,_⟩:=bV I h2 r2
    exact SeqAt.RcNeAt.bool_tuple _ l2 (by omega)
  | @lst a2 _ _ h2 r2=>
    cases rb
    obtain⟨its2,l2,_⟩:=aJ I (SqL.of h2) r2
    exact SeqAt.RcNeAt.bool_list _ l2 (by omega)
  | @scr a2 _ _ h2 r2=>
    cases rb
    obtain⟨its2,l2,_⟩:=aJ I h2.seq r2
    exact SeqAt.RcNeAt.bool_list _ l2 (by omega)
 |int=>
  obtain⟨t1,rfl⟩:=ra
  cases py with
  |non=>
   cases rb
   exact SeqAt.RcNeAt.int_none _ _
  |bl=>
   cases rb
   exact SeqAt.RcNeAt.int_bool _ _ _
  |int=>
   obtain⟨t2,rfl⟩:=rb
   exact SeqAt.RcNeAt.int_int _ _ _ _
  |str=>
   obtain⟨t2,rfl⟩:=rb
   exact SeqAt.RcNeAt.int_str _ _ _ _
  | @tup a2 _ _ h2 r2=>
    cases rb
    obtain⟨its2,l2,_⟩:=bV I h2 r2
    exact SeqAt.RcNeAt.int_tuple _ _ l2 (by omega)
  | @lst a2 _ _ h2 r2=>
    cases rb
    obtain⟨its2,l2,_⟩:=aJ I (SqL.of h2) r2
    exact SeqAt.RcNeAt.int_list _ _ l2 (by omega)
  | @scr a2 _ _ h2 r2=>
    cases rb
    obtain⟨its2,l2,_⟩:=aJ I h2.seq r2
    exact SeqAt.RcNeAt.int_list _ _ l2 (by omega)
 |str=>
  obtain⟨t1,rfl⟩:=ra
  cases py with
  |non=>
   cases rb
   exact SeqAt.RcNeAt.str_none _ _
  |bl=>
   cases rb
   exact SeqAt.RcNeAt.str_bool _ _ _
  |int=>
   obtain⟨t2,rfl⟩:=rb
   exact SeqAt.RcNeAt.str_int _ _ _ _
  |str=>
   obtain⟨t2,rfl⟩:=rb
   exact SeqAt.RcNeAt.str_str _ _ _ _
  | @tup a2 _ _ h2 r2=>
    cases rb
    obtain⟨its2,l2,_⟩:=bV I h2 r2
    exact SeqAt.RcNeAt.str_tuple _ _ l2 (by omega)
  | @lst a2 _ _ h2 r2=>
    cases rb
    obtain⟨its2,l2,_⟩:=aJ I (SqL.of h2) r2
    exact SeqAt.RcNeAt.str_list _ _ l2 (by omega)
  | @scr a2 _ _ h2 r2=>
    cases rb
    obtain⟨its2,l2,_⟩:=aJ I h2.seq r2
    exact SeqAt.RcNeAt.str_list _ _ l2 (by omega)
 | @tup a1 _ _ h1 r1=>
   cases ra
   obtain⟨its,l1,_⟩:=bV I h1 r1
   cases py with
   |non=>
    cases rb
    exact SeqAt.RcNeAt.tuple_none l1 (by omega)
   |bl=>
    cases rb
    exact SeqAt.RcNeAt.tuple_bool _ l1 (by omega)
   |int=>
    obtain⟨t2,rfl⟩:=rb
    exact SeqAt.RcNeAt.tuple_int _ _ l1 (by omega)
   |str=>
    obtain⟨t2,rfl⟩:=rb
    exact SeqAt.RcNeAt.tuple_str _ _ l1 (by omega)
   | @tup a2 _ _ h2 r2=>
     cases rb
     obtain⟨its2,l2,_⟩:=bV I h2 r2
     exact(vi I IH (Nat.lt_succ_self _) (by unfold fw at hu;omega) h1 r1 h2 r2).2
   | @lst a2 _ _ h2 r2=>
     cases rb
     obtain⟨its2,l2,_⟩:=aJ I (SqL.of h2) r2
     exact SeqAt.RcNeAt.tuple_list l1 l2 (by omega)
   | @scr a2 _ _ h2 r2=>
     cases rb
     obtain⟨its2,l2,_⟩:=aJ I h2.seq r2
     exact SeqAt.RcNeAt.tuple_list l1 l2 (by omega)
 | @scr a1 _ _ h1 r1=>exact absurd hu (by unfold fw;omega)
 | @lst a1 _ _ h1 r1=>
   cases ra
   obtain⟨its,l1,_⟩:=aJ I (SqL.of h1) r1
   cases py with
   |non=>
    cases rb
    exact SeqAt.RcNeAt.list_none l1 (by omega)
   |bl=>
    cases rb
    exact SeqAt.RcNeAt.list_bool _ l1 (by omega)
   |int=>
    obtain⟨t2,rfl⟩:=rb
    exact SeqAt.RcNeAt.list_int _ _ l1 (by omega)
   |str=>
    obtain⟨t2,rfl⟩:=rb
    exact SeqAt.RcNeAt.list_str _ _ l1 (by omega)
   | @tup a2 _ _ h2 r2=>
     cases rb
     obtain⟨its2,l2,_⟩:=bV I h2 r2
     exact SeqAt.RcNeAt.list_tuple l1 l2 (by omega)
   | @lst a2 _ _ h2 r2=>
     cases rb
     obtain⟨its2,l2,_⟩:=aJ I (SqL.of h2) r2
     exact(jN I IH (Nat.lt_succ_self _) (by unfold fw at hu;omega) (SqL.of h1) r1 (SqL.of h2) r2).2
   | @scr a2 _ _ h2 r2=>
     cases rb
     obtain⟨its2,l2,_⟩:=aJ I h2.seq r2
     exact(jN I IH (Nat.lt_succ_self _) (by unfold fw at hu;omega) (SqL.of h1) r1 h2.seq r2).2
end
theorem Rep1.full {K:W.Frag}{H:Hp}{hid:bK}{v:V}{d:D}(h:Rep1 K H (vw H hid) v d):Rep K H v d:=by
 rcases h with h|⟨a,xs,ds,rfl,rfl,h1,h2⟩
 ·exact h.mono (dY _ _)
 ·exact .lst h1 (h2.mono (dY _ _))
def Fy(K:W.Frag):R2:=λv u H Q=> ∃x y,Rep K H v x/\Rep K H u y/\fw x<=32/\Q (.bl (eI x y)) H
def GW(K:W.Frag):R2:=λv u H Q=> ∃x y,Rep K H v x/\Rep K H u y/\fw x<=32/\Q (.bl (!eI x y)) H
theorem fE {X:Cx}(hu:X.A.units+64<cLine):jL X (compareOp .Eq) (Fy X.K):=by
 intro ae s σ H x y v u Q I rx ry h;obtain⟨dx,dy,p1,p2,hd,q⟩:=h
 exact EB I (by omega) (by omega) rx ry p1 p2 X.prog X.w _ _ ⟨.bl _,H,I,rfl,q⟩
theorem jD {X:Cx}(hu:X.A.units+64<cLine):jL X (compareOp .NotEq) (GW X.K):=by
 intro ae s σ H x y v u Q I rx ry h;obtain⟨dx,dy,p1,p2,hd,q⟩:=h
 exact ym I (by omega) (by omega) rx ry p1 p2 X.prog X.w _ _ ⟨.bl _,H,I,rfl,q⟩
def iE:D->D->Option D:=λx y=>if fw x<=32 then some (.bl (eI x y)) else none
def lh:D->D->Option D:=λx y=>if fw x<=32 then some (.bl (!eI x y)) else none
theorem hZ {K:W.Frag}:mK K .s (Fy K) iE:=by
 intro H hid v u x y d Q hf h r1 r2 q;unfold iE at h;split at h
 ·cases h;exact⟨x,y,r1.full,r2.full, ‹_›,q _ H (Same.refl _) .bl⟩
 ·cases h
theorem mQ {K:W.Frag}:mK K .s (GW K) lh:=by
 intro H hid v u x y d Q hf h r1 r2 q;unfold lh at h;split at h
 ·cases h;exact⟨x,y,r1.full,r2.full, ‹_›,q _ H (Same.refl _) .bl⟩
 ·cases h
theorem nl {X:Cx}{ae:List (Addr×Obj)}{σ:St}{H:Hp}{s:Shared}(I:Inv X ae σ H s){x:D}{v:V}{a:Value}{A:Around}(hx:Rep X.K H v x)(ra:RelV v a): ∀ {ds:List D} {xs:List V} {its:List Value},Reps X.K H xs ds->Vals xs its->A.units+dO ds<cLine->
 ∃e:Value->Bool,(∀y,y∈its->SeqAt.EqAt A s y a (e y))/\its.any e=ds.any (λd=>eI d x):=by
 intro ds xs its r rv hu
 classical
 let e:Value->Bool:=λy=>if h: ∃(d:D) (u:V),RelV u y/\Rep X.K H u d then eI h.choose x else false
 have key: ∀y u d,RelV u y->Rep X.K H u d->e y=eI d x:=λy u d h1 h2=>by
  have hex: ∃(d:D) (u:V),RelV u y/\Rep X.K H u d:=⟨d,u,h1,h2⟩
  show(if h: ∃(d:D) (u:V),RelV u y/\Rep X.K H u d then eI h.choose x else false)=eI d x
  rw[dif_pos hex];obtain⟨u',s1,s2⟩:=hex.choose_spec
  have eu:u'=u:=s1.inj h1
  rw[eu] at s2;exact Rep.eqv I s2 h2 x
 refine⟨e,?_,?_⟩
 ·induction rv generalizing ds with
  |nil=>intro y hy;cases hy
  |cons r1 t ih=>
   cases r with
   |cons p1 pt=>
    rename_i d ds;intro y hy;have hm:fw d<=dO (d::ds):=oG (i:=0) rfl
    have hm2:dO ds<=dO (d::ds):=by conv=>rhs;unfold dO
                                   exact Nat.le_max_right _ _
    rcases List.mem_cons.mp hy with rfl|hy
    ·rw[key _ _ _ r1 p1]
     exact oK I (fw d+1) (Nat.lt_succ_self _) (by omega) r1 ra p1 hx
    ·exact ih pt (by omega) y hy
 ·induction rv generalizing ds with
  |nil=>cases r;rfl
  |cons r1 t ih=>
   cases r with
   |cons p1 pt=>
    rename_i d ds;have hm2:dO ds<=dO (d::ds):=by conv=>rhs;unfold dO
                                                 exact Nat.le_max_right _ _
    rw[List.any_cons,List.any_cons,key _ _ _ r1 p1,ih pt (by omega)]
def Eh(K:W.Frag)(neg:Bool):R2:=λv u H Q=> ∃x ds a xs,Rep K H v x/\u=.ref a/\(SqL K H a xs\/SqT K H a xs)/\Reps K H xs ds/\dO ds<=32/\Q (.bl (if neg then !ds.any (λd=>eI d x) else ds.any λd=>eI d x)) H
theorem jC {X:Cx}(hu:X.A.units+64<cLine):jL X (compareOp .In) (Eh X.K false):=by
 intro ae s σ H v w a b Q I rx ry h;obtain⟨x,ds,p,xs,hx,rfl,hq,r,hd,q⟩:=h
 cases ry
 rcases hq with hq|hq
 ·obtain⟨its,rv,pl,hz⟩:=I.list hq
  obtain⟨e,h1,h2⟩:=nl (A:=X.A.in1) I hx rx r rv (by rw[gr];omega)
  refine SeqAt.in_listAt e pl.isList (λy hy=>h1 y (by simpa using hy)) ⟨.bl _,H,I,rfl,?_⟩
  rw[show its.toArray.any e=its.any e by simp,h2]
  exact q
 ·obtain⟨its,rv,pl,hz⟩:=I.tuple hq
  obtain⟨e,h1,h2⟩:=nl (A:=X.A.in1) I hx rx r rv (by rw[gr];omega)
  refine SeqAt.in_tupleAt e pl (λy hy=>h1 y (by simpa using hy)) ⟨.bl _,H,I,rfl,?_⟩
  rw[show its.toArray.any e=its.any e by simp,h2]
  exact q
theorem lZ {X:Cx}(hu:X.A.units+64<cLine):jL X (compareOp .NotIn) (Eh X.K true):=by
 intro ae s σ H v w a b Q I rx ry h;obtain⟨x,ds,p,xs,hx,rfl,hq,r,hd,q⟩:=h
 cases ry
 rcases hq with hq|hq
 ·obtain⟨its,rv,pl,hz⟩:=I.list hq
  obtain⟨e,h1,h2⟩:=nl (A:=X.A.in1) I hx rx r rv (by rw[gr];omega)
  refine SeqAt.notIn_listAt e pl.isList (λy hy=>h1 y (by simpa using hy)) ⟨.bl _,H,I,rfl,?_⟩
  rw[show its.toArray.any e=its.any e by simp,h2]
  exact q
 ·obtain⟨its,rv,pl,hz⟩:=I.tuple hq
  obtain⟨e,h1,h2⟩:=nl (A:=X.A.in1) I hx rx r rv (by rw[gr];omega)
  refine SeqAt.notIn_tupleAt e pl (λy hy=>h1 y (by simpa using hy)) ⟨.bl _,H,I,rfl,?_⟩
  rw[show its.toArray.any e=its.any e by simp,h2]
  exact q
def kf:D->Option (List D)
 | .lst ds=>some ds
 | .tup ds=>some ds
 |_=>none
def gd(neg:Bool):D->D->Option D:=λx y=>match kf y with
 |some ds=>if dO ds<=32 then some (.bl (if neg then !ds.any (λd=>eI d x) else ds.any λd=>eI d x)) else none
 |none=>none
theorem jE {K:W.Frag}(neg:Bool):mK K .s (Eh K neg) (gd neg):=by
 intro H hid v u x y d Q hf h r1 r2 q;unfold gd at h;split at h
 ·split at h
  ·rename_i ds e _
   cases h
   cases y with
   |lst zs=>
    cases e
    obtain⟨a,xs,rfl,h1,h2⟩:=r2.lst
    exact⟨x,_,a,xs,r1.full,rfl,.inl h1,h2.mono (dY _ _), ‹_›,q _ H (Same.refl _) .bl⟩
   |tup zs=>
    cases e
    obtain⟨a,xs,rfl,_,h1,h2⟩:=r2.tup
    exact⟨x,_,a,xs,r1.full,rfl,.inr h1,h2.mono (dY _ _), ‹_›,q _ H (Same.refl _) .bl⟩
   |_=>cases e
  ·cases h
 ·cases h
def Ig(T:String):D->Bool
 | .non=>T=="NoneType"
 | .bl _=>T=="bool"||T=="int"
 | .int _=>T=="int"
 | .str _=>T=="str"
 | .tup _=>T=="tuple"
 | .lst _=>T=="list"
 | .scr _=>T=="list"
structure KT(T:String):Prop where
 n: ∀K,W.kitOne K (.type "NoneType") (.type T)=some (T=="NoneType")
 b: ∀K,W.kitOne K (.type "bool") (.type T)=some (T=="bool"||T=="int")
 i: ∀K,W.kitOne K (.type "int") (.type T)=some (T=="int")
 s: ∀K,W.kitOne K (.type "str") (.type T)=some (T=="str")
 t: ∀K,W.kitOne K (.type "tuple") (.type T)=some (T=="tuple")
 l: ∀K,W.kitOne K (.type "list") (.type T)=some (T=="list")
theorem CJ:KT "list":=⟨λ_=>by kernel_rfl,λ_=>by kernel_rfl,λ_=>by kernel_rfl,λ_=>by kernel_rfl,λ_=>by kernel_rfl,λ_=>by kernel_rfl⟩
theorem yS:KT "tuple":=⟨λ_=>by kernel_rfl,λ_=>by kernel_rfl,λ_=>by kernel_rfl,λ_=>by kernel_rfl,λ_=>by kernel_rfl,λ_=>by kernel_rfl⟩
section
variable {X:Cx}{c:Ct}{e o:Expr}{k:Kd}{f g:FE}{pos p p2:Pos}
theorem yU {T:String}(kt:KT T):dP X (.builtin "isinstance") (λxs H Q=> ∃v d,xs=[v,.ty T]/\Rep X.K H v d/\Q (.bl (Ig T d)) H):=by
 intro ae s σ H xs us Q I r h;obtain⟨v,d,rfl,rp,q⟩:=h
 obtain⟨u,w',rfl,rx,ry⟩:=zj r
 cases ry
 have fin: ∀tk,EP X ae σ Q (.bool (Ig T d)) {s with toks:=tk}:=λtk=>⟨.bl _,H,I.tok _,rfl,q⟩
 cases rp with
 |non=>cases rx;exact W.kia_one W.kitx_none I.kIn True.intro (kt.n _) (λz=>nomatch z) fin
 |bl=>cases rx;exact W.kia_one W.kitx_bool I.kIn True.intro (kt.b _) (λz=>nomatch z) fin
 |int=>obtain⟨t,rfl⟩:=rx;exact W.kia_one W.kitx_int I.kIn True.intro (kt.i _) (λz=>nomatch z) fin
 |str=>obtain⟨t,rfl⟩:=rx;exact W.kia_one W.kitx_str I.kIn True.intro (kt.s _) (λz=>nomatch z) fin
 |tup h1 h2=>
  cases rx
  obtain⟨⟨ob,ho,hc⟩,_⟩:=I.tupleN h1
  exact W.kia_one W.kitx_tuple I.kIn ⟨ob,ho,hc⟩ (kt.t _) (λz=>nomatch z) fin
 |lst h1 h2=>
  cases rx
  obtain⟨its,_,⟨ob,n,ho,hc,_⟩,_⟩:=I.list (SqL.of h1)
  exact W.kia_one W.kitx_list I.kIn ⟨ob,ho,hc⟩ (kt.l _) (λz=>nomatch z) fin
 |scr h1 h2=>
  cases rx
  obtain⟨its,_,⟨ob,n,ho,hc,_⟩,_⟩:=I.list h1.seq
  exact W.kia_one W.kitx_list I.kIn ⟨ob,ho,hc⟩ (kt.l _) (λz=>nomatch z) fin
def xm(T:String)(f:FE):FE:=λρ=>(f ρ).map λd=>.bl (Ig T d)
theorem AK(T:String){y:Str}(kt:KT T)(he:DP X c k e f)(hm:X.mg "isinstance"=none)(hmT:X.mg y=none)(hg:Gl X "isinstance":=by rfl)(hgT:Gl X y:=by rfl)(hv:bootBuiltins "isinstance"=some (.builtin "isinstance"):=by kernel_rfl)(hvT:bootBuiltins y=some (.type T):=by kernel_rfl)(hn:y≠"__name__":=by decide)(hd:(y==("__debug__":Str))=false:=by decide)
 (hs1:starEach [e,.Name y p2] X.env=(false,eval e X.env)::starEach [.Name y p2] X.env:=by rfl) (hs2:starEach [.Name y p2] X.env=(false,eval (.Name y p2) X.env)::starEach [] X.env:=by rfl) (hpl:(backTo pos (starEach [.Name y p2] X.env)).any (·.1)=false:=by rfl):
 DP X c .s (.Call (.Name "isinstance" p) [e,.Name y p2] [] pos) (xm T f):=λhid ρ=>
 PE.imp (lv (yU kt) hg hm hv (dZ (he hid ρ) (dZ (CP (v:=.ty T) hgT hmT hvT rfl hn hd) iH hs2) hs1) (by decide) (by decide) hs1 hpl) λσ H Q hq_=>by
  obtain⟨sr,d,hd,q⟩:=hq_
  unfold xm at hd;cases e1:f ρ with
  |none=>rw[e1] at hd;cases hd
  |some z=>
   rw[e1] at hd;cases hd;exact⟨sr,z,e1,λv H' s' r=>⟨v,z,rfl,(RK.b k r λa n=>sr.fresh n).full,q _ H' s' .bl⟩⟩
def iA:List D->Option (List Bool)
 | []=>some []
 | .bl b::r=>(iA r).map (b:: ·)
 |_=>none
theorem tf: ∀ {ds:List D} {bs:List Bool} {i:Nat} {d:D},iA ds=some bs->ds[i]? =some d-> ∃b,d=.bl b/\bs[i]? =some b
 | [],_,_,_,_,h=>by simp at h
 |x::r,bs,i,d,h,e=>by
  cases x with
  |bl b=>
   unfold iA at h;cases e1:iA r with
   |none=>rw[e1] at h;cases h
   |some rs=>
    rw[e1] at h;cases h;cases i with
    |zero=>simp at e;subst e;exact⟨b,rfl,rfl⟩
    |succ i=>
     obtain⟨b',h1,h2⟩:=tf (i:=i) e1 (by simpa using e)
     exact⟨b',h1,by simpa using h2⟩
  |_=>cases h
theorem sy: ∀ {ds:List D} {bs:List Bool},iA ds=some bs->ds.length=bs.length
 | [],_,h=>by cases h;rfl
 |x::r,bs,h=>by
  cases x with
  |bl b=>
   unfold iA at h;cases e1:iA r with
   |none=>rw[e1] at h;cases h
   |some rs=>rw[e1] at h;cases h;simp[sy e1]
  |_=>cases h
theorem xX(bs:List Bool):(List.range bs.length).any (λi=>bs.getD i false)=bs.any id:=by
 induction bs with
 |nil=>rfl
 |cons b bs ih=>
  rw[List.length_cons,List.range_succ_eq_map,List.any_cons,List.any_map,List.any_cons];rw[show((λi=>(b::bs).getD i false)∘Nat.succ)=λi=>bs.getD i false by funext i;simp[List.getD],ih]
  rfl
theorem uU(bs:List Bool):(List.range bs.length).all (λi=>bs.getD i false)=bs.all id:=by
 induction bs with
 |nil=>rfl
 |cons b bs ih=>
  rw[List.length_cons,List.range_succ_eq_map,List.all_cons,List.all_map,List.all_cons];rw[show((λi=>(b::bs).getD i false)∘Nat.succ)=λi=>bs.getD i false by funext i;simp[List.getD],ih]
  rfl
theorem nM {ae:List (Addr×Obj)}{σ:St}{H:Hp}{s:Shared}{a:Addr}{xs:List V}{ds:List D}{bs:List Bool}(I:Inv X ae σ H s)(h1:SqL X.K H a xs)(h2:Reps X.K H xs ds)(hb:iA ds=some bs)(hc:X.calm=true){E:Value->Shared->Prop}{R:Value->Shared->Prop}
 (hR: ∀(J:Addr) (s2:Shared) (its:Array Value) (hl:its.size=bs.length),Walks X.prog X.w X.A.in1 J [J,a] [J] its.size (λi v=>its[i]? =some v) (λi h=>h.IsListIter J a i/\h.IsList a its)->s2.heap.IsListIter J a 0->s2.heap.IsList a its->TruthOf X.prog X.w X.A.in1 (λi v=>its[i]? =some v) (λi=>bs.getD i false)->
   (∀h' tk,(∀b o,b∉ [J]->s2.heap.get? b=some o->h'.get? b=some o)->Inv X ae σ H {s2 with heap:=h',toks:=tk})->R (.ref J) s2):wpAny (model X.prog X.w) X.A.in1 (pyIter (.ref a)) R E s:=by
 obtain⟨its,rv,pl,hz⟩:=I.list h1
 have l1:=rv.length
 have l2:=h2.length
 have l3:=sy hb
 have hlt:a<s.heap.objs.size:=by obtain⟨o,n,e,_⟩:=pl;exact Heap.lt_size e
 refine wpAny_pyIter_list pl.isList (hR s.heap.objs.size _ its.toArray (by simp;omega) (Walks.list (A:=X.A.in1) (I.ok.hd hc) _ a (Nat.ne_of_lt hlt) its.toArray) ⟨_,Heap.get?_push_size _ rfl,rfl,rfl⟩ ?_ ?_ ?_)
 ·obtain⟨o,ho,q⟩:=pl.isList
  exact⟨o,Heap.get?_push_of_some _ ho,q⟩
 ·intro i v s' Q E hv hq
  have hv':its[i]? =some v:=by simpa using hv
  have hi:=(List.getElem?_eq_some_iff.mp hv').1
  have ex:xs[i]? =some xs[i]:=List.getElem?_eq_getElem (by omega)
  obtain⟨u,e1,r1⟩:=rv.get ex
  rw[hv'] at e1;cases e1;obtain⟨d,e2,r2⟩:=h2.get' ex
  obtain⟨b,rfl,e3⟩:=tf hb e2
  rcases hx:xs[i] with _|_|_|_|_|_|_|_<;>rw[hx] at r1 r2<;>cases r2
  cases r1
  have:bs.getD i false=b:=by simp[List.getD,e3]
  dsimp only at hq;rw[this] at hq;exact wpAny_truthy_bool hq
 ·intro h' tk hk
  refine I.kept λb o e=>hk b o (λhm=>?_) (Heap.get?_push_of_some _ e)
  have:b=s.heap.objs.size:=by simpa using hm
  exact absurd (this▸Heap.lt_size e) (Nat.lt_irrefl _)
theorem rY(hc:X.calm=true):dP X (.builtin "any") (λxs H Q=> ∃a ys ds bs,xs=[.ref a]/\SqL X.K H a ys/\Reps X.K H ys ds/\iA ds=some bs/\Q (.bl (bs.any id)) H):=by
 intro ae s σ H xs us Q I r h;obtain⟨a,ys,ds,bs,rfl,h1,h2,h3,q⟩:=h
 obtain⟨u,rfl,rx⟩:=kc r
 cases rx
 refine call_any_walk (nM I h1 h2 h3 hc λJ s2 its hl W st1 st2 tr kp=>?_)
 refine⟨J,_,_,_,_,_,_,rfl,W,⟨st1,st2⟩,tr,λh' tk hk=>⟨.bl _,H,kp h' tk hk,rfl,?_⟩⟩
 rw[hl,xX];exact q
theorem yD(hc:X.calm=true):dP X (.builtin "all") (λxs H Q=> ∃a ys ds bs,xs=[.ref a]/\SqL X.K H a ys/\Reps X.K H ys ds/\iA ds=some bs/\Q (.bl (bs.all id)) H):=by
 intro ae s σ H xs us Q I r h;obtain⟨a,ys,ds,bs,rfl,h1,h2,h3,q⟩:=h
 obtain⟨u,rfl,rx⟩:=kc r
 cases rx
 refine call_all_walk (nM I h1 h2 h3 hc λJ s2 its hl W st1 st2 tr kp=>?_)
 refine⟨J,_,_,_,_,_,_,rfl,W,⟨st1,st2⟩,tr,λh' tk hk=>⟨.bl _,H,kp h' tk hk,rfl,?_⟩⟩
 rw[hl,uU];exact q
def xl:List D->Option D
 | [.lst ds]=>(iA ds).map λbs=>.bl (bs.any id)
 |_=>none
def AY:List D->Option D
 | [.lst ds]=>(iA ds).map λbs=>.bl (bs.all id)
 |_=>none
theorem zA:gB X.K .s (λxs H Q=> ∃a ys ds bs,xs=[.ref a]/\SqL X.K H a ys/\Reps X.K H ys ds/\iA ds=some bs/\Q (.bl (bs.any id)) H) xl:=by
 intro H hid vs ds d Q hf h r q;unfold xl at h;split at h
 ·rename_i zs
  cases e1:iA zs with
  |none=>rw[e1] at h;cases h
  |some bs=>
   rw[e1] at h;cases h;obtain⟨x,rfl,r1⟩:=Reps1.one r
   obtain⟨a,xs,rfl,h1,h2⟩:=r1.lst
   exact⟨a,xs,zs,bs,rfl,h1,h2.mono (dY _ _),e1,q _ H (Same.refl _) .bl⟩
 ·cases h
theorem Ev:gB X.K .s (λxs H Q=> ∃a ys ds bs,xs=[.ref a]/\SqL X.K H a ys/\Reps X.K H ys ds/\iA ds=some bs/\Q (.bl (bs.all id)) H) AY:=by
 intro H hid vs ds d Q hf h r q;unfold AY at h;split at h
 ·rename_i zs
  cases e1:iA zs with
  |none=>rw[e1] at h;cases h
  |some bs=>
   rw[e1] at h;cases h;obtain⟨x,rfl,r1⟩:=Reps1.one r
   obtain⟨a,xs,rfl,h1,h2⟩:=r1.lst
   exact⟨a,xs,zs,bs,rfl,h1,h2.mono (dY _ _),e1,q _ H (Same.refl _) .bl⟩
 ·cases h
def gQ:List D->Option (List Int)
 | []=>some []
 | .int b::r=>(gQ r).map (b:: ·)
 |_=>none
theorem iC: ∀ {ds:List D} {ns:List Int},gQ ds=some ns->ds=ns.map D.int
 | [],_,h=>by cases h;rfl
 |x::r,bs,h=>by
  cases x with
  |int b=>
   unfold gQ at h;cases e1:gQ r with
   |none=>rw[e1] at h;cases h
   |some rs=>rw[e1] at h;cases h;simp[iC e1]
  |_=>cases h
end
end L2
namespace PySem.SeqAt
open AutoSeq1 (wpAny_loadPart')
open MeetsSeq MeetsSeq2 MeetsSeq3 SeqRoads2
end PySem.SeqAt
namespace L2
open PySem PySem.Spec PyProof.Rows
section
variable {X:Cx}{c:Ct}{e o:Expr}{k k2:Kd}{f g:FE}{pos p p2 apos:Pos}
theorem xu:dP X (.type "range") (λxs H Q=> ∃j:Int,xs=[.int j]/\ ∀p,H p=none->Q (.ref p) (bM H p (.rng 0 j))):=by
 intro ae s σ H xs us Q I r h;obtain⟨j,rfl,q⟩:=h
 obtain⟨u,rfl,t,rfl⟩:=kc r
 refine call_range_1 ⟨.ref s.heap.objs.size,_,I.laid (λb o e=>Heap.get?_push_of_some _ e) (Nat.le_refl _) ?_,rfl,q _ (I.hok.fresh (Nat.le_refl _))⟩
 exact⟨_,_,_,Heap.get?_push_size _ rfl⟩
theorem FW(lo:Int)(n:Nat): ∀ {K:W.Frag} {F:Hp},Reps K F ((List.range n).map λ(i:Nat)=>V.int (lo+i)) (o6 lo n):=by
 intro K F;unfold o6
 generalize List.range n=l
 induction l with
 |nil=>exact .nil
 |cons a l ih=>exact .cons .int ih
theorem oZ(hc:X.calm=true):dP X (.type "list") (λxs H Q=> ∃p lo hi,xs=[.ref p]/\H p=some (.rng lo hi)/\ -(2^30)<=lo/\lo<=2^30/\ -(2^30)<=hi/\hi-lo<=1000000/\hi<=2^31/\ ∀l,H l=none->Q (.ref l) (bM H l (.lst ((List.range (hi-lo).toNat).map λ(i:Nat)=>V.int (lo+i))))):=by
 intro ae s σ H xs us Q I r h;obtain⟨p,lo,hi,rfl,hp,b1,b2,b3,b4,b5,q⟩:=h
 obtain⟨u,rfl,rx⟩:=kc r
 cases rx
 obtain⟨t,u,v,hr⟩:=I.hok p _ hp
 have hsz:Builtin.Range.rangeSize lo hi 1=(hi-lo).toNat:=by
  unfold Builtin.Range.rangeSize;rw[if_pos (by decide)]
  split
  ·rw[Int.ediv_one];omega
  ·omega
 refine call_list_range (a:=lo) (b:=hi) (c:=1) (n:=(hi-lo).toNat) (I.ok.hd hc) hr ?_ hsz (by omega) λh' tk acc' c' kp hS hacc=>?_
 ·exact small_one (by omega) (by omega) (by omega) (by omega)
 ·have hz:(hi-lo).toNat<=sizeLine:=by rw[sizeLine_eq];omega
  refine⟨.ref s.heap.objs.size,_,I.laid (t':=tk) kp (Nat.le_refl _) (show ObjOk X.prog X.w _ h' _ (.lst _) from⟨by simpa using hz,acc'.toList,c',?_,by simpa using hS⟩),rfl,q _ (I.hok.fresh (Nat.le_refl _))⟩
  obtain⟨ha,hb⟩:=hacc
  have key: ∀(l:List Value) (k m:Nat),l.length=m->(∀(j:Nat) v,l[j]? =some v-> ∃t,v=.int (lo+((k+j:Nat):Int)*1) t)->Vals ((List.range' k m).map λ(i:Nat)=>V.int (lo+i)) l:=by
   intro l
   induction l with
   |nil=>intro k m hm _;subst hm;exact .nil
   |cons x l ih=>
    intro k m hm hv;subst hm;rw[List.length_cons,List.range'_succ];refine .cons ?_ (ih (k+1) l.length rfl λj v e=>?_)
    ·obtain⟨t,rfl⟩:=hv 0 x rfl
     exact⟨t,by simp⟩
    ·obtain⟨t,rfl⟩:=hv (j+1) v (by simpa using e)
     exact⟨t,by congr 3;omega⟩
  have:=key acc'.toList 0 (hi-lo).toNat (by simpa using ha) λj v e=>by
   have:=hb j v (by simpa using e)
   simpa using this
  rw[List.range_eq_range'];exact this
def CN:D->Option D
 | .int j=>if j.natAbs<=1000000 then some (.lst (o6 0 j.toNat)) else none
 |_=>none
def ET(f:FE):FE:=λρ=>(f ρ).bind CN
theorem oW(hc:X.calm=true)(hml:X.mg "list"=none)(hmr:X.mg "range"=none)(he:DP X c k e f)(hgl:Gl X "list":=by rfl)(hgr:Gl X "range":=by rfl)(hvl:bootBuiltins "list"=some (.type "list"):=by kernel_rfl)(hvr:bootBuiltins "range"=some (.type "range"):=by kernel_rfl)
 (hs1:starEach [e] X.env=(false,eval e X.env)::starEach [] X.env:=by rfl) (hpl1:(backTo pos (starEach [] X.env)).any (·.1)=false:=by rfl) (hpl2:(backTo p2 (starEach [] X.env)).any (·.1)=false:=by rfl) {p3:Pos}
 (hs2:starEach [.Call (.Name "range" p3) [e] [] p2] X.env=(false,eval (.Call (.Name "range" p3) [e] [] p2) X.env)::starEach [] X.env:=by rfl):
 DP X c .n (.Call (.Name "list" p) [.Call (.Name "range" p3) [e] [] p2] [] pos) (ET f):=λhid ρ=>
 PE.imp (ii (oZ hc) hgl hml hvl (dZ (ii xu hgr hmr hvr (dZ (he hid ρ) iH hs1) (by decide) (by decide) hs1 hpl2) iH hs2) (by decide) (by decide) hs2 hpl1) λσ H Q hq_=>by
  obtain⟨sr,d,hd,q⟩:=hq_
  unfold ET at hd;cases e1:f ρ with
  |none=>rw[e1] at hd;cases hd
  |some z=>
   rw[e1] at hd;have hd:CN z=some d:=hd
   unfold CN at hd;split at hd
   ·split at hd
    ·rename_i _ j _ _
     cases hd
     refine⟨sr,_,e1,λv H1 s1 r1=>?_⟩
     have b1:=(RK.b k r1 λa n=>sr.fresh n).int
     cases b1
     refine⟨j,rfl,λr hr=>?_⟩
     refine⟨r,0,j,rfl,aK,by omega,by omega,by omega,by omega,by omega,λl hl=>?_⟩
     have s2:Same H (bM H1 r (.rng 0 j)):=s1.trans (aW hr _)
     refine q _ _ (s2.trans (aW hl _)) ?_
     have:=gx (hid:=hid) (K:=X.K) hl s2 (FW 0 (j-0).toNat)
     rw[show(j-0).toNat=j.toNat by omega] at this⊢
     exact this
    ·cases hd
   ·cases hd
def aO:=i2 (λ_ _=>true) λi j=>.int (i+j)
def fz:=i2 (λ_ _=>true) λi j=>.int (i-j)
def fq:=i2 (λi j=>decide (i.natAbs<2^1000)&&decide (j.natAbs<2^1000)) λi j=>.int (i*j)
def bo:=i2 (λ_ j=>decide (0<j)) λi j=>.int (i % j)
def kO:=i2 (λ_ j=>decide (0<j)&&decide (j.natAbs<2^1000)) λi j=>.int (i / j)
def fb:=i2 (λi j=>decide (0<=j)&&decide (j<=1000000)&&decide (i.natAbs<2^64)) λi j=>.int (i^j.toNat)
def ya:=i2 (λ_ _=>true) λi j=>.bl (decide (i<j))
def yd:=i2 (λ_ _=>true) λi j=>.bl (decide (i<=j))
def Cu:=i2 (λ_ _=>true) λi j=>.bl (decide (j<i))
def ER:=i2 (λ_ _=>true) λi j=>.bl (decide (j<=i))
theorem wl {i:Int}(h:i.natAbs<2^1000):Builtin.Int.intBits i<=2^20:=by
 unfold Builtin.Int.intBits;split
 ·exact Nat.zero_le _
 ·rename_i hz
  have h0:i.natAbs≠0:=by simp at hz;omega
  have:=(Nat.log2_lt h0).mpr h
  omega
theorem Ca:jL X (binaryOp .Mult) (rI IntMulOk λi j=>.int (i*j)):=G7 λ_ _ _ _ _ _ _ hc q=>mul_int q hc
variable {a b:Expr}
theorem bC {k1 k2:Kd}(ha:DP X c k1 a f)(hb:DP X c k2 b g):DP X c .s (.BinOp a .Add b pos) (ak aO f g):=mN Dr Dd ha hb
theorem iS {k1 k2:Kd}(ha:DP X c k1 a f)(hb:DP X c k2 b g):DP X c .s (.BinOp a .Sub b pos) (ak fz f g):=mN DL Dd ha hb
theorem ED {K:W.Frag}:mK K .s (rI IntMulOk λi j=>.int (i*j)) fq:=BT λi j h=>by
 simp only[Bool.and_eq_true,decide_eq_true_eq] at h;exact IntMulOk.of_bits (wl h.1) (wl h.2)
theorem lT {k1 k2:Kd}(ha:DP X c k1 a f)(hb:DP X c k2 b g):DP X c .s (.BinOp a .Mult b pos) (ak fq f g):=mN Ca ED ha hb
theorem Eb {K:W.Frag}:mK K .s (rI (λ_ j=>0<j) λi j=>.int (i % j)) bo:=BT λi j h=>by simpa using h
theorem cQ {k1 k2:Kd}(ha:DP X c k1 a f)(hb:DP X c k2 b g):DP X c .s (.BinOp a .Mod b pos) (ak bo f g):=mN D1 Eb ha hb
theorem zB:jL X (binaryOp .FloorDiv) (rI (λ_ j=>0<j/\j.natAbs<2^1000) λi j=>.int (i / j)):=G7 λi j _ _ _ _ _ hc q=>by
 obtain⟨h1,h2⟩:=hc
 refine floordiv_int (by omega) (by rw[Int.fdiv_eq_ediv_of_nonneg i (by omega)];exact q) (.inl (PyProof.noPylong_of_log2 ?_))
 have:=(Nat.log2_lt (n:=j.natAbs) (by omega)).mpr h2
 omega
theorem Bc {K:W.Frag}:mK K .s (rI (λ_ j=>0<j/\j.natAbs<2^1000) λi j=>.int (i / j)) kO:=BT λi j h=>by
 simp only[Bool.and_eq_true,decide_eq_true_eq] at h;exact⟨h.1,h.2⟩
theorem vx {k1 k2:Kd}(ha:DP X c k1 a f)(hb:DP X c k2 b g):DP X c .s (.BinOp a .FloorDiv b pos) (ak kO f g):=mN zB Bc ha hb
theorem DC {K:W.Frag}:mK K .s (rI GQ λi j=>.int (i^j.toNat)) fb:=BT λi j h=>by
 simp only[Bool.and_eq_true,decide_eq_true_eq] at h;exact⟨h.1.1,h.1.2,h.2⟩
theorem lM {k1 k2:Kd}(ha:DP X c k1 a f)(hb:DP X c k2 b g):DP X c .s (.BinOp a .Pow b pos) (ak fb f g):=mN Ek DC ha hb
def Dt:D->Option D
 | .int i=>some (.int (-i))
 |_=>none
def o4(f:FE):FE:=λρ=>(f ρ).bind Dt
theorem rE(ha:DP X c k a f):DP X c .s (.UnaryOp .USub a pos) (o4 f):=λhid ρ=>PE.imp (Gw EG (ha hid ρ)) λσ H Q hq_=>by
 obtain⟨sr,d,hd,q⟩:=hq_
 unfold o4 at hd;cases e1:f ρ with
 |none=>rw[e1] at hd;cases hd
 |some z=>
  rw[e1] at hd;have hd:Dt z=some d:=hd
  unfold Dt at hd;split at hd
  ·cases hd
   refine⟨sr,_,e1,λv H1 s1 r1=>?_⟩
   cases (RK.b k r1 λa n=>sr.fresh n).int
   exact⟨_,rfl,q _ H1 s1 .int⟩
  ·cases hd
end
structure Cl(P:Program)(w:World)(K:W.Frag)(mg:Str->Option Value)(base:Heap)(k:Nat)(x:Str)(ps:List Str)(sp:Sp):Prop where
 ex: ∃f fd,FnOk P w K mg base rO k f fd ps sp/\mg x=some (.ref f)/\W.keepIn K (.ref f)=true/\Binds K fd ps []
structure Df(K:W.Frag)(mg:Str->Option Value)(x:Str)(st:Stmt)(ps:List Str):Prop where
 ex: ∃f fd,Fun K x x st f fd/\mg x=some (.ref f)/\Binds K fd ps []
section
variable {P:Program}{w:World}{K:W.Frag}{mg:Str->Option Value}{base:Heap}{x:Str}{st:Stmt}{N ps:List Str}{k n:Nat}{t:FS}{kd:Kd}
theorem bn(F:Df K mg x st ps)(S:FnScope N ps (am st))(hkd:kd≠ .b)(hn:ps.length=n)
 (body: ∀(f:Addr) (cdv:Value) (A:Around) (outer:List Env) (s:Shared) (H:Hp) (hid:bK) (E:XK),Room k (A.deeper (envOfC x (am st) s.heap.objs.size f cdv))->
   ua (pg rO P w K mg base N x (am st) f cdv A outer s H E).nox ⟨H,hid,λ_=>false⟩ kd (aM st) t):
 Cl P w K mg base (k+1) x ps (dU K kd n (gF kd N.length t)):=by
 obtain⟨f,fd,F,hm,hb⟩:=F.ex
 subst hn;exact⟨f,fd,wE F S hkd (body f),hm,F.kp,hb⟩
theorem rB(F:Df K mg x st ps)(S:FnScope N ps (am st))(hkd:kd≠ .b)(hn:ps.length=n+1)
 (body: ∀(f:Addr) (cdv:Value) (A:Around) (outer:List Env) (s:Shared) (H:Hp) (hid:bK) (a:Addr) (E:XK),Room k (A.deeper (envOfC x (am st) s.heap.objs.size f cdv))->
   ua (pg rO P w K mg base N x (am st) f cdv A outer s H E).nox ⟨H,hid,λb=>decide (b=a)⟩ kd (aM st) t):
 Cl P w K mg base (k+1) x ps (si K kd n (uY kd N.length t)):=by
 obtain⟨f,fd,F,hm,hb⟩:=F.ex
 exact⟨f,fd,E6 F S hkd hn (body f),hm,F.kp,hb⟩
end
section
variable {X:Cx}{c:Ct}{e a b:Expr}{es rest:List Expr}{k:Kd}{pos p:Pos}{x:Str}{ps:List Str}{j n:Nat}
def nF(n:Nat)(P:List D->Option D):List D->Option D:=λds=>if ds.length=n then P ds else none
theorem bN {P:List D->Option D}{fs:FA}(C:Cl X.prog X.w X.K X.mg X.base j x ps (dU X.K k n P))(hr:Room j X.A)
 (ha:DA X c (e::es) fs) (hg:Gl X x:=by rfl) (hdb:(x==("__debug__":Str))=false:=by decide) (he:starEach (e::es) X.env=(false,eval e X.env)::starEach es X.env:=by rfl) (hpl:(backTo pos (starEach es X.env)).any (·.1)=false:=by rfl):
 DP X c k (.Call (.Name x p) (e::es) [] pos) (ao (nF n P) fs):=by
 obtain⟨f,fd,F,hm,hk,hb⟩:=C.ex
 exact Co F hr hm hk hb ha hg hdb he hpl
theorem jn(i:Nat){y:Str}{py:Pos}{M:List D->List D->Option (D×List D)}{fs:GA}(C:Cl X.prog X.w X.K X.mg X.base j x ps (si X.K k n M))(hr:Room j X.A)
 (ha:DG X c es fs) (hkb:k≠ .b:=by decide) (hN:X.N[i]? =some y:=by rfl) (hv:qI X.env.scope y:=by first|exact Or.inl rfl|exact Or.inr (Or.inl rfl)|exact Or.inr (Or.inr rfl)) (hd:(y==("__debug__":Str))=false:=by decide)
 (hcd:(y==("__classdict__":Str))=false:=by decide) (hs:starEach (.Name y py::es) X.env=(false,eval (.Name y py) X.env)::starEach es X.env:=by rfl) (hg:Gl X x:=by rfl) (hdb:(x==("__debug__":Str))=false:=by decide) (hpl:(backTo pos (starEach es X.env)).any (·.1)=false:=by rfl):
 DE X c k (.Call (.Name x p) (.Name y py::es) [] pos) (aN i n M fs):=by
 obtain⟨f,fd,F,hm,hk,hb⟩:=C.ex
 exact ze i F hr hm hk hb ha hkb hN hv hd hcd hs hg hdb hpl
end
open PySem PySem.W PyProof.Rows
structure Od(b:Nat->Nat->Bool):Prop where
 tr: ∀ {i j k:Nat},b j i=false->b k j=false->b k i=false
 as: ∀ {i j:Nat},b i j=true->b j i=false
theorem Od.rf {b:Nat->Nat->Bool}(O:Od b)(i:Nat):b i i=false:=by
 cases h:b i i with
 |false=>rfl
 |true=>have:=O.as h;rw[h] at this;exact this
structure Pm(N:Nat)(p:Array Nat):Prop where
 perm:p.Perm (List.toArray (List.range N))
theorem Pm.size {N:Nat}{p:Array Nat}(h:Pm N p):p.size=N:=by rw[h.perm.size_eq];simp
theorem Pm.lt {N:Nat}{p:Array Nat}(h:Pm N p)(hN:0<N)(k:Nat):p.getD k 0<N:=by
 by_cases hk:k<p.size
 ·have e:p.getD k 0=p[k]:=by simp[Array.getD,hk]
  rw[e];have:p[k]∈(List.toArray (List.range N)):=h.perm.mem_iff.mp (Array.getElem_mem hk)
  simpa using this
 ·have e:p.getD k 0=0:=by simp[Array.getD,hk]
  rw[e];exact hN
theorem sW {p q:Array Nat}{i j:Nat}(h:p[i]? =q[j]?):p.getD i 0=q.getD j 0:=by
 rw[Array.getD_eq_getD_getElem?,Array.getD_eq_getD_getElem?,h]
section
variable {b:Nat->Nat->Bool}{N:Nat}{cmp:Nat->Nat->(Bool->Shared->Prop)->Shared->Prop}{s:Shared}
def Srt(b:Nat->Nat->Bool)(p:Array Nat)(n:Nat):Prop:= ∀i j,i<=j->j<n->b (p.getD j 0) (p.getD i 0)=false
def Fal(b:Nat->Nat->Bool)(p:Array Nat)(n:Nat):Prop:= ∀i j,i<=j->j<n->b (p.getD i 0) (p.getD j 0)=false
theorem Srt.succ(O:Od b){p:Array Nat}{n:Nat}(h:Srt b p n)(hn:1<=n)(e:b (p.getD n 0) (p.getD (n-1) 0)=false):Srt b p (n+1):=λi j hij hj=>by
 by_cases h1:j<n
 ·exact h i j hij h1
 ·have:j=n:=by omega
  subst this
  by_cases h2:i=j
  ·subst h2;exact O.rf _
  ·exact O.tr (h i (j-1) (by omega) (by omega)) e
theorem Fal.succ(O:Od b){p:Array Nat}{n:Nat}(h:Fal b p n)(hn:1<=n)(e:b (p.getD (n-1) 0) (p.getD n 0)=false):Fal b p (n+1):=λi j hij hj=>by
 by_cases h1:j<n
 ·exact h i j hij h1
 ·have:j=n:=by omega
  subst this
  by_cases h2:i=j
  ·subst h2;exact O.rf _
  ·exact O.tr e (h i (j-1) (by omega) (by omega))
theorem Fal.congr(O:Od b){p q:Array Nat}{n:Nat}(h:Fal b p n)(e: ∀k,k<n->b (p.getD k 0) (q.getD k 0)=false/\b (q.getD k 0) (p.getD k 0)=false):Fal b q n:=λi j hij hj=>
 O.tr (O.tr (e j hj).1 (h i j hij hj)) (e i (by omega)).2
theorem BB(O:Od b)(p:Array Nat):Srt b p 1:=λi j hij hj=>by
 have:i=j:=by omega
 subst this;exact O.rf _
theorem Bj(O:Od b)(p:Array Nat):Fal b p 1:=λi j hij hj=>by
 have:i=j:=by omega
 subst this;exact O.rf _
theorem lL {p:Array Nat}{i j:Nat}(hj:j<=p.size)(k:Nat):(kas_rev p i j).getD k 0=if i<=k/\k<j then p.getD (i+j-1-k) 0 else p.getD k 0:=by
 have:=getElem?_mirror_all (i:=i) hj k
 unfold kas_rev;split
 ·rename_i h;rw[if_pos h] at this;exact sW this
 ·rename_i h;rw[if_neg h] at this;exact sW this
theorem Pm.rev {p:Array Nat}(h:Pm N p)(i j:Nat):Pm N (kas_rev p i j):=⟨(mirror_perm _ _ _ _).trans h.perm⟩
variable(O:Od b)(hN:0<N)(hc: ∀(i j:Nat) (C:Bool->Shared->Prop),i<N->j<N->C (b i j) s->cmp i j C s)
include O hN hc
theorem uA {p:Array Nat}(P:Pm N p){Q:Nat->Shared->Prop}: ∀(f n:Nat),1<=n->n+f<=N->Srt b p n->
 (∀m,n<=m->m<=n+f->Srt b p m->(m<n+f->b (p.getD m 0) (p.getD (m-1) 0)=true)->Q m s)->(kas_asc p f n).kasWp cmp Q s
 |0,n,h1,h2,hs,q=>q n (Nat.le_refl _) (Nat.le_refl _) hs λz=>absurd z (Nat.lt_irrefl _)
 |f+1,n,h1,h2,hs,q=>by
  unfold kas_asc;refine hc _ _ _ (P.lt hN _) (P.lt hN _) ?_
  cases e:b (p.getD n 0) (p.getD (n-1) 0) with
  |true=>simp only[if_true];exact q n (Nat.le_refl _) (by omega) hs λ_=>e
  |false=>
   simp only[Bool.false_eq_true,if_false];exact uA P f (n+1) (by omega) (by omega) (hs.succ O h1 e) λm a1 a2 a3 a4=>q m (by omega) (by omega) a3 λz=>a4 (by omega)
def Eqs(b:Nat->Nat->Bool)(p:Array Nat)(n q:Nat):Prop:= ∀i,n- (q+1)<=i->i<n->b (p.getD i 0) (p.getD (n-1) 0)=false/\b (p.getD (n-1) 0) (p.getD i 0)=false
omit hN hc in
theorem Eqs.rev {p:Array Nat}{n q:Nat}(hn:n<=p.size)(hq:q<n)(h:Eqs b p n q)(k:Nat):b (p.getD k 0) ((kas_rev p (n- (q+1)) n).getD k 0)=false/\b ((kas_rev p (n- (q+1)) n).getD k 0) (p.getD k 0)=false:=by
 rw[lL hn];split
 ·rename_i hk
  have h1:=h k hk.1 hk.2
  have h2:=h (n- (q+1)+n-1-k) (by omega) (by omega)
  exact⟨O.tr h2.2 h1.1,O.tr h1.2 h2.1⟩
 ·exact⟨O.rf _,O.rf _⟩
theorem nw {Q:Array Nat×Nat×Nat->Shared->Prop}: ∀(f:Nat) (p:Array Nat) (n q:Nat),Pm N p->1<=n->n+f<=N->q<n->Fal b p n->Eqs b p n q->
 (∀p' n' q',Pm N p'->n<=n'->n'<=n+f->q'<n'->Fal b p' n'->Eqs b p' n' q'->Q (p',n',q') s)->(kas_desc f p n q).kasWp cmp Q s
 |0,p,n,q,P,h1,h2,hq,hf,he,k=>k p n q P (Nat.le_refl _) (Nat.le_refl _) hq hf he
 |f+1,p,n,q,P,h1,h2,hq,hf,he,k=>by
  have hz:=P.size
  have e0: ∀p':Array Nat,Eqs b p' (n+1) 0:=λp' i a1 a2=>by
   have:i=n:=by omega
   subst this;exact⟨O.rf _,O.rf _⟩
  unfold kas_desc;refine hc _ _ _ (P.lt hN _) (P.lt hN _) ?_
  cases e:b (p.getD n 0) (p.getD (n-1) 0) with
  |true=>
   simp only[if_true];split
   ·rename_i hq0
    have ev:=he.rev O (by omega) hq
    have hf':Fal b (kas_rev p (n- (q+1)) n) n:=hf.congr O λk _=>ev k
    refine nw f _ (n+1) 0 (P.rev _ _) (by omega) (by omega) (by omega) (hf'.succ O h1 ?_) (e0 _) λp' n' q' a1 a2 a3=>k p' n' q' a1 (by omega) (by omega)
    have e1:(kas_rev p (n- (q+1)) n).getD n 0=p.getD n 0:=by rw[lL (by omega),if_neg (by omega)]
    rw[e1];exact O.tr (O.as e) (ev (n-1)).2
   ·exact nw f p (n+1) 0 P (by omega) (by omega) (by omega) (hf.succ O h1 (O.as e)) (e0 _) λp' n' q' a1 a2 a3=>k p' n' q' a1 (by omega) (by omega)
  |false=>
   simp only[Bool.false_eq_true,if_false];refine hc _ _ _ (P.lt hN _) (P.lt hN _) ?_
   cases e2:b (p.getD (n-1) 0) (p.getD n 0) with
   |true=>simp only[if_true];exact k p n q P (Nat.le_refl _) (by omega) hq hf he
   |false=>
    simp only[Bool.false_eq_true,if_false];refine nw f p (n+1) (q+1) P (by omega) (by omega) (by omega) (hf.succ O h1 e2) (λi a1 a2=>?_) λp' n' q' b1 b2 b3=>k p' n' q' b1 (by omega) (by omega)
    rw[show n+1-1=n by omega]
    by_cases hi:i=n
    ·subst hi;exact⟨O.rf _,O.rf _⟩
    ·have z:=he i (by omega) (by omega)
     exact⟨O.tr e2 z.1,O.tr z.2 e⟩
theorem tO {p:Array Nat}(P:Pm N p){n:Nat}(h1:1<=n)(hn:n<=N)(hf:Fal b p n){Q:Nat×Array Nat->Shared->Prop}(q: ∀m p',Pm N p'->1<=m->m<=N->Srt b p' m->Q (m,p') s):(kas_tail3 n N p).kasWp cmp Q s:=by
 unfold kas_tail3;rw[KasT.kasWp_bind];have hz:=P.size
 have hs:Srt b (kas_rev p 0 n) n:=λi j hij hj=>by
  rw[lL (by omega),lL (by omega),if_pos (by omega),if_pos (by omega)]
  exact hf _ _ (by omega) (by omega)
 exact uA O hN hc (P.rev _ _) (N-n) n h1 (by omega) hs λm a1 a2 a3 _=>q m _ (P.rev _ _) (by omega) (by omega) a3
theorem mO {p:Array Nat}(P:Pm N p){n:Nat}(h1:1<=n)(hn:n+1<=N)(hf:Fal b p (n+1)){Q:Nat×Array Nat->Shared->Prop}(q: ∀m p',Pm N p'->1<=m->m<=N->Srt b p' m->Q (m,p') s):(kas_descPart n N p).kasWp cmp Q s:=by
 unfold kas_descPart;rw[KasT.kasWp_bind];refine nw O hN hc (N- (n+1)) p (n+1) 0 P (by omega) (by omega) (by omega) hf (λi a1 a2=>?_) λp' n' q' a1 a2 a3 a4 a5 a6=>?_
 ·have:i=n:=by omega
  subst this;exact⟨O.rf _,O.rf _⟩
 ·dsimp only
  have hz:=a1.size
  split
  ·exact tO O hN hc (a1.rev _ _) (by omega) (by omega) (a5.congr O λk _=>a6.rev O (by omega) a4 k) q
  ·exact tO O hN hc a1 (by omega) (by omega) a5 q
theorem Av {p:Array Nat}(P:Pm N p){Q:Nat×Array Nat->Shared->Prop}(q: ∀m p',Pm N p'->1<=m->m<=N->Srt b p' m->Q (m,p') s):(kas_count N p).kasWp cmp Q s:=by
 unfold kas_count;rw[KasT.kasWp_bind];have hz:=P.size
 refine uA O hN hc P (N-1) 1 (Nat.le_refl _) (by omega) (BB O p) λm a1 a2 a3 a4=>?_
 split
 ·exact q m p P a1 (by omega) a3
 ·rename_i hm
  have hm':m≠N:=by simpa using hm
  have lt:=a4 (by omega)
  split
  ·refine hc _ _ _ (P.lt hN _) (P.lt hN _) ?_
   cases e:b (p.getD 0 0) (p.getD (m-1) 0) with
   |true=>simp only[if_true];exact q m p P a1 (by omega) a3
   |false=>
    simp only[Bool.false_eq_true,if_false];have eq: ∀i j,i<m->j<m->b (p.getD i 0) (p.getD j 0)=false:=λi j hi hj=>O.tr (O.tr (a3 j (m-1) (by omega) (by omega)) e) (a3 0 i (by omega) hi)
    have hr: ∀i,i<m->(kas_rev p 0 m).getD i 0=p.getD (0+m-1-i) 0:=λi hi=>by rw[lL (by omega),if_pos (by omega)]
    refine mO O hN hc (P.rev _ _) a1 (by omega) (Fal.succ O (λi j hij hj=>?_) a1 ?_) q
    ·rw[hr i (by omega),hr j hj];exact eq _ _ (by omega) (by omega)
    ·have e1:(kas_rev p 0 m).getD m 0=p.getD m 0:=by rw[lL (by omega),if_neg (by omega)]
     rw[e1,hr (m-1) (by omega)]
     exact O.tr (O.as lt) (eq _ _ (by omega) (by omega))
  ·have:m=1:=by omega
   subst this;exact mO O hN hc P (Nat.le_refl _) (by omega) ((Bj O p).succ O (Nat.le_refl _) (O.as lt)) q
theorem ny {p:Array Nat}(P:Pm N p){k:Nat}(hs:Srt b p k){Q:Nat->Shared->Prop}: ∀(f l r:Nat),l<=r->r<=k->r-l<=f->(∀i,i<l->b (p.getD k 0) (p.getD i 0)=false)->(∀i,r<=i->i<k->b (p.getD k 0) (p.getD i 0)=true)->
 (∀m,m<=k->(∀i,i<m->b (p.getD k 0) (p.getD i 0)=false)->(∀i,m<=i->i<k->b (p.getD k 0) (p.getD i 0)=true)->Q m s)->(kas_place p k f l r).kasWp cmp Q s
 |0,l,r,h1,h2,h3,a,c,q=>q l (by omega) a λi z=>c i (by omega)
 |f+1,l,r,h1,h2,h3,a,c,q=>by
  unfold kas_place;split
  ·exact q l (by omega) a λi z=>c i (by omega)
  ·rename_i hlr
   refine hc _ _ _ (P.lt hN _) (P.lt hN _) ?_
   cases e:b (p.getD k 0) (p.getD ((l+r) / 2) 0) with
   |true=>
    simp only[if_true];refine ny P hs f l _ (by omega) (by omega) (by omega) a (λi z1 z2=>?_) q
    cases e2:b (p.getD k 0) (p.getD i 0) with
    |true=>rfl
    |false=>
     have:=O.tr (hs ((l+r) / 2) i z1 z2) e2
     rw[e] at this;exact this.symm
   |false=>
    simp only[Bool.false_eq_true,if_false];exact ny P hs f _ r (by omega) (by omega) (by omega) (λi z=>O.tr (hs i ((l+r) / 2) (by omega) (by omega)) e) c q
omit hN hc in
theorem uL {p:Array Nat}{k m:Nat}(hk:k<p.size)(hs:Srt b p k)(hm:m<=k)(a: ∀i,i<m->b (p.getD k 0) (p.getD i 0)=false)(c: ∀i,m<=i->i<k->b (p.getD k 0) (p.getD i 0)=true):Srt b (bubble p k (k-m)) (k+1):=by
 have g: ∀j,(bubble p k (k-m)).getD j 0=if j=m then p.getD k 0 else if m<j/\j<=k then p.getD (j-1) 0 else p.getD j 0:=λj=>by
  have:=getElem?_bubble hk (k-m) (by omega) j
  rw[show k- (k-m)=m by omega] at this
  by_cases h:j=m
  ·rw[if_pos h] at this⊢;exact sW this
  ·rw[if_neg h] at this⊢
   by_cases h2:m<j/\j<=k
   ·rw[if_pos h2] at this⊢;exact sW this
   ·rw[if_neg h2] at this⊢;exact sW this
 intro i j hij hj;rw[g,g]
 by_cases ej:j=m
 ·rw[if_pos ej]
  by_cases ei:i=m
  ·rw[if_pos ei];exact O.rf _
  ·rw[if_neg ei,if_neg (by omega)];exact a i (by omega)
 ·rw[if_neg ej]
  by_cases ei:i=m
  ·rw[if_pos ei,if_pos (by omega)];exact O.as (c _ (by omega) (by omega))
  ·rw[if_neg ei]
   by_cases hj2:m<j/\j<=k
   ·rw[if_pos hj2]
    by_cases hi2:m<i/\i<=k
    ·rw[if_pos hi2];exact hs _ _ (by omega) (by omega)
    ·rw[if_neg hi2];exact hs _ _ (by omega) (by omega)
   ·rw[if_neg hj2,if_neg (by omega)];exact hs _ _ hij (by omega)
theorem zS {Q:Array Nat->Shared->Prop}: ∀(f:Nat) (p:Array Nat) (k:Nat),Pm N p->1<=k->k+f=N->Srt b p k->(∀p',Pm N p'->Srt b p' N->Q p' s)->(kas_bin f p k).kasWp cmp Q s
 |0,p,k,P,h1,h2,hs,q=>q p P (by rw[<-h2];exact hs)
 |f+1,p,k,P,h1,h2,hs,q=>by
  unfold kas_bin;rw[KasT.kasWp_bind];have hz:=P.size
  refine ny O hN hc P hs k 0 k (Nat.zero_le _) (Nat.le_refl _) (by omega) (λi z=>absurd z (by omega)) (λi z1 z2=>absurd z2 (by omega)) λm a1 a2 a3=>?_
  exact zS f _ (k+1) ⟨(bubble_perm _ _ _).trans P.perm⟩ (by omega) (by omega) (uL O (by omega) hs a1 a2 a3) q
theorem qB {Q:Array Nat->Shared->Prop}(q: ∀p,Pm N p->Srt b p N->Q p s):(kas_sort N).kasWp cmp Q s:=by
 unfold kas_sort;rw[KasT.kasWp_bind];refine Av O hN hc ⟨Array.Perm.refl _⟩ λm p' P h1 h2 hs=>?_
 dsimp only;split
 ·exact zS O hN hc _ p' _ P (by omega) (by omega) (by rw[show max m 1=m by omega];exact hs) q
 ·have:m=N:=by omega
  subst this;exact q p' P hs
end
open PySem PySem.W PySem.Calls PyProof.Rows
section
variable {prog:Program}{w:World}{A:Around}{E:Value->Shared->Prop}{s:Shared}
theorem oq {a:Addr}{us:List Value}{n:Nat}{P:PySem.Fin->Shared->Prop}(ho:s.heap.get? a=some (seqObj "list" us.toArray n))(hz:us.length<64)
 (few:us.length<2->P (.done (.ret .none)) {s with heap:=sortedHeap s.heap a us us.toArray})
 (many:2<=us.length-> ∀g:Heap,(∀c o,c≠a->s.heap.get? c=some o->g.get? c=some o)->wpAny (model prog w) A (keyKind' us.toArray) (λκ t=>t={s with heap:=g}/\
   (kas_sort us.length).kasWp (kas_ask prog w A κ us) (λp t'=>t'=t/\P (.done (.ret .none)) {s with heap:=sortedHeap s.heap a us (List.toArray (p.toList.map λi=>us.getD i Value.none))}) t) (λ_ _=>False) {s with heap:=g}):
 wpAny (model prog w) A (Builtin.«list.sort» ⟨[.ref a],[]⟩) P E s:=by
 have la:a<s.heap.objs.size:=Heap.lt_size ho
 have z1:us.toArray.size<=sizeLine:=by rw[List.size_toArray,sizeLine_eq];omega
 obtain⟨c1,h1⟩: ∃c,(s.heap.update a (Obj.mapSeq λ_=> #[])).get? a=some (seqObj "list" #[] c):=⟨_,get?_update_seq ho (λ_=> #[])⟩
 have h2:(((s.heap.update a (Obj.mapSeq λ_=> #[])).push (seqObj "tuple" us.toArray 0)).push (seqObj "list" #[] 0)).get? a=some (seqObj "list" #[] c1):=Heap.get?_push_of_some _ (Heap.get?_push_of_some _ h1)
 have kp: ∀c o,c≠a->s.heap.get? c=some o->(((s.heap.update a (Obj.mapSeq λ_=> #[])).push (seqObj "tuple" us.toArray 0)).push (seqObj "list" #[] 0)).get? c=some o:=λc o nc e=>
  Heap.get?_push_of_some _ (Heap.get?_push_of_some _ (by rw[Heap.get?_update_ne _ _ _ _ nc];exact e))
 rw[list_sort_plain];refine wpAny_bind (listItems_at ho rfl (wpAny_bind (listUpdate_at ho rfl ?_ z1 (Nat.zero_le _))))
 refine wpAny_bind (seqEpoch_at h1 rfl (wpAny_bind (wpAny_newTuple ?_ (show us.length<=_ by rw[sizeLine_eq];omega))))
 refine wpAny_bind (wpAny_newList (wpAny_holding ?_) (Nat.zero_le _))
 show wpAny (model prog w) A _ P E {s with heap:=((s.heap.update a (Obj.mapSeq λ_=> #[])).push (seqObj "tuple" us.toArray 0)).push (seqObj "list" #[] 0)}
 dsimp only
 by_cases hs:us.toArray.size<2
 ·rw[if_pos hs,if_pos hs]
  refine wpAny_bind (wpAny_pure ?_)
  rw[StateT.run_pure];refine wpAny_bind (wpAny_pure ?_)
  dsimp only;have ea:Array.map (λx=>x.2) (us.toArray.zip us.toArray)=us.toArray:=by
   apply Array.toList_inj.mp
   simp[List.map_snd_zip]
  refine wpAny_bind (seqEpoch_at h2 rfl (wpAny_bind (listUpdate_at h2 rfl ?_ (Nat.zero_le _) ?_)))
  ·simp only[bne_self_eq_false,Bool.false_eq_true,if_false]
   refine wpAny_pure ?_
   have:=few (by simpa using hs)
   show P _ {s with heap:=sortedHeap s.heap a us (Array.map (λx=>x.2) (us.toArray.zip us.toArray))}
   rw[ea];exact this
  ·show(Array.map (λx=>x.2) (us.toArray.zip us.toArray)).size<=_
   rw[ea];exact Nat.le_succ_of_le z1
 ·rw[if_neg hs,if_neg hs]
  have h2':2<=us.length:=by simpa using hs
  refine wpAny_bind (wpAny_mono (many h2' _ kp) (λκ t ⟨et,ht⟩=>?_) λ_ _ x=>x.elim)
  subst et;refine wpAny_bind (wpAny_mono (kat_run (ks:=us) (vs:=us) (G:=λp t'=>t'=_/\P (.done (.ret .none)) {s with heap:=sortedHeap s.heap a us (List.toArray (p.toList.map λi=>us.getD i Value.none))})
   (Q:=λst t'=>t'=_/\failedOf st=none/\ ∃p:Array Nat,p.size=us.length/\(arrOf st).map (·.2)=List.toArray (p.toList.map λi=>us.getD i Value.none)/\P (.done (.ret .none)) {s with heap:=sortedHeap s.heap a us (List.toArray (p.toList.map λi=>us.getD i Value.none))})
   rfl h2' hz (λp st t' a1 a2 a3 a4=>⟨a4.1,a3,p,a1,kat_snds rfl a2,a4.2⟩) ht) (λr t' hr=>?_) λ_ _ x=>x)
  obtain⟨u,st⟩:=r
  obtain⟨e1,hf,p,hp,ho',hP⟩:=hr
  subst e1;dsimp only at hf ho'⊢;rw[ho',hf];have zz:(List.toArray (p.toList.map λi=>us.getD i Value.none)).size<=sizeLine:=by rw[List.size_toArray,List.length_map,Array.length_toList,hp,sizeLine_eq];omega
  refine wpAny_bind (seqEpoch_at h2 rfl (wpAny_bind (listUpdate_at h2 rfl ?_ (Nat.zero_le _) (Nat.le_succ_of_le zz))))
  simp only[bne_self_eq_false,Bool.false_eq_true,if_false];exact wpAny_pure hP
theorem ui {l:Addr}{T:String}{o:Obj}{us:List Value}{n:Nat}{Q:List Value->Shared->Prop}(hT:T="list"\/T="tuple")(ho:s.heap.get? l=some o)(hc:o.cls=.type T)(hd:o.data=.seq us.toArray n)(hz:us.length<64)
 (q: ∀g:Heap,(∀b u,s.heap.get? b=some u->g.get? b=some u)->s.heap.objs.size<=g.objs.size->Q us {s with heap:=g}):wpAny (model prog w) A (collect (.ref l)) Q E s:=by
 have z:us.toArray.size<=sizeLine:=by rw[List.size_toArray,sizeLine_eq];omega
 have hN:(s.heap.push {cls:=.type "list",data:=.seq ([]:List Value).toArray}).get? s.heap.objs.size=some {cls:=.type "list",data:=.seq #[] 0}:=Heap.get?_push_size _ rfl
 have hU:=Heap.get?_update_self (Obj.mapSeq (·++us.toArray)) hN rfl
 have last:wpAny (model prog w) A (do
  match (<-load s.heap.objs.size).data with
   |Data.seq xs _=>pure xs.toList
   |_=>unsupported "internal:collect") Q E {s with heap:=(s.heap.push {cls:=.type "list",data:=.seq ([]:List Value).toArray}).update s.heap.objs.size (Obj.mapSeq (·++us.toArray))}:=by
  refine wpAny_bind (wpAny_load hU (wpAny_pure ?_))
  show Q ((#[]:Array Value)++us.toArray).toList _;rw[show((#[]:Array Value)++us.toArray).toList=us by simp]
  refine q _ (λb u e=>(Heap.get?_update_other _ _ (Nat.ne_of_gt (Heap.lt_size e))).trans (Heap.get?_push_of_some _ e)) ?_
  rw[Heap.size_update,Heap.size_push];exact Nat.le_succ _
 unfold collect;refine wpAny_bind (wpAny_runValue (codeAny_builtin F.entry_proto_collect ?_))
 rw[Around.under_plainId F.plain_proto_collect _];show wpAny _ A.in1 (newList []>>=λr=>again (.builtin "list.__iadd__" ⟨[r,.ref l],[]⟩)) _ _ s
 refine wpAny_bind (wpAny_newObj_type (wpAny_pure ⟨plainId_quiet F.plain_list_iadd _,codeAny_builtin F.entry_list_iadd ?_⟩))
 rw[Around.under_plainId F.plain_list_iadd _];show wpAny _ A.in1 (Builtin.List.listExtendWith (.ref s.heap.objs.size) (.ref l) (.ref s.heap.objs.size)) _ _ _;have ext:=wpAny_extend_seq (prog:=prog) (w:=w) (A:=A) (hsz:=z) (R:=λr t=>r=.ok (.ret (.ref s.heap.objs.size))/\t={s with heap:=(s.heap.push {cls:=.type "list",data:=.seq ([]:List Value).toArray}).update s.heap.objs.size (Obj.mapSeq (·++us.toArray))})
  (s:={s with heap:=s.heap.push {cls:=.type "list",data:=.seq ([]:List Value).toArray}}) _ l (.ref s.heap.objs.size) 0 hT hN (Heap.get?_push_of_some _ ho) hc hd ⟨rfl,rfl⟩
 refine wpAny_mono ext (λfin t h=>?_) (λe t h=>absurd h.1 (by simp))
 cases fin with
 |done f=>obtain⟨e,rfl⟩:=h;cases e;exact last
 |again c=>exact⟨h.1,codeAny_mono h.2 λr t' hr=>by obtain⟨rfl,rfl⟩:=hr;exact last⟩
theorem qh {l:Addr}{T:String}{o:Obj}{us:List Value}{n:Nat}{Q:Value->Shared->Prop}{G:List Nat->Prop}(hT:T="list"\/T="tuple")(ho:s.heap.get? l=some o)(hc:o.cls=.type T)(hd:o.data=.seq us.toArray n)(hz:us.length<64)
 (few:us.length<2->G (List.range us.length))
 (many:2<=us.length-> ∀g:Heap,(∀c o,s.heap.get? c=some o->g.get? c=some o)->wpAny (model prog w) A.in1.in1 (keyKind' us.toArray) (λκ t=>t={s with heap:=g}/\
   (kas_sort us.length).kasWp (kas_ask prog w A.in1.in1 κ us) (λp t'=>t'=t/\G p.toList) t) (λ_ _=>False) {s with heap:=g})
 (fin: ∀(g:Heap) (a e:Nat) (ix:List Nat),(∀c o,s.heap.get? c=some o->g.get? c=some o)->s.heap.objs.size<=a->G ix->g.get? a=some (seqObj "list" (List.toArray (ix.map λi=>us.getD i Value.none)) e)->Q (.ref a) {s with heap:=g}):
 wpAny (model prog w) A (call (.builtin "sorted") [.ref l]) Q E s:=by
 refine Calls.call_function_entry kind_sorted plain_sorted entry_sorted (args_sorted1 _) ?_
 unfold Builtin.«sorted»;refine wpAny_bind (m:=checkCount "sorted" 1 1 _) (wpAny_pure (wpAny_bind (ui hT ho hc hd hz λg kg sg=>?_)))
 refine wpAny_bind (wpAny_newList ?_ (by rw[sizeLine_eq];omega))
 have hL:(g.push (seqObj "list" us.toArray 0)).get? g.objs.size=some (seqObj "list" us.toArray 0):=Heap.get?_push_size _ rfl
 show wpAny _ _ _ _ _ {s with heap:=g.push (seqObj "list" us.toArray 0)}
 have end_: ∀ix:List Nat,G ix->Q (.ref g.objs.size) {s with heap:=sortedHeap (g.push (seqObj "list" us.toArray 0)) g.objs.size us (List.toArray (ix.map λi=>us.getD i Value.none))}:=λix hG=>by
  obtain⟨e,he⟩:=sortedHeap_at (out:=List.toArray (ix.map λi=>us.getD i Value.none)) hL
  refine fin _ g.objs.size e ix (λc u hu=>?_) sg hG he
  have lt:=Heap.lt_size (kg c u hu)
  rw[sortedHeap_old (Nat.ne_of_lt lt) (by rw[size_push'];exact Nat.lt_succ_of_lt lt)]
  exact Heap.get?_push_of_some _ (kg c u hu)
 refine wpAny_bind (wpAny_holding (wpAny_call_entry slot_list_sort ⟨_,hL,rfl⟩ entry_list_sort (oq (P:=λf t=> ∃v,f=.done (.ret v)/\wpAny (model prog w) A.in1 (pure (PySem.Fin.done (.ret (Value.ref g.objs.size)))) (λf t=> ∃v,f=.done (.ret v)/\Q v t) E t) hL hz (λh=>?_) (λh g' kg'=>?_)) (args_list_sort _)))
 ·have e:=end_ (List.range us.length) (few h)
  rw[show(List.range us.length).map (λi=>us.getD i Value.none)=us from List.ext_getElem? λi=>by
   by_cases hi:i<us.length
   ·simp[hi]
   ·simp[hi]] at e
  exact⟨_,rfl,wpAny_pure ⟨_,rfl,e⟩⟩
 ·refine wpAny_mono (many h g' λc u hu=>kg' c u (Nat.ne_of_lt (Heap.lt_size (kg c u hu))) (Heap.get?_push_of_some _ (kg c u hu))) (λκ t ⟨et,ht⟩=>⟨et,?_⟩) λ_ _ x=>x
  rw[kat_ask_eq rfl] at ht⊢;exact kas_wp_mono ht λp t' ⟨e1,hG⟩=>⟨e1,_,rfl,wpAny_pure ⟨_,rfl,end_ _ hG⟩⟩
end
open PySem PySem.W PySem.Spec PyProof.Rows
def cm:List Int->List Int->Bool
 |_,[]=>false
 | [],_::_=>true
 |x::xs,y::ys=>if x=y then cm xs ys else decide (x<y)
def xq(x y:Int):Bool:=decide (x<y)
structure Lt {α:Type}(lt:α->α->Bool):Prop where
 tr: ∀ {a b c:α},lt b a=false->lt c b=false->lt c a=false
 as: ∀ {a b:α},lt a b=true->lt b a=false
 eq: ∀ {a b:α},lt a b=false->lt b a=false->a=b
theorem CG:Lt xq:=⟨λh1 h2=>by simp only[xq,decide_eq_false_iff_not] at*;omega,λh=>by simp only[xq,decide_eq_false_iff_not,decide_eq_true_eq] at*;omega,λh1 h2=>by simp only[xq,decide_eq_false_iff_not] at*;omega⟩
theorem vk: ∀ {a b:List Int},cm a b=true->cm b a=false
 | [],[],h=>by simp[cm] at h
 |x::xs,[],h=>by simp[cm] at h
 | [],y::ys,h=>by simp[cm]
 |x::xs,y::ys,h=>by
  unfold cm at h⊢
  by_cases e:x=y
  ·subst e;simp only[if_true] at h⊢;exact vk h
  ·rw[if_neg e] at h;rw[if_neg (Ne.symm e)];simp only[decide_eq_true_eq,decide_eq_false_iff_not] at*;omega
theorem wD: ∀ {a b:List Int},cm a b=false->cm b a=false->a=b
 | [],[],_,_=>rfl
 |x::xs,[],_,h=>by simp[cm] at h
 | [],y::ys,h,_=>by simp[cm] at h
 |x::xs,y::ys,h,h'=>by
  unfold cm at h h'
  by_cases e:x=y
  ·subst e;simp only[if_true] at h h';rw[wD h h']
  ·rw[if_neg e] at h;rw[if_neg (Ne.symm e)] at h';simp only[decide_eq_false_iff_not] at*;omega
theorem vN: ∀ {a b c:List Int},cm b a=false->cm c b=false->cm c a=false
 | [],_,_,_,_=>by unfold cm;rfl
 |x::xs,[],_,h,_=>by simp[cm] at h
 |x::xs,y::ys,[],_,h=>by simp[cm] at h
 |x::xs,y::ys,z::zs,h1,h2=>by
  unfold cm at h1 h2⊢
  by_cases e1:y=x
  ·subst e1
   simp only[if_true] at h1
   by_cases e2:z=y
   ·subst e2;simp only[if_true] at h2⊢;exact vN h1 h2
   ·rw[if_neg e2] at h2⊢;exact h2
  ·rw[if_neg e1] at h1
   by_cases e2:z=y
   ·subst e2;rw[if_neg e1];exact h1
   ·rw[if_neg e2] at h2
    simp only[decide_eq_false_iff_not] at h1 h2;rw[if_neg (by omega)]
    simp only[decide_eq_false_iff_not];omega
theorem xD:Lt cm:=⟨vN,vk,wD⟩
def uM {α:Type}(lt:α->α->Bool)(x:α):List α->List α
 | []=>[x]
 |y::r=>if lt x y=true then x::y::r else y::uM lt x r
def bP {α:Type}(lt:α->α->Bool):List α->List α
 | []=>[]
 |x::r=>uM lt x (bP lt r)
section
variable {α:Type}{lt:α->α->Bool}
theorem lX(x:α): ∀l:List α,(uM lt x l).Perm (x::l)
 | []=>.refl _
 |y::r=>by
  unfold uM;split
  ·exact .refl _
  ·exact((lX x r).cons y).trans (.swap _ _ _)
theorem dq: ∀l:List α,(bP lt l).Perm l
 | []=>.refl _
 |x::r=>(lX x _).trans ((dq r).cons x)
theorem wq(O:Lt lt)(x:α): ∀ {l:List α},l.Pairwise (λa b=>lt b a=false)->(uM lt x l).Pairwise (λa b=>lt b a=false)
 | [],_=>by simp[uM]
 |y::r,h=>by
  obtain⟨h1,h2⟩:=List.pairwise_cons.mp h
  unfold uM;split
  ·rename_i e
   refine List.pairwise_cons.mpr ⟨λz hz=>?_,h⟩
   rcases List.mem_cons.mp hz with rfl|hz
   ·exact O.as e
   ·exact O.tr (O.as e) (h1 z hz)
  ·rename_i e
   refine List.pairwise_cons.mpr ⟨λz hz=>?_,wq O x h2⟩
   rcases List.mem_cons.mp ((lX x r).mem_iff.mp hz) with rfl|hz
   ·simpa using e
   ·exact h1 z hz
theorem jS(O:Lt lt): ∀l:List α,(bP lt l).Pairwise (λa b=>lt b a=false)
 | []=>.nil
 |x::r=>wq O x (jS O r)
theorem mJ(O:Lt lt){l l':List α}(p:l'.Perm l)(s:l'.Pairwise (λa b=>lt b a=false)):l'=bP lt l:=
 List.Perm.eq_of_pairwise (λa b _ _ h1 h2=>O.eq h2 h1) s (jS O l) (p.trans (dq l).symm)
theorem kq(ts:List α)(d:α):(List.range ts.length).map (λi=>ts.getD i d)=ts:=List.ext_getElem? λi=>by
 by_cases hi:i<ts.length
 ·simp[hi]
 ·simp[hi]
theorem jr(O:Lt lt){ts:List α}{d:α}{p:Array Nat}(P:Pm ts.length p)(S:Srt (λi j=>lt (ts.getD i d) (ts.getD j d)) p ts.length):p.toList.map (λi=>ts.getD i d)=bP lt ts:=by
 refine mJ O ?_ ?_
 ·have h1:p.toList.Perm (List.range ts.length):=by simpa using (Array.perm_iff_toList_perm.mp P.perm)
  have h2:=h1.map (λi=>ts.getD i d)
  rw[kq] at h2;exact h2
 ·rw[List.pairwise_map,List.pairwise_iff_getElem]
  intro i j hi hj hij;have hz:=P.size
  have e:=S i j (by omega) (by simpa [hz] using hj)
  have g: ∀k (hk:k<p.toList.length),p.getD k 0=p.toList[k]:=λk hk=>by
   have:k<p.size:=by simpa using hk
   simp[Array.getD,this]
  rw[g i hi,g j hj] at e;exact e
theorem Af(O:Lt lt)(f:Nat->α):Od (λi j=>lt (f i) (f j)):=⟨λh1 h2=>O.tr h1 h2,λh=>O.as h⟩
end
def uQ:D->Option (List Int)
 | .tup ds=>match gQ ds with
   |some (x::r)=>some (x::r)
   |_=>none
 |_=>none
def kI:List D->Option (List (List Int))
 | []=>some []
 |d::r=>(uQ d).bind λk=>(kI r).map (k:: ·)
def cX(k:List Int):D:=.tup (k.map D.int)
def gU(ds:List D):Option (List D):=if ds.length<64 then match gQ ds with
 |some ns=>some ((bP xq ns).map D.int)
 |none=>(kI ds).map λks=>(bP cm ks).map cX else none
theorem iq(ns:List Int):gQ (ns.map D.int)=some ns:=by
 induction ns with
 |nil=>rfl
 |cons n ns ih=>show(gQ (ns.map D.int)).map (n:: ·)=_;rw[ih];rfl
theorem Ci {d:D}{k:List Int}(h:uQ d=some k):d=cX k/\k≠[]:=by
 unfold uQ at h;split at h
 ·split at h
  ·rename_i e;cases h;rw[iC e];exact⟨rfl,by simp⟩
  ·cases h
 ·cases h
theorem Bg {k:List Int}(h:k≠[]):uQ (cX k)=some k:=by
 unfold uQ cX;dsimp only;rw[iq];cases k with
 |nil=>exact absurd rfl h
 |cons x r=>rfl
theorem oz: ∀ {ds:List D} {ks:List (List Int)},kI ds=some ks->ds=ks.map cX/\ ∀k∈ks,k≠[]
 | [],_,h=>by cases h;exact⟨rfl,λ_ h=>nomatch h⟩
 |d::r,ks,h=>by
  unfold kI at h;cases e1:uQ d with
  |none=>rw[e1] at h;cases h
  |some k=>
   rw[e1] at h;cases e2:kI r with
   |none=>rw[e2] at h;cases h
   |some l=>
    rw[e2] at h;cases h;obtain⟨h1,h2⟩:=Ci e1
    obtain⟨h3,h4⟩:=oz e2
    refine⟨by rw[h1,h3];rfl,λz hz=>?_⟩
    rcases List.mem_cons.mp hz with rfl|hz
    ·exact h2
    ·exact h4 z hz
theorem r9: ∀ {ks:List (List Int)},(∀k∈ks,k≠[])->kI (ks.map cX)=some ks
 | [],_=>rfl
 |k::r,h=>by
  show(uQ (cX k)).bind (λk'=>(kI (r.map cX)).map (k':: ·))=_
  rw[Bg (h k (by simp)),r9 λz hz=>h z (by simp[hz])]
  rfl
theorem xN {k:List Int}{ks:List (List Int)}:gQ ((k::ks).map cX)=none:=rfl
theorem iX {α:Type}{lt:α->α->Bool}{l:List α}(h:l.length<2):bP lt l=l:=by
 match l,h with
 | [],_=>rfl
 | [_],_=>rfl
theorem mB {xs:List V}{us:List Value}(r:Vals xs us)(i:Nat):RelV (xs.getD i .non) (us.getD i Value.none):=by
 cases e:xs[i]? with
 |none=>
  have hl:=r.length
  have:us[i]? =none:=by simp at e⊢;omega
  simp[List.getD,e,this];rfl
 |some x=>
  obtain⟨u,h1,h2⟩:=r.get e
  simp[List.getD,e,h1];exact h2
theorem lY {xs:List V}{us:List Value}(r:Vals xs us): ∀ix:List Nat,Vals (ix.map λi=>xs.getD i .non) (ix.map λi=>us.getD i Value.none)
 | []=>.nil
 |i::l=>.cons (mB r i) (lY r l)
theorem pY {K:W.Frag}{F:Hp}{xs:List V}{ds:List D}(r:Reps K F xs ds)(i:Nat):Rep K F (xs.getD i .non) (ds.getD i .non):=by
 cases e:ds[i]? with
 |none=>
  have hl:=r.length
  have:xs[i]? =none:=by simp at e⊢;omega
  simp[List.getD,e,this];exact .non
 |some x=>
  obtain⟨u,h1,h2⟩:=r.get e
  simp[List.getD,e,h1];exact h2
theorem my {K:W.Frag}{F:Hp}{xs:List V}{ds:List D}(r:Reps K F xs ds): ∀ix:List Nat,Reps K F (ix.map λi=>xs.getD i .non) (ix.map λi=>ds.getD i .non)
 | []=>.nil
 |i::l=>.cons (pY r i) (my r l)
def qN:List Value->List Int->Prop:=Paired λu i=> ∃t,u=Value.int i t
theorem qA {K:W.Frag}{F:Hp}: ∀ {xs:List V} {us:List Value} {ns:List Int},Vals xs us->Reps K F xs (ns.map D.int)->qN us ns
 |_,_,[],r,p=>by cases p;cases r;exact .nil
 |_,_,n::ns,r,p=>by
  cases p with
  |cons p1 p2=>cases r with
   |cons r1 r2=>cases p1;exact .cons r1 (qA r2 p2)
theorem tJ: ∀ {us:List Value} {ns:List Int} {i:Nat} {u:Value},qN us ns->us[i]? =some u-> ∃n,ns[i]? =some n/\ ∃t,u=Value.int n t
 |_,_,_,_,.nil,e=>by simp at e
 |_,_,0,_,.cons h _,e=>by simp at e;subst e;exact⟨_,rfl,h⟩
 |_,_,i+1,u,.cons _ r,e=>by
  obtain⟨n,h1,h2⟩:=tJ (i:=i) (u:=u) r (by simpa using e)
  exact⟨n,by simpa using h1,h2⟩
section
variable {prog:Program}{w:World}{A:Around}{s:Shared}{b fin:Bool}{Q:Bool->Shared->Prop}
theorem rH: ∀ {us ws:List Value} {ns ms:List Int} (i:Nat),qN us ns->qN ws ms->fin=decide (ns.length<ms.length)->Q (cm ns ms) s->KatLex prog w A b fin Q (us.zip ws) i s
 |_,_,[],[],i,.nil,.nil,e,q=>by subst e;exact kat_nil q
 |_,_,[],m::ms,i,.nil,.cons _ _,e,q=>by subst e;simp only[List.zip_nil_left];refine kat_nil ?_;simpa [cm] using q
 |_,_,n::ns,[],i,.cons _ _,.nil,e,q=>by subst e;simp only[List.zip_nil_right];refine kat_nil ?_;simpa [cm] using q
 |_,_,n::ns,m::ms,i,.cons h1 r1,.cons h2 r2,e,q=>by
  obtain⟨t,rfl⟩:=h1
  obtain⟨t',rfl⟩:=h2
  rw[List.zip_cons_cons];refine kat_cons (wpAny_eqBool_int (kat_go (λhe=>?_) λhe=>?_))
  ·have:n=m:=by simpa using he
   subst this;refine kat_yes (rH (i+1) r1 r2 (by rw[e];simp) ?_)
   simpa [cm] using q
  ·have:n≠m:=by simpa using he
   have q':Q (decide (n<m)) s:=by simpa [cm,this] using q
   refine kat_no ?_
   cases (b&&i==0) with
   |true=>exact oneLt_int q'
   |false=>exact kat_one _ _ (lt_int q')
end
theorem gR {X:Cx}:dP X (.builtin "sorted") (λxs H Q=> ∃a ys ds es,xs=[.ref a]/\(SqL X.K H a ys\/SqT X.K H a ys)/\Reps X.K H ys ds/\gU ds=some es/\
 ∀(l:Addr) (ix:List Nat),H l=none->ix.length=ds.length->ix.map (λi=>ds.getD i .non)=es->Q (.ref l) (bM H l (.lst (ix.map λi=>ys.getD i .non)))):=by
 intro ae s σ H xs us Q I r h;obtain⟨a,ys,ds,es,rfl,hsq,rp,hs,q⟩:=h
 obtain⟨u,rfl,rx⟩:=kc r
 cases rx
 obtain⟨its,T,o,n,rv,hT,ho,hc,hd⟩: ∃(its:List Value) (T:String) (o:Obj) (n:Nat),Vals ys its/\(T="list"\/T="tuple")/\s.heap.get? a=some o/\o.cls=.type T/\o.data=.seq its.toArray n:=by
  rcases hsq with hq|hq
  ·obtain⟨its,r',pl,hz⟩:=I.list hq
   obtain⟨o,ho,hc,n,hd⟩:=pl.isList
   exact⟨its,"list",o,n,r',.inl rfl,ho,hc,hd⟩
  ·obtain⟨its,r',pl,hz⟩:=I.tuple hq
   obtain⟨o,ho,hc,n,hd⟩:=pl
   exact⟨its,"tuple",o,n,r',.inr rfl,ho,hc,hd⟩
 have l1:=rv.length
 have l2:=rp.length
 have h64:ds.length<64:=by
  unfold gU at hs;split at hs
  ·assumption
  ·cases hs
 unfold gU at hs;rw[if_pos h64] at hs;refine qh (G:=λix=>ix.length=ds.length/\ix.map (λi=>ds.getD i .non)=es) hT ho hc hd (by omega) (λfew=>⟨by simp;omega,?_⟩) (λh2 g kg=>?_) (λg p e ix kg hp hG hg=>?_)
 ·rw[show its.length=ds.length by omega,kq]
  cases e1:gQ ds with
  |some ns=>
   rw[e1] at hs;cases hs;have:=iC e1
   subst this;rw[iX (by simp at l2;omega)]
  |none=>
   rw[e1] at hs;cases e2:kI ds with
   |none=>rw[e2] at hs;cases hs
   |some ks=>
    rw[e2] at hs;cases hs;obtain⟨h3,_⟩:=oz e2
    subst h3;dsimp only;rw[iX (by simp at l2;omega)]
 ·cases e1:gQ ds with
  |some ns=>
   rw[e1] at hs;cases hs;have e0:=iC e1
   subst e0;have hv:=qA rv rp
   have hl:its.length=ns.length:=by simp at l2;omega
   have gi: ∀i,i<ns.length-> ∃t,its.getD i Value.none=Value.int (ns.getD i 0) t:=λi hi=>by
    have e2:its[i]? =some its[i]:=List.getElem?_eq_getElem (by omega)
    obtain⟨m,e3,t,e4⟩:=tJ hv e2
    refine⟨t,?_⟩
    simp[List.getD,e2,e3,e4]
   refine kas_kind (T:=.type "int") h2 (λv hv'=>?_) (by rfl) (by rfl) ⟨rfl,?_⟩
   ·obtain⟨i,hi,rfl⟩:=List.getElem_of_mem hv'
    obtain⟨t,e⟩:=gi i (by omega)
    have:its[i]=its.getD i Value.none:=by simp[List.getD,List.getElem?_eq_getElem hi]
    rw[this,e];exact Looks.now
   ·rw[hl]
    refine qB (b:=λi j=>xq (ns.getD i 0) (ns.getD j 0)) (Af CG _) (by omega) (λi j C hi hj hC=>?_) λp P S=>⟨rfl,?_,?_⟩
    ·obtain⟨t,e⟩:=gi i hi
     obtain⟨t',e'⟩:=gi j hj
     unfold kas_ask;rw[e,e'];exact kat_lt_int hC
    ·rw[Array.length_toList,P.size];simp
    ·have:=congrArg (List.map D.int) (jr CG P S)
     rw[<-this,List.map_map];refine List.map_congr_left λi hi=>?_
     have:i<ns.length:=by
      have:=P.perm.mem_iff.mp (Array.mem_toList_iff.mp hi)
      simpa using this
     simp[List.getD,List.getElem?_eq_getElem this]
  |none=>
   rw[e1] at hs;cases e2:kI ds with
   |none=>rw[e2] at hs;cases hs
   |some ks=>
    rw[e2] at hs;cases hs;obtain⟨h3,h4⟩:=oz e2
    subst h3;have hl:its.length=ks.length:=by simp at l2;omega
    have gi: ∀i,i<ks.length-> ∃(b:Addr) (o:Obj) (ts:List Value) (n:Nat),its.getD i Value.none=.ref b/\s.heap.get? b=some o/\o.cls=.type "tuple"/\o.data=.seq ts.toArray n/\qN ts (ks.getD i []):=λi hi=>by
     have r1:=mB rv i
     have r2:=pY rp i
     have e3:(ks.map cX).getD i .non=.tup ((ks.getD i []).map D.int):=by simp[List.getD,List.getElem?_eq_getElem hi,cX]
     rw[e3] at r2
     generalize hx:ys.getD i .non=x at r1 r2
     cases r2 with
     |tup q1 q2=>
      obtain⟨ts,r',⟨o,ho,hc,n,hd⟩,_⟩:=I.tuple q1
      exact⟨_,o,ts,n,r1,ho,hc,hd,qA r' q2⟩
    have kt: ∀(l:List Value) (ms:List (List Int)),l.length=ms.length->(∀i,i<ms.length-> ∃(b:Addr) (o:Obj) (ts:List Value) (n:Nat),l.getD i Value.none=.ref b/\s.heap.get? b=some o/\o.cls=.type "tuple"/\o.data=.seq ts.toArray n/\qN ts (ms.getD i []))->(∀k∈ms,k≠[])->
     ∃fs,KatTups g l fs/\fs.length=l.length/\ ∀v∈fs,∃i t,v=Value.int i t:=by
     intro l
     induction l with
     |nil=>intro ms _ _ _;exact⟨[],.nil,rfl,λ_ h=>nomatch h⟩
     |cons v l ih=>
      intro ms hl hg hk;cases ms with
      |nil=>cases hl
      |cons m ms=>
       obtain⟨fs,f1,f2,f3⟩:=ih ms (by simpa using hl) (λi hi=>by simpa using hg (i+1) (by simpa using hi)) λk hk'=>hk k (by simp[hk'])
       obtain⟨b,o,ts,n,g1,g2,g3,g4,g5⟩:=hg 0 (by simp)
       simp[List.getD] at g1 g5;subst g1;cases m with
       |nil=>exact absurd rfl (hk [] (by simp))
       |cons x xs=>
        cases g5 with
        |cons y1 y2=>
         obtain⟨t,rfl⟩:=y1
         refine⟨_,KatTups.cons (kg _ _ g2) g3 g4 (by simp;rfl) f1,by simp[f2],λv hv=>?_⟩
         rcases List.mem_cons.mp hv with rfl|hv
         ·exact⟨_,_,rfl⟩
         ·exact f3 v hv
    obtain⟨fs,f1,f2,f3⟩:=kt its ks hl gi h4
    refine kat_kind (T:=.type "int") f1 (by omega) (λv hv=>?_) (by rfl) ⟨rfl,?_⟩
    ·obtain⟨i,t,rfl⟩:=f3 v hv;exact Looks.now
    ·rw[hl]
     refine qB (b:=λi j=>cm (ks.getD i []) (ks.getD j [])) (Af xD _) (by omega) (λi j C hi hj hC=>?_) λp P S=>⟨rfl,?_,?_⟩
     ·obtain⟨b1,o1,ts1,n1,x1,x2,x3,x4,x5⟩:=gi i hi
      obtain⟨b2,o2,ts2,n2,y1,y2,y3,y4,y5⟩:=gi j hj
      unfold kas_ask;rw[x1,y1];refine kat_lt (kg _ _ x2) x4 (kg _ _ y2) y4 ?_
      refine rH 0 x5 y5 ?_ hC
      have z1:=Paired.length x5
      have z2:=Paired.length y5
      simp[z1,z2]
     ·rw[Array.length_toList,P.size];simp
     ·have:=congrArg (List.map cX) (jr xD P S)
      dsimp only;rw[<-this,List.map_map];refine List.map_congr_left λi hi=>?_
      have:i<ks.length:=by
       have:=P.perm.mem_iff.mp (Array.mem_toList_iff.mp hi)
       simpa using this
      simp[List.getD,List.getElem?_eq_getElem this]
 ·refine⟨.ref p,_,I.laid (t':=s.toks) kg hp (show ObjOk X.prog X.w _ g _ (.lst (ix.map λi=>ys.getD i .non)) from⟨?_,_,e,lY rv ix,hg⟩),rfl,q _ ix (I.hok.fresh hp) hG.1 hG.2⟩
  rw[List.length_map,hG.1,sizeLine_eq];omega
def eA:List D->Option D
 | [.lst ds]=>(gU ds).map D.lst
 | [.tup ds]=>(gU ds).map D.lst
 |_=>none
theorem jJ {K:W.Frag}:gB K .n (λxs H Q=> ∃a ys ds es,xs=[.ref a]/\(SqL K H a ys\/SqT K H a ys)/\Reps K H ys ds/\gU ds=some es/\
 ∀(l:Addr) (ix:List Nat),H l=none->ix.length=ds.length->ix.map (λi=>ds.getD i .non)=es->Q (.ref l) (bM H l (.lst (ix.map λi=>ys.getD i .non)))) eA:=by
 intro H hid vs ds d Q hf h r q;unfold eA at h;split at h
 ·rename_i zs
  cases e:gU zs with
  |none=>rw[e] at h;cases h
  |some es=>
   rw[e] at h;cases h;obtain⟨x,rfl,r1⟩:=Reps1.one r
   obtain⟨a,xs,rfl,h1,h2⟩:=r1.lst
   refine⟨a,xs,zs,es,rfl,.inl h1,h2.mono (dY _ _),e,λl ix hl _ he=>q _ _ (aW hl _) (gx hl (Same.refl _) ?_)⟩
   rw[<-he];exact my h2 ix
 ·rename_i zs
  cases e:gU zs with
  |none=>rw[e] at h;cases h
  |some es=>
   rw[e] at h;cases h;obtain⟨x,rfl,r1⟩:=Reps1.one r
   obtain⟨a,xs,rfl,_,h1,h2⟩:=r1.tup
   refine⟨a,xs,zs,es,rfl,.inr h1,h2.mono (dY _ _),e,λl ix hl _ he=>q _ _ (aW hl _) (gx hl (Same.refl _) ?_)⟩
   rw[<-he];exact my h2 ix
 ·cases h
section
variable {X:Cx}{c:Ct}{e a b:Expr}{es rest:List Expr}{f g:GE}{fs:GA}{k:Kd}{pos p:Pos}{x:Str}{id T:String}{r:List V->Hp->VK->Prop}{F:List D->Option D}{ps:List Str}{j n:Nat}
theorem FQ {r:R2}{F:D->D->Option D}(hr:IxR X r)(hF:mK X.K k r F)(ha:DE X c .s a f)(hb:DE X c .s b g)(hs:qu b)(hk:k≠ .b:=by decide):DE X c k (.Subscript a b pos) (ud F f g):=λhid ρ=>
 PE.imp (Dg hr (ha hid ρ) (oB λρ1=>hb hid ρ1) hs) λσ H Q h=>Hx hF hk h
theorem Reps.b1 {K:W.Frag}{H W:Hp}: ∀ {vs:List V} {ds:List D},Reps K W vs ds->Reps1 K H W vs ds
 |_,_,.nil=>.nil
 |_,_,.cons r t=>.cons (.inl r) (Reps.b1 t)
def gt(F:List D->Option D)(fs:GA):GE:=λρ=>(fs ρ).bind λq=>(F q.1).map λd=>(d,q.2)
theorem nQ {F:List D->Option D}{ρ ρ':aF}{d:D}(h:gt F fs ρ=some (d,ρ')): ∃ds,fs ρ=some (ds,ρ')/\F ds=some d:=by
 unfold gt at h;cases e:fs ρ with
 |none=>rw[e] at h;cases h
 |some q=>
  rw[e] at h;dsimp only[Option.bind] at h;cases e2:F q.1 with
  |none=>rw[e2] at h;cases h
  |some z=>rw[e2] at h;cases h;exact⟨q.1,rfl,e2⟩
theorem GS {hid:bK}{ρ:aF}(hF:gB X.K k r F)(hk:k≠ .b){σ:St}{H:Hp}{Q:VK}(h:Fl X.K c hid k (gt F fs) ρ σ H Q):Go r (ID X.K c hid fs ρ) σ H Q:=by
 obtain⟨sr,d,ρ',hd,q⟩:=h
 obtain⟨ds,e1,e2⟩:=nQ hd
 exact⟨sr,ds,ρ',e1,λvs H1 k1 s1 r1=>hF H1 hid vs ds d Q (λa n=>s1.fresh n) e2 r1.b1 λw H' s2 r2=>q w H' (PostE.left k1 (s1.post s2 r2 hk))⟩
theorem zE(hc:dP X (.builtin id) r)(hF:gB X.K k r F)(hm:X.mg x=none)(ha:DG X c (e::es) fs)(hk:k≠ .b:=by decide)(hg:Gl X x:=by rfl)(hv:bootBuiltins x=some (.builtin id):=by kernel_rfl)(hn:x≠"__name__":=by decide)(hdb:(x==("__debug__":Str))=false:=by decide)
 (he:starEach (e::es) X.env=(false,eval e X.env)::starEach es X.env:=by rfl) (hpl:(backTo pos (starEach es X.env)).any (·.1)=false:=by rfl):DE X c k (.Call (.Name x p) (e::es) [] pos) (gt F fs):=λhid ρ=>
 PE.imp (lv hc hg hm hv (ha hid ρ) hn hdb he hpl) λσ H Q h=>GS hF hk h
theorem xG(hc:dP X (.type T) r)(hF:gB X.K k r F)(hm:X.mg x=none)(ha:DG X c (e::es) fs)(hk:k≠ .b:=by decide)(hg:Gl X x:=by rfl)(hv:bootBuiltins x=some (.type T):=by kernel_rfl)(hn:x≠"__name__":=by decide)(hdb:(x==("__debug__":Str))=false:=by decide)
 (he:starEach (e::es) X.env=(false,eval e X.env)::starEach es X.env:=by rfl) (hpl:(backTo pos (starEach es X.env)).any (·.1)=false:=by rfl):DE X c k (.Call (.Name x p) (e::es) [] pos) (gt F fs):=λhid ρ=>
 PE.imp (ii hc hg hm hv (ha hid ρ) hn hdb he hpl) λσ H Q h=>GS hF hk h
theorem E8 {P:List D->Option D}(C:Cl X.prog X.w X.K X.mg X.base j x ps (dU X.K k n P))(hr:Room j X.A)
 (ha:DG X c (e::es) fs) (hkb:k≠ .b:=by decide) (hg:Gl X x:=by rfl) (hdb:(x==("__debug__":Str))=false:=by decide) (he:starEach (e::es) X.env=(false,eval e X.env)::starEach es X.env:=by rfl) (hpl:(backTo pos (starEach es X.env)).any (·.1)=false:=by rfl):
 DE X c k (.Call (.Name x p) (e::es) [] pos) (gt (nF n P) fs):=by
 obtain⟨f,fd,F,hm,hk,hb⟩:=C.ex
 exact λhid ρ=>PE.imp (qZ F hr hg hm hk hb .nil (yz (X:=X)) (ha hid ρ) hdb he hpl) λσ H Q hq_=>by
  obtain⟨sr,d,ρ',hd,q⟩:=hq_
  obtain⟨ds,e1,e2⟩:=nQ hd
  unfold nF at e2;split at e2
  ·refine⟨sr,ds,ρ',e1,λvs H1 k1 s1 r1=>?_⟩
   show dU X.K k n P (vs++[]) H1 Q E0;rw[List.append_nil];exact⟨hid,ds,s1.trk,r1, ‹_›,d,e2,λv H' s2 r2=>q v H' (PostE.left k1 (s1.post s2 r2 hkb))⟩
  ·cases e2
abbrev GT:=aF->Option (Bool×aF)
def Hk(K:W.Frag)(c:Ct)(hid:bK)(f:GT)(ρ:aF):TT:=λσ H Q=>SR K c hid ρ σ H/\ ∃d ρ',f ρ=some (d,ρ')/\ ∀H',Kept hid H H'->SR K c hid ρ' σ H'->Q d H'
def G9(X:Cx)(c:Ct)(e:Expr)(f:GT):Prop:= ∀hid ρ,PT X e (Hk X.K c hid f ρ)
def yN(f:GE):GT:=λρ=>(f ρ).bind λq=>(Bs q.1).map λd=>(d,q.2)
theorem Bn(ha:DE X c .s a f)(he: ∀whole,isTrue a X.env whole=(do let v <-whole;standAt a.pos;holding [v] (truthy v)):=by intro _;rfl):G9 X c a (yN f):=λhid ρ=>
 PT.imp (tL (ha hid ρ) he) λσ H Q hq_=>by
  obtain⟨sr,d,ρ',hd,q⟩:=hq_
  unfold yN at hd;cases e:f ρ with
  |none=>rw[e] at hd;cases hd
  |some z=>
   rw[e] at hd;dsimp only[Option.bind] at hd;cases e2:Bs z.1 with
   |none=>rw[e2] at hd;cases hd
   |some y=>
    rw[e2] at hd;cases hd;exact⟨sr,z.1,z.2,e,λv H' ⟨k1,s1,r1⟩=>⟨d,zn e2 (.inl r1),q H' k1 s1⟩⟩
def zf(f:GT):GT:=λρ=>(f ρ).map λq=>(!q.1,q.2)
theorem Cg {f:GT}(ha:G9 X c a f):G9 X c (.UnaryOp .Not a pos) (zf f):=λhid ρ=>
 PT.imp (zD (ha hid ρ)) λσ H Q hq_=>by
  obtain⟨sr,d,ρ',hd,hq⟩:=hq_
  unfold zf at hd;cases e:f ρ with
  |none=>rw[e] at hd;cases hd
  |some z=>rw[e] at hd;cases hd;exact⟨sr,z.1,z.2,e,λH1 k1 s1=>hq H1 k1 s1⟩
end
section
variable {X:Cx}{c:Ct}{k:Kd}{t u:FS}{e:Expr}{pos:Pos}
def Fm(p:GT)(t u:FS):FS:=λρ=>match p ρ with
 |some (true,ρ')=>t ρ'
 |some (false,ρ')=>u ρ'
 |none=>.no
theorem Dz {p:GT}{a b:List Stmt}(hp:G9 X c e p)(ha:ua X c k a t)(hb:ua X c k b u):DS X c k (.If e a b pos) (Fm p t u):=λρ=>
 PS.imp (Dc (Fh λhid=>hp hid ρ) (sv λρ1=>ha ρ1) (sv λρ1=>hb ρ1)) λD σ H hq_=>by
  obtain⟨hid,sr,q⟩:=hq_
  cases e1:p ρ with
  |none=>unfold Fm at q;rw[e1] at q;exact q.elim
  |some z=>
   obtain⟨x,ρ1⟩:=z
   refine⟨hid,sr,x,ρ1,e1,λH1 k1 s1=>?_⟩
   unfold Fm at q;rw[e1] at q;cases x with
   |true=>exact qy ⟨ρ1,hid,s1,EndOk.mono q k1.vw⟩
   |false=>exact qW ⟨ρ1,hid,s1,EndOk.mono q k1.vw⟩
end
section
variable {prog:Program}{w:World}{A:Around}{R:Result->Shared->Prop}{s:Shared}{elt t1 t2 i1 i2:Expr}{ifs1 ifs2:List Expr}{scope:Scope}{pos:Pos}{it acc:Value}{env:Env}
theorem C0:compTurn (.ListComp elt [⟨t1,i1,ifs1,0⟩,⟨t2,i2,ifs2,0⟩] scope pos) 1 it acc env=(do
 standAt i2.pos
 match <-pyNext it with
 |none=>pure (.done .next)
 |some v=>
  letOwnedTupleGo t2 it v
  assign t2 env v
  let ok <-kW ifs2 env
  if ok=true then do(do let _ <-call (.builtin "list.append") [acc,<-eval elt env]);again (.compLoop (.ListComp elt [⟨t1,i1,ifs1,0⟩,⟨t2,i2,ifs2,0⟩] scope pos) 1 it acc env)
  else again (.compLoop (.ListComp elt [⟨t1,i1,ifs1,0⟩,⟨t2,i2,ifs2,0⟩] scope pos) 1 it acc env)):=by rfl
theorem zq:compTurn (.ListComp elt [⟨t1,i1,ifs1,0⟩,⟨t2,i2,ifs2,0⟩] scope pos) 0 it acc env=(do
 standAt i1.pos
 match <-pyNext it with
 |none=>pure (.done .next)
 |some v=>
  letOwnedTupleGo t1 it v
  assign t1 env v
  let ok <-kW ifs1 env
  if ok=true then do
   let x <-eval i2 env
   standAt i2.pos
   let x <-foldedSetIterable i2 env x
   let _ <-runOwn (.compStart (.ListComp elt [⟨t1,i1,ifs1,0⟩,⟨t2,i2,ifs2,0⟩] scope pos) 1 (<-holding [x] (pyIter x)) acc env) env
   again (.compLoop (.ListComp elt [⟨t1,i1,ifs1,0⟩,⟨t2,i2,ifs2,0⟩] scope pos) 0 it acc env)
  else again (.compLoop (.ListComp elt [⟨t1,i1,ifs1,0⟩,⟨t2,i2,ifs2,0⟩] scope pos) 0 it acc env)):=by rfl
abbrev zR:=(Shared->Prop)->Shared->Prop
def vJ(prog:Program)(w:World)(A:Around)(elt:Expr)(acc:Value)(env:Env):zR:=λQ s=>
 wpAny (model prog w) A (eval elt env) (λx s₄=>wpAny (model prog w) A (call (.builtin "list.append") [acc,x]) (λ_ s₅=>Q s₅) (λ_ _=>False) s₄) (λ_ _=>False) s
def rn(prog:Program)(w:World)(A:Around)(e iter:Expr)(acc:Value)(env:Env):zR:=λQ s=>
 wpAny (model prog w) A (eval iter env) (λx s₄=>wpAny (model prog w) A (pyIter x) (λit s₅=>codeAny (model prog w) A (.compStart e 1 it acc env) (λr s'=>match r with
  | .ok _=>Q s'
  | .error _=>False) s₅) (λ_ _=>False) s₄) (λ_ _=>False) s
def yY(prog:Program)(w:World)(A:Around)(code:Code)(tg:Expr)(ifs:List Expr)(it:Value)(env:Env)(TA:zR)(R:Result->Shared->Prop):Prop:= ∀(I:Nat->Shared->Prop),
 (∀n s,I n s->wpAny (model prog w) A (pyNext it) (λr s₁=>match r with
   |none=>R (.ok .next) s₁
   |some v=>wpAny (model prog w) A (letOwnedTupleGo tg it v) (λ_ s₁=>wpAny (model prog w) A (assign tg env v) (λ_ s₂=>
     wpAny (model prog w) A (kW ifs env) (λok s₃=>
      if ok=true then TA (λs₅=> ∃m,m<n/\I m s₅) s₃
      else∃m,m<n/\I m s₃) (λ_ _=>False) s₂) (λ_ _=>False) s₁) (λ_ _=>False) s₁) (λ_ _=>False) s)->
 ∀(n:Nat) (s:Shared),I n s->codeAny (model prog w) A code R s
theorem AD:yY prog w A (.compLoop (.ListComp elt [⟨t1,i1,ifs1,0⟩,⟨t2,i2,ifs2,0⟩] scope pos) 1 it acc env) t2 ifs2 it env (vJ prog w A elt acc env) R:=by
 intro I turn n s h;have no: ∀ {E':Value->Shared->Prop} (x:Value) (s:Shared),False->E' x s:=λ_ _ z=>z.elim
 refine codeAny_loop rfl I (λn s hI=>?_) n h
 show wpAny _ A ((compTurn (.ListComp elt [⟨t1,i1,ifs1,0⟩,⟨t2,i2,ifs2,0⟩] scope pos) 1 it acc env).onRaise (λx=>do noteFrame x env;theTreesLotGoes x)) _ _ s
 refine wpAny_noted ?_
 rw[C0];refine wpAny_bind (wpAny_standAt (wpAny_bind (wpAny_mono (turn n s hI) (λr s₁ h₁=>?_) no)))
 cases r with
 |none=>exact wpAny_pure h₁
 |some v=>
  refine wpAny_bind (wpAny_mono h₁ (λ_ s₁ h₁=>wpAny_bind (wpAny_mono h₁ (λ_ s₂ h₂=>wpAny_bind (wpAny_mono h₂ (λok s₃ h₃=>?_) no)) no)) no)
  cases ok with
  |false=>exact wpAny_pure ⟨rfl,h₃⟩
  |true=>exact wpAny_bind (wpAny_bind (wpAny_mono h₃ (λx s₄ h₄=>wpAny_bind (wpAny_mono h₄ (λ_ s₅ h₅=>wpAny_pure (wpAny_pure ⟨rfl,h₅⟩)) no)) no))
theorem wZ(hset: ∀x,foldedSetIterable i2 env x=pure x):yY prog w A (.compLoop (.ListComp elt [⟨t1,i1,ifs1,0⟩,⟨t2,i2,ifs2,0⟩] scope pos) 0 it acc env) t1 ifs1 it env (rn prog w A (.ListComp elt [⟨t1,i1,ifs1,0⟩,⟨t2,i2,ifs2,0⟩] scope pos) i2 acc env) R:=by
 intro I turn n s h;have no: ∀ {E':Value->Shared->Prop} (x:Value) (s:Shared),False->E' x s:=λ_ _ z=>z.elim
 refine codeAny_loop rfl I (λn s hI=>?_) n h
 show wpAny _ A ((compTurn (.ListComp elt [⟨t1,i1,ifs1,0⟩,⟨t2,i2,ifs2,0⟩] scope pos) 0 it acc env).onRaise (λx=>do noteFrame x env;theTreesLotGoes x)) _ _ s
 refine wpAny_noted ?_
 rw[zq];refine wpAny_bind (wpAny_standAt (wpAny_bind (wpAny_mono (turn n s hI) (λr s₁ h₁=>?_) no)))
 cases r with
 |none=>exact wpAny_pure h₁
 |some v=>
  refine wpAny_bind (wpAny_mono h₁ (λ_ s₁ h₁=>wpAny_bind (wpAny_mono h₁ (λ_ s₂ h₂=>wpAny_bind (wpAny_mono h₂ (λok s₃ h₃=>?_) no)) no)) no)
  cases ok with
  |false=>exact wpAny_pure ⟨rfl,h₃⟩
  |true=>
   refine wpAny_bind (wpAny_mono h₃ (λx s₄ h₄=>wpAny_bind (wpAny_standAt (wpAny_bind (wpAny_of_eq (hset x) (wpAny_bind (wpAny_holding (wpAny_mono h₄ (λit2 s₅ h₅=>?_) no))))))) no)
   refine wpAny_bind (wpAny_runOwn (codeAny_mono h₅ λr s' hr=>?_))
   cases r with
   |ok f=>exact wpAny_pure ⟨rfl,hr⟩
   |error e=>exact hr.elim
end
def oF(g:FG)(p:FT)(A:FA)(ρ0:aF):List D->Option (List D)
 | []=>some []
 |d::r=>(g d ρ0).bind λρ1=>(p ρ1).bind λb=>if b=true then(A ρ1).bind λys=>(oF g p A ρ0 r).map (ys++ ·) else oF g p A ρ0 r
def Hy(n:Nat)(ρ:aF):Prop:= ∀(i:Nat) (s:Sl),n<=i->ρ[i]? =some s->s=.no
def zb(Y:Cx)(c:Ct)(hid:bK)(D0:Addr)(L W:Hp)(A:FA)(TA:zR)(ρ1:aF):Prop:= ∀(ae:List (Addr×Obj)) (s:Shared) (σ:St) (H:Hp) (xs:List V) (ad zs:List D) (Q:Shared->Prop),Inv Y ae σ H s->SR Y.K c hid ρ1 σ H->
 H D0=some (.lst xs)->Reps Y.K (vw H hid) xs ad->xs.length+zs.length<=sizeLine->Same L H->Same W (vw H hid)->(∀i:Nat,Ow ρ1[i]? ->σ[i]? ≠some (some (.ref D0)))->A ρ1=some zs->
 (∀(s':Shared) (σ':St) (H':Hp) (xs':List V),Inv Y ae σ' H' s'->SR Y.K c hid ρ1 σ' H'->H' D0=some (.lst xs')->Reps Y.K (vw H' hid) xs' (ad++zs)->Same L H'->Same (vw H hid) (vw H' hid)->(∀i:Nat,Ow ρ1[i]? ->σ'[i]? ≠some (some (.ref D0)))->Q s')->TA Q s
section
variable {Y:Cx}{c:Ct}{tg:Expr}{ifs:List Expr}{g:FG}{p:FT}{A:FA}{TA:zR}{code:Code}
structure CLG(Y:Cx)(ae:List (Addr×Obj))(c:Ct)(hid:bK)(ρ0:aF)(L W H3:Hp)(D0:Addr)(fp:List Addr)(tn:Nat->Heap->Prop)(g:FG)(p:FT)(A:FA)(ds ys ad0:List D)(n i:Nat)(xs:List V)(ad:List D)(σ':St)(H':Hp)(s':Shared):Prop where
 e:n=ds.length-i
 hi:i<=ds.length
 I:Inv Y ae σ' H' s'
 st:tn i s'.heap
 fr: ∀b∈fp,H' b=none
 sr:SR Y.K c hid ρ0 σ' H'
 sm:Same L H'
 ac:H' D0=some (.lst xs)
 rp:Reps Y.K (vw H' hid) xs ad
 w:Same W (vw H' hid)
 v:Same (vw H3 hid) (vw H' hid)
 na: ∀i:Nat,Ow ρ0[i]? ->σ'[i]? ≠some (some (.ref D0))
 go: ∃rest,oF g p A ρ0 (ds.drop i)=some rest/\ad++rest=ad0++ys
theorem sk(hcalm:Y.calm=true)(hxe:Y.xe=λ_ _=>False){n0:Nat}(hT:jA n0 g)(hg:oP Y c tg g)(hp:rM Y c ifs p)
 {ae:List (Addr×Obj)} {σ3:St} {H3 L W:Hp} {s4:Shared} {hid:bK} {ρ0:aF} {J:It} {it D0:Addr} {fp:List Addr} {tn:Nat->Heap->Prop} {ds ys ad0:List D} {xs0:List V} {R:Result->Shared->Prop}
 (hA: ∀d ρ1,g d ρ0=some ρ1->zb Y c hid D0 L W A TA ρ1)
 (hN:Hy n0 ρ0) (I:Inv Y ae σ3 H3 s4) (sr:SR Y.K c hid ρ0 σ3 H3) (hh:hid D0=true) (na: ∀i:Nat,Ow ρ0[i]? ->σ3[i]? ≠some (some (.ref D0))) (hacc:H3 D0=some (.lst xs0)) (rp0:Reps Y.K (vw H3 hid) xs0 ad0) (sm:Same L H3) (wv:Same W (vw H3 hid)) (T:Turn Y.prog Y.w Y.K tg J fp it tn) (st:tn 0 s4.heap) (hF: ∀b∈fp,iY Y ae H3 b)
 (io:Cq Y.K L W J ds) (hz:ad0.length+ys.length<=sizeLine) (hc:oF g p A ρ0 ds=some ys)
 (hTP:yY Y.prog Y.w Y.A code tg ifs (.ref it) Y.env TA R)
 (hR: ∀(s':Shared) (σ':St) (H':Hp) (xs:List V),Inv Y ae σ' H' s'->SR Y.K c hid ρ0 σ' H'->Same L H'->H' D0=some (.lst xs)->Reps Y.K (vw H' hid) xs (ad0++ys)->Same (vw H3 hid) (vw H' hid)->(∀i:Nat,Ow ρ0[i]? ->σ'[i]? ≠some (some (.ref D0)))->R (.ok .next) s'):
 codeAny (model Y.prog Y.w) Y.A code R s4:=by
 have stat: ∀ {H':Hp},(∀b∈fp,H' b=none)-> ∀b∈fp,iY Y ae H' b:=λ{H'} hn b hb=>⟨hn b hb,(hF b hb).2⟩
 refine hTP (λn s'=> ∃(i:Nat) (xs:List V) (ad:List D) (σ':St) (H':Hp),CLG Y ae c hid ρ0 L W H3 D0 fp tn g p A ds ys ad0 n i xs ad σ' H' s') ?_ ds.length s4
  ⟨0,xs0,ad0,σ3,H3,by simp,Nat.zero_le _,I,st,λb hb=>(hF b hb).1,sr,sm,hacc,rp0,wv,Same.refl _,na,ys,by simpa using hc,rfl⟩
 rintro n s5 ⟨i,xs,ad,σ5,H5,rfl,hi,I5,st5,f5,sr5,sm5,ac5,rp5,w5,v5,na5,rest,hc5,hy5⟩
 have wH:Same W H5:=w5.trans (dY _ _)
 by_cases hlt:i<ds.length
 ·have hd:ds[i]? =some ds[i]:=List.getElem?_eq_getElem hlt
  have e2:ds.drop i=ds[i]::ds.drop (i+1):=List.drop_eq_getElem_cons hlt
  rw[e2] at hc5;unfold oF at hc5;obtain⟨go,yl⟩:=io.1 i ds[i] H5 hd sm5 wH
  refine bI (T.item Y rfl rfl rfl hcalm i ae s5 σ5 H5 (λ_ _=>False) I5 (stat f5) st5 go) λr s6 hq_=>?_
  obtain⟨u,hr,h6⟩:=hq_
  subst hr;refine bI h6 λ_ s7 hq_=>?_
  obtain⟨x,H7,I7,r7,y7,st7,f7⟩:=hq_
  obtain⟨s7',rp⟩:=yl x H7 y7
  have rx:=rp hid sr5.tr w5
  have I7':=I7.pinned (stat f7) (T.obj _ _ st7)
  cases e3:g ds[i] ρ0 with
  |none=>rw[e3] at hc5;cases hc5
  |some ρ1=>
   rw[e3] at hc5;have hc5:(p ρ1).bind (λb=>if b=true then(A ρ1).bind λys=>(oF g p A ρ0 (ds.drop (i+1))).map (ys++ ·) else oF g p A ρ0 (ds.drop (i+1)))=some rest:=hc5
   obtain⟨tl1,tl2⟩:=hT _ _ _ e3
   have fg: ∀ {σ':St} {H':Hp},SR Y.K c hid ρ1 σ' H'->SR Y.K c hid ρ0 σ' H':=λ{σ' H'} z=>z.forget tl1 λj s e=>by
    by_cases hj:j<n0
    ·exact .inr ((tl2 j hj).trans e)
    ·exact .inl (hN j s (by omega) e)
   have ow01: ∀j:Nat,Ow ρ0[j]? ->Ow ρ1[j]? :=λj o=>by
    by_cases hj:j<n0
    ·rw[tl2 j hj];exact o
    ·exfalso
     cases e:ρ0[j]? with
     |none=>rw[e] at o;exact o
     |some s=>have:=hN j s (by omega) e;subst this;rw[e] at o;exact o
   have keepT: ∀ {σ':St} {H':Hp} {s':Shared},Inv Y (ae++ku fp s7.heap) σ' H' s'->tn (i+1) s'.heap/\ ∀b∈fp,H' b=none:=λ{σ' H' s'} J'=>by
    refine⟨T.keep _ _ _ st7 λb hb o e=>(J'.pin (b,o) (List.mem_append_right _ (List.mem_append_right _ (dh hb e)))).1,λb hb=>?_⟩
    obtain⟨o,e,_⟩:=T.obj _ _ st7 b hb
    exact(J'.pin (b,o) (List.mem_append_right _ (List.mem_append_right _ (dh hb e)))).2.1
   refine bI (hxe▸hg hid ρ0 ds[i] _ s7 σ5 H7 x u (λσ' H'=>H'=H7/\SR Y.K c hid ρ1 σ' H7/\OwK ρ0 ρ1 σ5 σ') I7' r7 ⟨sr5.ext s7',rx,ρ1,e3,λσ' z o=>⟨rfl,z,o⟩⟩) λ_ s8 hq_=>?_
   obtain⟨σ8,H8,I8,e8,q8,o8⟩:=hq_
   subst e8;have na1: ∀j:Nat,Ow ρ1[j]? ->σ8[j]? ≠some (some (.ref D0)):=λj o=>by
    rw[(o8 j o).2];exact na5 j (o8 j o).1
   cases e4:p ρ1 with
   |none=>rw[e4] at hc5;cases hc5
   |some b=>
    rw[e4] at hc5;have hc5:(if b=true then(A ρ1).bind λys=>(oF g p A ρ0 (ds.drop (i+1))).map (ys++ ·) else oF g p A ρ0 (ds.drop (i+1)))=some rest:=hc5
    refine bI (hxe▸hp hid ρ1 _ s8 σ8 H8 (λb' H'=>b'=b/\Same H8 H') I8 ⟨q8,b,e4,λH' s'=>⟨rfl,s'⟩⟩) λok s9 hq_=>?_
    obtain⟨H9,I9,e9,sm9⟩:=hq_
    subst e9;have w9:Same (vw H5 hid) (vw H9 hid):=aQ (s7'.trans sm9)
    cases ok with
    |false=>
     have hc5:oF g p A ρ0 (ds.drop (i+1))=some rest:=hc5
     obtain⟨k1,k2⟩:=keepT I9
     exact⟨ds.length- (i+1),by omega,i+1,xs,ad,σ8,H9,rfl,hlt,I9.unpinned,k1,k2,fg (q8.ext sm9),sm5.trans (s7'.trans sm9),sm9 _ _ (s7' _ _ ac5),rp5.mono w9,w5.trans w9,v5.trans w9,λj o=>na1 j (ow01 j o),rest,hc5,hy5⟩
    |true=>
     have hc5:((A ρ1).bind λys=>(oF g p A ρ0 (ds.drop (i+1))).map (ys++ ·))=some rest:=hc5
     cases e5:A ρ1 with
     |none=>rw[e5] at hc5;cases hc5
     |some zs=>
      rw[e5] at hc5;have hc5:(oF g p A ρ0 (ds.drop (i+1))).map (zs++ ·)=some rest:=hc5
      cases e6:oF g p A ρ0 (ds.drop (i+1)) with
      |none=>rw[e6] at hc5;cases hc5
      |some rest'=>
       rw[e6] at hc5;cases hc5
       have l1:=rp5.length
       have l2:=congrArg List.length hy5
       simp only[List.length_append] at l2;refine hA ds[i] ρ1 e3 _ s9 σ8 H9 xs ad zs _ I9 (q8.ext sm9) (sm9 _ _ (s7' _ _ ac5)) (rp5.mono w9) (by omega) (sm5.trans (s7'.trans sm9)) (w5.trans w9) na1 e5 λs10 σ10 H10 xs' I10 q10 a10 rp10 smL v10 na10=>?_
       obtain⟨k1,k2⟩:=keepT I10
       exact⟨ds.length- (i+1),by omega,i+1,xs',ad++zs,σ10,H10,rfl,hlt,I10.unpinned,k1,k2,fg q10,smL,a10,rp10,(w5.trans w9).trans v10,(v5.trans w9).trans v10,λj o=>na10 j (ow01 j o),rest',e6,by rw[<-hy5];simp⟩
 ·have e:i=ds.length:=by omega
  subst e;rw[List.drop_eq_nil_of_le (Nat.le_refl _)] at hc5;cases hc5
  rw[List.append_nil] at hy5;subst hy5;refine bI (T.done Y rfl rfl rfl hcalm ds.length ae s5 σ5 H5 (λ_ _=>False) I5 (stat f5) st5 (io.2 H5 sm5 wH)) λr s6 hq_=>?_
  obtain⟨hr,I6⟩:=hq_
  subst hr;exact hR s6 σ5 H5 xs I6 sr5 sm5 ac5 rp5 v5 na5
end
def sP(f:FE):FA:=λρ=>(f ρ).map λd=>[d]
def A3(gi:FA)(g:FG)(p:FT)(f:FE):FA:=λρ1=>(gi ρ1).bind λds=>oF g p (sP f) ρ1 ds
def pc(m:Nat)(gi1:FA)(g1:FG)(p1:FT)(gi2:FA)(g2:FG)(p2:FT)(f:FE):FE:=λρ=>(gi1 ρ).bind λds=>(oF g1 p1 (A3 gi2 g2 p2 f) (ρ++List.replicate m .no) ds).bind λys=>if ys.length<=sizeLine then some (.lst ys) else none
theorem xR {m:Nat}{gi1 gi2:FA}{g1 g2:FG}{p1 p2:FT}{f:FE}{ρ:aF}{d:D}(h:pc m gi1 g1 p1 gi2 g2 p2 f ρ=some d): ∃ds ys,gi1 ρ=some ds/\oF g1 p1 (A3 gi2 g2 p2 f) (ρ++List.replicate m .no) ds=some ys/\ys.length<=sizeLine/\d=.lst ys:=by
 unfold pc at h;cases e1:gi1 ρ with
 |none=>rw[e1] at h;cases h
 |some ds=>
  rw[e1] at h;dsimp only[Option.bind] at h;cases e2:oF g1 p1 (A3 gi2 g2 p2 f) (ρ++List.replicate m .no) ds with
  |none=>rw[e2] at h;cases h
  |some ys=>
   rw[e2] at h;dsimp only at h;split at h
   ·cases h;exact⟨ds,ys,rfl,e2, ‹_›,rfl⟩
   ·cases h
def DU(n:Nat)(g:FG):Prop:= ∀d (ρ0 ρ1:aF),g d ρ0=some ρ1-> ∀i:Nat,n<=i->ρ1[i]? =ρ0[i]?
theorem Gj {n i:Nat}(h:i<n):DU n (gN i):=λd ρ0 ρ1 e=>by
 cases e
 exact λj hj=>List.getElem?_set_ne (by omega)
section
variable {prog:Program}{w:World}{A:Around}{R:Result->Shared->Prop}{s:Shared}{elt t1 t2 i1 i2:Expr}{ifs1 ifs2:List Expr}{scope:Scope}{pos:Pos}{it acc:Value}{env:Env}
theorem yr
 (h0:codeAny (model prog w) A (.compLoop (.ListComp elt [⟨t1,i1,ifs1,0⟩,⟨t2,i2,ifs2,0⟩] scope pos) 1 it acc env) R s)
 (h:wpAny (model prog w) A (pyIter it) (λit' s'=>codeAny (model prog w) A (.compLoop (.ListComp elt [⟨t1,i1,ifs1,0⟩,⟨t2,i2,ifs2,0⟩] scope pos) 1 it' acc env) R s')
   (notedBy (model prog w) A env λx s'=>R (.error x) s') s):
 codeAny (model prog w) A (.compStart (.ListComp elt [⟨t1,i1,ifs1,0⟩,⟨t2,i2,ifs2,0⟩] scope pos) 1 it acc env) R s:=by
 refine codeAny_of_tree (show wpAny _ _ ((compStart (.ListComp elt [⟨t1,i1,ifs1,0⟩,⟨t2,i2,ifs2,0⟩] scope pos) 1 it acc env).onRaise (λx=>do noteFrame x env;standAt theWindowsPlace)) _ _ s from wpAny_notedAt ?_)
 unfold compStart;show wpAny _ _ (ask>>=_) _ _ s;refine wpAny_bind (wpAny_askSetting (wpAny_ite ?_))
 split
 ·first
   |exact wpAny_bind (wpAny_pure (wpAny_pure (And.intro rfl h0)))
   |exact wpAny_pure (And.intro rfl h0)
 ·first
   |exact wpAny_bind (wpAny_rule (wpAny_bind (wpAny_standAt (wpAny_bind (wpAny_mono h (λit' s' h'=>wpAny_pure (And.intro rfl h')) λ_ _ x=>x)))))
   |(refine wpAny_bind (wpAny_rule ?_);show wpAny _ _ (standAt i2.pos>>=_) _ _ s;exact wpAny_bind (wpAny_standAt (wpAny_bind (wpAny_mono h (λit' s' h'=>wpAny_pure (And.intro rfl h')) λ_ _ x=>x))))
end
section
variable {Y:Cx}{c:Ct}{elt t1 t2 i1 i2:Expr}{ifs1 ifs2:List Expr}{scope:Scope}{pos:Pos}{f:FE}{g2:FG}{p2:FT}{gi2:FA}{hid:bK}{D0:Addr}{L W:Hp}{ρ1:aF}
theorem AW(hxe:Y.xe=λ_ _=>False)(he:DP Y c .s elt f)(hh:hid D0=true)(h00:c.H₀ D0=none)(nD:L D0=none):zb Y c hid D0 L W (sP f) (vJ Y.prog Y.w Y.A elt (.ref D0) Y.env) ρ1:=by
 intro ae s σ H xs ad zs Q I sr ac rp hz smL wv na hA hQ;unfold sP at hA;cases e5:f ρ1 with
 |none=>rw[e5] at hA;cases hA
 |some y=>
  rw[e5] at hA;cases hA;unfold vJ;refine bI (hxe▸he hid ρ1 _ s σ H (λv H'=>Same H H'/\Rep Y.K (vw H' hid) v y) I ⟨sr,y,e5,λv H' s' r=>⟨s',r⟩⟩) λv s10 hq_=>?_
  obtain⟨z,H10,I10,rz,sm10,rp10⟩:=hq_
  have a10:H10 D0=some (.lst xs):=sm10 _ _ ac
  refine bI (hxe▸dB (X:=Y) _ s10 σ H10 (.ref D0) [z] (.ref D0) [v] (λ_ H'=>H'=bM H10 D0 (.lst (xs++[z]))) I10 rfl (.cons rz .nil) ⟨D0,xs,z,rfl,rfl,a10,by simp at hz;omega,rfl⟩) λ_ s11 ⟨_,H11,I11,_,e11⟩=>?_
  subst e11;have vv:vw (bM H10 D0 (.lst (xs++[z]))) hid=vw H10 hid:=eD hh
  have w10:Same (vw H hid) (vw H10 hid):=aQ sm10
  refine hQ s11 σ _ (xs++[z]) I11 ((sr.ext sm10).write hh h00 na) aK ?_ (λb o e=>?_) ?_ na
  ·rw[vv];exact(rp.mono w10).append (.cons rp10 .nil)
  ·rw[aH (bd e nD)];exact sm10 _ _ (smL _ _ e)
  ·rw[vv];exact w10
theorem xg(hcalm:Y.calm=true)(hxe:Y.xe=λ_ _=>False){n1:Nat}(hT:jA n1 g2)(hN:Hy n1 ρ1)(hi:DIp Y c t2 i2 gi2)(hg:oP Y c t2 g2)(hp:rM Y c ifs2 p2)(he:DP Y c .s elt f)(hh:hid D0=true)(h00:c.H₀ D0=none)(nD:L D0=none):
 zb Y c hid D0 L W (A3 gi2 g2 p2 f) (rn Y.prog Y.w Y.A (.ListComp elt [⟨t1,i1,ifs1,0⟩,⟨t2,i2,ifs2,0⟩] scope pos) i2 (.ref D0) Y.env) ρ1:=by
 intro ae s σ H xs ad zs Q I sr ac rp hz smL wv na hA hQ;unfold A3 at hA;cases e5:gi2 ρ1 with
 |none=>rw[e5] at hA;cases hA
 |some ds=>
  rw[e5] at hA;have hA:oF g2 p2 (sP f) ρ1 ds=some zs:=hA
  unfold rn;refine bI (hxe▸hi hid ρ1 ae s σ H (λJ H'=>Same H H'/\ItOk Y.K (vw H' hid) J ds) I ⟨sr,ds,e5,λJ H' s1 io=>⟨s1,io⟩⟩) λv s1 h1=>bI h1 λitv s2 h2=>?_
  obtain⟨it,fp,tn,J,H2,rfl,I2,T,st2,f2,sm,io⟩:=h2
  have l1:=rp.length
  have loop:codeAny (model Y.prog Y.w) Y.A (.compLoop (.ListComp elt [⟨t1,i1,ifs1,0⟩,⟨t2,i2,ifs2,0⟩] scope pos) 1 (.ref it) (.ref D0) Y.env) (λr s'=>match r with
   | .ok _=>Q s'
   | .error _=>False) s2:=by
   refine sk (L:=L) (W:=vw H2 hid) (ad0:=ad) (xs0:=xs) (A:=sP f) (TA:=vJ Y.prog Y.w Y.A elt (.ref D0) Y.env) hcalm hxe hT hg hp (λd ρ2 _=>AW hxe he hh h00 nD) hN I2 (sr.ext sm) hh na (sm _ _ ac) (rp.mono (aQ sm)) (smL.trans sm) (Same.refl _) T st2 f2 io.b (by omega) hA AD ?_
   intro s' σ' H' xs' I' sr' smL' ac' rp' v' na';exact hQ s' σ' H' xs' I' sr' ac' rp' smL' ((aQ sm).trans v') na'
  exact yr loop (T.self Y.A 0 _ _ _ st2 loop)
end
section
variable {X:Cx}{c:Ct}{elt t1 t2 i1 i2:Expr}{ifs1 ifs2:List Expr}{scope:Scope}{pos:Pos}{N':List Str}{m n1:Nat}{gi1 gi2:FA}{g1 g2:FG}{p1 p2:FT}{f:FE}
theorem sZ(hcalm:X.calm=true)(hk:scope.kind=.function)(hs:uc scope X.env.scope=true)(hn:ur X.N N' scope=true)(hm:N'.length-X.N.length=m)(hT1:jA X.N.length g1)(hU1:DU n1 g1)(hn1:X.N.length<=n1)(hT2:jA n1 g2)
 (hset: ∀C s₀ H₀ ex,∀x,foldedSetIterable i2 (aE X N' scope C s₀ H₀ ex).env x=pure x)
 (hg1: ∀C s₀ H₀ ex,oP (aE X N' scope C s₀ H₀ ex) c t1 g1) (hp1: ∀C s₀ H₀ ex,rM (aE X N' scope C s₀ H₀ ex) c ifs1 p1) (hi2: ∀C s₀ H₀ ex,DIp (aE X N' scope C s₀ H₀ ex) c t2 i2 gi2)
 (hg2: ∀C s₀ H₀ ex,oP (aE X N' scope C s₀ H₀ ex) c t2 g2) (hp2: ∀C s₀ H₀ ex,rM (aE X N' scope C s₀ H₀ ex) c ifs2 p2) (he: ∀C s₀ H₀ ex,DP (aE X N' scope C s₀ H₀ ex) c .s elt f)
 {E:Value->Shared->Prop} {ae:List (Addr×Obj)} {σ:St} {H:Hp} {s:Shared} {hid:bK} {ρ:aF} {J:It} {it:Addr} {fp:List Addr} {tn:Nat->Heap->Prop} {ds ys:List D} {RR:Value->Addr->Result->Shared->Prop}
 (I:Inv X ae σ H s) (sr:SR X.K c hid ρ σ H) (T:Turn X.prog X.w X.K t1 J fp it tn) (st:tn 0 s.heap) (hF: ∀b∈fp,iY X ae H b) (io:Cq X.K H (vw H hid) J ds) (hz:ys.length<=sizeLine) (hc:oF g1 p1 (A3 gi2 g2 p2 f) (ρ++List.replicate m .no) ds=some ys)
 (hR: ∀(D C:Addr) (s':Shared) (H':Hp) (xs:List V),s.heap.objs.size<=D->s.heap.objs.size<=C->D≠C->H D=none->Same H H'->H' D=some (.lst xs)->Reps X.K (vw H' (aZ hid D)) xs ys->(∃m,s'.heap.Ns C m)->H' C=none->s'.os=s.os->AllBare s'.gens->HOk X.prog X.w H' s'.heap->Un (pS X.stack) fp H H' s.heap s'.heap->RR (.ref D) C (.ok .next) s'):
 wpAny (model X.prog X.w) X.A (newList []) (λacc s₃=>wpAny (model X.prog X.w) X.A (newFunctionEnv scope X.env.globals (qD X.env.cells scope.names []) [] X.env.qual none .none (some X.env)) (λcenv s₄=>
  codeAny (model X.prog X.w) X.A (.compStart (.ListComp elt [⟨t1,i1,ifs1,0⟩,⟨t2,i2,ifs2,0⟩] scope pos) 0 (.ref it) acc {cenv with scope:=relabel scope X.env}) (RR acc cenv.locals) s₄) E s₃) E s:=by
 refine wpAny_newObj_type (qH λh₁ hns₁ kp1 oc₁=>?_)
 dsimp only at hns₁ kp1 oc₁⊢
 generalize hH2:s.heap.push {cls:=.type "list",dict:=none,data:=.seq ([]:List Value).toArray}=H2 at hns₁ kp1 oc₁⊢
 have hC:H2.objs.size=s.heap.objs.size+1:=by rw[<-hH2,Heap.size_push]
 have hD:H s.heap.objs.size=none:=I.hok.fresh (Nat.le_refl _)
 have I2:Inv X ae σ (bM H s.heap.objs.size (.lst [])) {s with heap:=H2}:=by
  rw[<-hH2];exact I.laid (t':=s.toks) (λb o e=>Heap.get?_push_of_some _ e) (Nat.le_refl _) ⟨Nat.zero_le _,[],0,.nil,Heap.get?_push_size _ rfl⟩
 have fpLt: ∀b∈fp,b<s.heap.objs.size:=λb hb=>let⟨o,e,_⟩:=T.obj 0 s.heap st b hb;Heap.lt_size e
 have hF2: ∀b∈fp,iY X ae (bM H s.heap.objs.size (.lst [])) b:=λb hb=>⟨by rw[aH (Nat.ne_of_lt (fpLt b hb))];exact(hF b hb).1,(hF b hb).2⟩
 have kp0: ∀b o,s.heap.get? b=some o->H2.get? b=some o:=λb o e=>by rw[<-hH2];exact Heap.get?_push_of_some _ e
 have IY:=nO (tk:=s.toks) (N':=N') (fp:=fp) I2 hF2 (λb hb=>let⟨o,e,_⟩:=T.obj 0 s.heap st b hb;⟨o,kp0 b o e⟩) hk hs hn hns₁ kp1 oc₁
 rw[hm] at IY;dsimp only at IY;have sr0:SR X.K c (aZ hid s.heap.objs.size) (ρ++List.replicate m .no) (σ++List.replicate m none) (bM H s.heap.objs.size (.lst [])):=(sr.hide (aW hD _) hD aK).more m
 have hρ:ρ.length=X.N.length:=by rw[<-sr.len];exact I.len
 have nf:hid s.heap.objs.size=false:=sr.fresh hD
 have st1:tn 0 h₁:=T.keep _ _ _ st λb hb o e=>kp1 b o (kp0 b o e)
 have na0: ∀i:Nat,Ow (ρ++List.replicate m Sl.no)[i]? ->(σ++List.replicate m none)[i]? ≠some (some (V.ref s.heap.objs.size)):=(sr.more m).notOw nf
 have wv:Same (vw H hid) (vw (bM H s.heap.objs.size (.lst [])) (aZ hid s.heap.objs.size)):=by rw[rm hD];exact Same.refl _
 have nos:Hy X.N.length (ρ++List.replicate m Sl.no):=λi s hi e=>by
  rw[List.getElem?_append_right (by omega),List.getElem?_replicate] at e
  split at e
  ·cases e;rfl
  ·cases e
 have loop: ∀s4:Shared,s4={s with heap:=h₁,toks:=s.toks}->
  codeAny (model X.prog X.w) X.A (.compLoop (.ListComp elt [⟨t1,i1,ifs1,0⟩,⟨t2,i2,ifs2,0⟩] scope pos) 0 (.ref it) (.ref s.heap.objs.size) (compEnvC scope (ma X.env.cells scope H2.objs.size) H2.objs.size X.env)) (RR (.ref s.heap.objs.size) H2.objs.size) s4:=by
  rintro s4 rfl
  have fpY: ∀b∈fp,iY (aE X N' scope H2.objs.size {s with heap:=H2} (bM H s.heap.objs.size (.lst [])) fp) [] (bM H s.heap.objs.size (.lst [])) b:=λb hb=>
   ⟨(hF2 b hb).1,(IY.ok.exf b hb).1,IY.ok.exfs b hb,.inl hb,(IY.ok.exf b hb).2,λq hq=>by have hq':q∈([]:List (Addr×Obj))++[]:=hq;simp at hq'⟩
  refine sk (Y:=aE X N' scope H2.objs.size {s with heap:=H2} (bM H s.heap.objs.size (.lst [])) fp) (L:=H) (hid:=aZ hid s.heap.objs.size) (W:=vw H hid) (ad0:=[]) (xs0:=[]) (A:=A3 gi2 g2 p2 f) (TA:=rn X.prog X.w X.A (.ListComp elt [⟨t1,i1,ifs1,0⟩,⟨t2,i2,ifs2,0⟩] scope pos) i2 (.ref s.heap.objs.size) (compEnvC scope (ma X.env.cells scope H2.objs.size) H2.objs.size X.env))
   hcalm rfl hT1 (hg1 _ _ _ _) (hp1 _ _ _ _) (λd ρ1 e=>xg (Y:=aE X N' scope H2.objs.size {s with heap:=H2} (bM H s.heap.objs.size (.lst [])) fp) hcalm rfl hT2 (λi s hi e'=>?_) (hi2 _ _ _ _) (hg2 _ _ _ _) (hp2 _ _ _ _) (he _ _ _ _) eU (sr.fresh0 hD) hD) nos IY sr0 eU na0 aK .nil (aW hD _) wv T st1 fpY io (by simpa using hz) hc (wZ (hset H2.objs.size {s with heap:=H2} (bM H s.heap.objs.size (.lst [])) fp)) ?_
  ·rw[hU1 _ _ _ e i hi] at e'
   exact nos i s (by omega) e'
  ·intro s' σ' H' xs I' _ sm' hx' rp' _ _
   have un1:Un (pS X.stack) fp H (bM H s.heap.objs.size (.lst [])) s.heap H2:=Un.laid (λb o e=>kp0 b o e) (Nat.le_refl _) hD
   exact hR s.heap.objs.size H2.objs.size s' H' xs (Nat.le_refl _) (by rw[hC];exact Nat.le_succ _) (by rw[hC];exact Nat.ne_of_lt (Nat.lt_succ_self _)) hD sm' hx' rp' (let⟨m,hm,_⟩:=I'.loc;⟨m,hm⟩) I'.free I'.os I'.bare I'.hok (un1.trans I'.base)
 exact codeAny_compStart_list (loop _ rfl) (T.self X.A 0 _ _ _ st1 (loop _ rfl))
theorem tN(hcalm:X.calm=true)(n1:Nat)(hT1:jA X.N.length g1)(hU1:DU n1 g1)(hT2:jA n1 g2)(hi:Es X c t1 i1 gi1)
 (hg1: ∀C s₀ H₀ ex,oP (aE X N' scope C s₀ H₀ ex) c t1 g1) (hp1: ∀C s₀ H₀ ex,rM (aE X N' scope C s₀ H₀ ex) c ifs1 p1) (hi2: ∀C s₀ H₀ ex,DIp (aE X N' scope C s₀ H₀ ex) c t2 i2 gi2)
 (hg2: ∀C s₀ H₀ ex,oP (aE X N' scope C s₀ H₀ ex) c t2 g2) (hp2: ∀C s₀ H₀ ex,rM (aE X N' scope C s₀ H₀ ex) c ifs2 p2) (he: ∀C s₀ H₀ ex,DP (aE X N' scope C s₀ H₀ ex) c .s elt f)
 (hk:scope.kind=.function:=by rfl) (hs:uc scope X.env.scope=true:=by kernel_rfl) (hn:ur X.N N' scope=true:=by kernel_rfl) (hm:N'.length-X.N.length=m:=by rfl) (hn1:X.N.length<=n1:=by exact Nat.le_of_ble_eq_true rfl) (hset: ∀x,foldedSetIterable i1 X.env x=pure x:=by intro _;rfl)
 (hset2: ∀C s₀ H₀ ex,∀x,foldedSetIterable i2 (aE X N' scope C s₀ H₀ ex).env x=pure x:=by intros;rfl):
 DP X c .n (.ListComp elt [⟨t1,i1,ifs1,0⟩,⟨t2,i2,ifs2,0⟩] scope pos) (pc m gi1 g1 p1 gi2 g2 p2 f):=by
 intro hid ρ ae s σ H Q I hq;obtain⟨sr,d,hd,q⟩:=hq
 obtain⟨ds,ys,e1,hc,hz,rfl⟩:=xR hd
 rw[eval_ListComp];refine wpAny_comprehension_free (use:=none) rfl hset (fh λx hx=>I.ok.has x (ig hs x hx)) hk (jZ hs) ?_
 refine bI (hi hid ρ ae s σ H (λJ H'=>Same H H'/\Cq X.K H' (vw H' hid) J ds) I ⟨sr,ds,e1,λJ H' s1 io=>⟨s1,io⟩⟩) λv s1 h1=>bI h1 λitv s2 h2=>?_
 obtain⟨it,fp,tn,J,H2,rfl,I2,T,st2,f2,sm,io⟩:=h2
 refine sZ (RR:=λacc C=>compPost (model X.prog X.w) X.A X.xe none (EP X ae σ Q) acc C) hcalm hk hs hn hm hT1 hU1 hn1 hT2 hset2 hg1 hp1 hi2 hg2 hp2 he I2 (sr.ext sm) T st2 f2 io hz hc ?_
 intro D C s' H' xs hDge hCge hDC hD sm' hx rp ⟨mm,hns⟩ hC' hos hbare hok hun;refine⟨mm,hns,λh' hsb=>⟨.ref D,H',?_,rfl,q _ H' (sm.trans sm') ⟨D,xs,ys,rfl,rfl,sm.free hD,hx,rp⟩⟩⟩
 have neC: ∀b o,s2.heap.get? b=some o->b≠C:=λb o e z=>by subst z;exact absurd (Heap.lt_size e) (Nat.not_lt.mpr hCge)
 have hun':Un (pS X.stack) fp H2 H' s2.heap h':=⟨λb o e n h1 h2=>(hsb.2 b (neC b o e)).trans (hun.keep b o e n h1 h2),λb o e n h1 h2=>let⟨sl,z⟩:=hun.slot b o e n h1 h2;⟨sl,(hsb.2 b (neC b o e)).trans z⟩,hun.free,λb o e h2=>let⟨o',z⟩:=hun.there b o e h2;⟨o',(hsb.2 b (neC b o e)).trans z⟩,hun.tups,hun.frzs,hun.tbls⟩
 have hok':HOk X.prog X.w H' h':=λb o e=>by
  have nb: ∀b' o',H' b'=some o'->b'≠C:=λb' o' e' z=>by subst z;rw[hC'] at e';cases e'
  refine(hok b o e).stay (λc' u hc' z=>(hsb.2 c' ?_).trans z) (λ_ z=>z) λ_ _ z=>z
  rcases hc' with z'|z'
  ·rw[z'];exact nb b o e
  ·exact nb c' _ z'
 exact I2.call' (s':={s' with heap:=h'}) (ch:=fp) hos hun' hok' hbare λb hb=>⟨(f2 b hb).2.2.2.1,(f2 b hb).2.1,(f2 b hb).2.2.2.2.1,(f2 b hb).2.2.2.2.2⟩
end
def iB(ds:List D)(lo hi:Option Int):List D:=(ds.drop (HT.sIx ds.length 0 lo)).take (HT.sIx ds.length ds.length hi-HT.sIx ds.length 0 lo)
theorem om {K:W.Frag}{F:Hp}{xs:List V}{ds:List D}(r:Reps K F xs ds)(lo hi:Option Int):Reps K F (sX xs lo hi) (iB ds lo hi):=by
 unfold sX iB;rw[r.length];exact(r.drop _).take _
abbrev FO:=aF->Option (Option Int)
def IG(K:W.Frag)(c:Ct)(hid:bK)(f:FO)(ρ:aF):TO:=λσ H Q=>SR K c hid ρ σ H/\ ∃o,f ρ=some o/\ ∀H',Same H H'->Q o H'
def DO(X:Cx)(c:Ct)(e:Option Expr)(f:FO):Prop:= ∀hid ρ,PO X e (IG X.K c hid f ρ)
theorem PO.imp {X:Cx}{e:Option Expr}{t t':TO}(h:PO X e t)(i: ∀σ H Q,t' σ H Q->t σ H Q):PO X e t':=λae s σ H Q I q=>h ae s σ H Q I (i σ H Q q)
section
variable {X:Cx}{c:Ct}{e a b:Expr}{f g:FE}{k:Kd}{pos p2:Pos}{lo hi:Option Expr}{l u:FO}
def jg:FO:=λ_=>some none
def gG(f:FE):FO:=λρ=>(f ρ).bind λd=>match d with
 | .int i=>some (some i)
 |_=>none
theorem dA:DO X c none jg:=λhid ρ=>PO.imp CM λσ H Q ⟨sr,o,e,q⟩=>by cases e;exact q H (Same.refl _)
theorem cn(h:DP X c k e f):DO X c (some e) (gG f):=λhid ρ=>PO.imp (Br (h hid ρ)) λσ H Q hq_=>by
 obtain⟨sr,o,e,q⟩:=hq_
 unfold gG at e;cases e1:f ρ with
 |none=>rw[e1] at e;cases e
 |some d=>
  rw[e1] at e;cases d with
  |int i=>
   cases e
   refine⟨sr,_,e1,λv H' s r=>⟨i,?_,q H' s⟩⟩
   exact(RK.b k r λa n=>sr.fresh n).int
  |_=>cases e
def fu(f:FE)(l u:FO):FE:=λρ=>(f ρ).bind λd=>match d with
 | .lst ds=>(l ρ).bind λlo=>(u ρ).map λhi=>.lst (iB ds lo hi)
 |_=>none
theorem gV(he:DP X c k e f)(hl:DO X c lo l)(hu:DO X c hi u):DP X c .n (.Subscript e (.Slice lo hi none p2) pos) (fu f l u):=λhid ρ=>
 PE.imp (nA vP (he hid ρ) (hl hid ρ) (hu hid ρ)) λσ H Q hq_=>by
  obtain⟨sr,d,hd,q⟩:=hq_
  unfold fu at hd;cases e1:f ρ with
  |none=>rw[e1] at hd;cases hd
  |some z=>
   rw[e1] at hd;cases z with
   |lst ds=>
    have hd:((l ρ).bind λlo=>(u ρ).map λhi=>D.lst (iB ds lo hi))=some d:=hd
    cases e2:l ρ with
    |none=>rw[e2] at hd;cases hd
    |some o1=>
     rw[e2] at hd;cases e3:u ρ with
     |none=>rw[e3] at hd;cases hd
     |some o2=>
      rw[e3] at hd;cases hd;refine⟨sr,_,e1,λv H1 s1 r1=>⟨sr.ext s1,o1,e2,λH2 s2=>⟨(sr.ext s1).ext s2,o2,e3,λH3 s3=>?_⟩⟩⟩
      obtain⟨a,xs,rfl,h1,h2⟩:=((RK.b k r1 λa n=>sr.fresh n).ext (s2.trans s3)).lst
      exact⟨a,xs,rfl,h1,λp hp=>q _ _ ((s1.trans (s2.trans s3)).trans (aW hp _)) (gx hp (s1.trans (s2.trans s3)) (om h2 o1 o2))⟩
   |_=>cases hd
def jo(ds:List D)(lo hi:Option Int):Bool:=decide (HT.sIx ds.length 0 lo=0)&&decide (HT.sIx ds.length ds.length hi=ds.length)
def mY(f:FE)(l u:FO):FE:=λρ=>(f ρ).bind λd=>match d with
 | .tup ds=>(l ρ).bind λlo=>(u ρ).bind λhi=>if jo ds lo hi=false then some (.tup (iB ds lo hi)) else none
 |_=>none
theorem AF(he:DP X c k e f)(hl:DO X c lo l)(hu:DO X c hi u):DP X c .s (.Subscript e (.Slice lo hi none p2) pos) (mY f l u):=λhid ρ=>
 PE.imp (nA EL (he hid ρ) (hl hid ρ) (hu hid ρ)) λσ H Q hq_=>by
  obtain⟨sr,d,hd,q⟩:=hq_
  unfold mY at hd;cases e1:f ρ with
  |none=>rw[e1] at hd;cases hd
  |some z=>
   rw[e1] at hd;cases z with
   |tup ds=>
    have hd:((l ρ).bind λlo=>(u ρ).bind λhi=>if jo ds lo hi=false then some (D.tup (iB ds lo hi)) else none)=some d:=hd
    cases e2:l ρ with
    |none=>rw[e2] at hd;cases hd
    |some o1=>
     rw[e2] at hd;cases e3:u ρ with
     |none=>rw[e3] at hd;cases hd
     |some o2=>
      rw[e3] at hd;have hd:(if jo ds o1 o2=false then some (D.tup (iB ds o1 o2)) else none)=some d:=hd
      split at hd
      ·rename_i hw
       cases hd
       refine⟨sr,_,e1,λv H1 s1 r1=>⟨sr.ext s1,o1,e2,λH2 s2=>⟨(sr.ext s1).ext s2,o2,e3,λH3 s3=>?_⟩⟩⟩
       obtain⟨a,xs,rfl,_,h1,h2⟩:=((RK.b k r1 λa n=>sr.fresh n).ext (s2.trans s3)).tup
       refine⟨a,xs,rfl,h1,λ⟨w1,w2⟩=>?_,λp hp=>q _ _ ((s1.trans (s2.trans s3)).trans (aW hp _)) (ly hp ((((sr.ext s1).ext s2).ext s3).fresh hp) (om h2 o1 o2))⟩
       rw[h2.length] at w1 w2;unfold jo at hw;rw[w1,w2] at hw;simp at hw
      ·cases hd
   |_=>cases hd
end
end L2
namespace PySem
open Sem (wp)
open AutoSeq1 (wpAny_loadPart')
end PySem
namespace L2
open PySem PySem.Spec PyProof.Rows
open PySem PySem.W PySem.Calls PyProof.Rows
def ES {α:Type}(d:α)(n:Nat):Option α:=if n<=sizeLine then some d else none
def Is {α:Type}(d:α)(n:Nat):Option α:=if n<sizeLine then some d else none
theorem eQ {α:Type}{d:α}{n:Nat}(h:n<=1000):ES d n=some d:=if_pos (Nat.le_of_lt (lP h))
theorem pI {α:Type}{d:α}{n:Nat}(h:n<=1000):Is d n=some d:=if_pos (lP h)
theorem CO(fs:FA)(ρ:aF):cw fs ρ=(fs ρ).bind λds=>ES (.tup ds) ds.length:=rfl
theorem lA(fs:FA)(ρ:aF):cg fs ρ=(fs ρ).bind λds=>ES (.lst ds) ds.length:=rfl
theorem yK(m:Nat)(gi:FA)(g:FG)(p:FT)(f:FE)(ρ:aF):cy m gi g p f ρ=(gi ρ).bind λds=>(ES () ds.length).bind λ_=>(dw g p f (ρ++List.replicate m .no) ds).map D.lst:=by
 unfold cy ES;congr 1;funext ds
 split<;>rfl
theorem wu(bs:List D)(d:D):gH bs [d]=Is (.non,bs++[d]) bs.length:=rfl
theorem BS(bs:List D)(i:Int):pd bs [.int i]=(ES () bs.length).bind λ_=>(ub bs.length i).bind λj=>(bs[j]?).map λd=>(d,bs.eraseIdx j):=by
 unfold pd ES;dsimp only;split
 ·rename_i j e
  split at e
  ·rw[if_pos ‹_›,e];rfl
  ·cases e
 ·rename_i e
  split at e
  ·rw[if_pos ‹_›,e];rfl
  ·rw[if_neg ‹_›];rfl
def GI(ds:List D):Option (List D):=match ds with
 | [.int j]=>if j.natAbs<4000000000 then some (o6 0 j.toNat) else none
 |_=>none
theorem ss(f:FA)(ρ:aF):cS f ρ=(f ρ).bind GI:=rfl
theorem sA {j:Int}(h:j.natAbs<=1000):GI [.int j]=some (o6 0 j.toNat):=by
 show(if j.natAbs<4000000000 then some (o6 0 j.toNat) else none)=_
 rw[if_pos (by omega)]
theorem jt(i j:Int):aO (.int i) (.int j)=some (.int (i+j)):=rfl
theorem jw(i j:Int):fz (.int i) (.int j)=some (.int (i-j)):=rfl
theorem lg(i j:Int):ya (.int i) (.int j)=some (.bl (decide (i<j))):=rfl
theorem BF(i j:Int):yd (.int i) (.int j)=some (.bl (decide (i<=j))):=rfl
theorem wJ(i j:Int):Cu (.int i) (.int j)=some (.bl (decide (j<i))):=rfl
theorem qO(i j:Int):ER (.int i) (.int j)=some (.bl (decide (j<=i))):=rfl
theorem de {i j:Int}(h:0<j):bo (.int i) (.int j)=some (.int (i % j)):=by
 unfold bo i2;dsimp only;rw[if_pos (by simpa using h)]
theorem uD {n:Nat}(h:n<10^200):n<2^1000:=Nat.lt_of_lt_of_le h (by decide)
theorem im {i j:Int}(h1:i.natAbs<10^200)(h2:j.natAbs<10^200):fq (.int i) (.int j)=some (.int (i*j)):=by
 unfold fq i2;dsimp only;rw[if_pos (by rw[decide_eq_true (uD h1),decide_eq_true (uD h2)];rfl)]
theorem p6 {i j:Int}(h1:0<j)(h2:j.natAbs<10^200):kO (.int i) (.int j)=some (.int (i / j)):=by
 unfold kO i2;dsimp only;rw[if_pos (by rw[decide_eq_true h1,decide_eq_true (uD h2)];rfl)]
theorem kH {i j:Int}(h0:0<=j)(h1:j<=1000000)(h2:i.natAbs<2^64):fb (.int i) (.int j)=some (.int (i^j.toNat)):=by
 unfold fb i2;dsimp only;rw[if_pos (by rw[decide_eq_true h0,decide_eq_true h1,decide_eq_true h2];rfl)]
theorem mH {x y:D}(h:fw x<=32):iE x y=some (.bl (eI x y)):=if_pos h
theorem kh {x y:D}(h:fw x<=32):lh x y=some (.bl (!eI x y)):=if_pos h
theorem jQ(i j:Int):eI (.int i) (.int j)=decide (i=j):=by
 unfold eI;rw[Bool.eq_iff_iff];simp
theorem gk(i:Int):fw (.int i)=0:=by unfold fw;rfl
structure Bag(N:Nat)(a b:Int):Prop where
 a0:0<=a
 a1:a.natAbs<10^180
 b0:0<=b
 b1:b<=N
 lo:b≠0->a.natAbs<2147483647
abbrev aG(a b:Int):List D:=[.int a,.int b]
def rC:FS:=
 aB (cP (aX (ak ya (ag 1) (ao cW (aa (ag 0) (ai))))) (ba (ak aP (ag 0) (ag 1))) (skip))
 (ba (aA (.int 0)))
def gP:List D->Option D:=gF .s 2 rC
def zx:FS:=
 aB (aT 2 (ak bo (ao tp (aa (ao (nF 2 gP) (aa (ag 0) (aa (ag 1) (ai)))) (ai))) (ak fq (ak fq (ak fb (aA (.int 10)) (aA (.int 60))) (ak fb (aA (.int 10)) (aA (.int 60)))) (ak fb (aA (.int 10)) (aA (.int 60))))))
 (aB (cP (aX (ak ER (ag 2) (ak fb (aA (.int 10)) (aA (.int 18))))) (ba (cg (aa (ag 2) (aa (aA (.int 0)) (ai))))) (skip))
 (aB (aT 3 (ak bo (ak aO (ak aO (ag 2) (ak fq (aA (.int 7919)) (ag 1))) (aA (.int 17))) (aA (.int 2147483647))))
 (aB (dI (bL (cS (aa (ao ka (aa (ao cW (aa (ag 0) (ai))) (aa (aA (.int 9)) (ai)))) (ai)))) (gN 4) (aT 3 (ak bo (ak aO (ak aO (ak fb (ag 3) (aA (.int 5))) (ak bo (ak aP (ag 0) (ag 4)) (aA (.int 2147483629)))) (ak fq (aA (.int 31)) (ag 4))) (aA (.int 2147483647)))))
 (ba (cg (aa (ag 3) (aa (aA (.int 1)) (ai))))))))
def zw:List D->Option D:=gF .n 5 zx
def qm:FS:=
 aB (cP (aX (ak iE (ak aP (cV 0) (aA (.int 1))) (aA (.int 0)))) (aB (aT 2 (ak bo (ak aP (cV 0) (aA (.int 0))) (ag 1)))
 (aB (cv (bW 0 (aA (.int 0))) (pu (ak kO (ak aP (cV 0) (aA (.int 0))) (ag 1))))
 (ba (ag 2)))) (skip))
 (aB (cv (bW 0 (aA (.int 0))) (pu (ak bo (ak aO (ak aO (ak fb (ak aP (cV 0) (aA (.int 0))) (aA (.int 5))) (ak fq (aA (.int 48271)) (ak aP (cV 0) (aA (.int 1))))) (aA (.int 11))) (aA (.int 2147483647)))))
 (aB (cv (bW 0 (aA (.int 1))) (pu (ak aO (ak aP (cV 0) (aA (.int 1))) (aA (.int 1)))))
 (ba (ak bo (ak kO (ak bo (ak fq (ak aP (cV 0) (aA (.int 0))) (aA (.int 69621))) (aA (.int 2147483629))) (aA (.int 8))) (ag 1)))))
def gO:List D->List D->Option (D×List D):=uY .s 3 qm
def sT:FS:=
 aB (ga 2 (ET (ag 1)))
 (aB (ga 3 (cg (ai)))
 (aB (yb (aX (ak lh (cV 2) (cg (ai)))) (ca (aN 3 1 gH (dc (aN 2 1 pd (dc (aN 0 1 gO (bL (aa (ao cW (aa (cV 2) (ai))) (ai)))) (bL (ai)))) (bL (ai))))) 16)
 (x8 3)))
def tz:List D->List D->Option (D×List D):=uY .n 4 sT
theorem dn {i m:Int}(h:0<m):0<=i % m/\i % m<m:=⟨Int.emod_nonneg _ (by omega),Int.emod_lt_of_pos _ h⟩
theorem kX {N:Nat}{a b m:Int}(B:Bag N a b)(hN:N<=1000000000)(hm:0<m)(hm2:m.natAbs<10^20): ∃d a' b',gO (aG a b) [.int m]=some (.int d,aG a' b')/\Bag (N+1) a' b'/\0<=d/\d<m:=by
 have hm3:m.natAbs<10^200:=Nat.lt_of_lt_of_le hm2 (by decide)
 by_cases hb:b=0
 ·subst hb
  refine⟨a % m,a / m,0,?_,⟨Int.ediv_nonneg B.a0 (by omega),?_,by omega,by omega,λz=>absurd rfl z⟩,dn hm⟩
  ·simp[gO,uY,qm,nT,aG,aB,cP,aX,ak,aP,cV,ag,aA,mH,jQ,gk,xF,rL,ub,aT,de hm,cv,pu,p6 hm hm3,bW,iM,g7,E1,ba,n9]
  ·have h1:=B.a1
   have:a / m<=a:=Int.ediv_le_self _ B.a0
   have:0<=a / m:=Int.ediv_nonneg B.a0 (by omega)
   omega
 ·have lo:=B.lo hb
  have p1:a.natAbs<2^64:=Nat.lt_trans lo (by decide)
  have p2:b.natAbs<10^200:=Nat.lt_of_lt_of_le (show b.natAbs<10^10 by have:=B.b1;have:=B.b0;omega) (by decide)
  generalize hA:(a^5+48271*b+11) % 2147483647=A
  have hA':0<=A/\A<2147483647:=by rw[<-hA];exact dn (by decide)
  have p3:A.natAbs<10^200:=Nat.lt_of_lt_of_le (show A.natAbs<10^10 by omega) (by decide)
  refine⟨A*69621 % 2147483629 / 8 % m,A,b+1,?_,⟨hA'.1,?_,by have:=B.b0;omega,by have:=B.b1;omega,λ_=>by omega⟩,dn hm⟩
  ·have c1:(48271:Int).natAbs<10^200:=Nat.lt_of_lt_of_le (show(48271:Int).natAbs<10^10 by decide) (by decide)
   have c2:(69621:Int).natAbs<10^200:=Nat.lt_of_lt_of_le (show(69621:Int).natAbs<10^10 by decide) (by decide)
   have c3:(8:Int).natAbs<10^200:=Nat.lt_of_lt_of_le (show(8:Int).natAbs<10^10 by decide) (by decide)
   have e1:fb (.int a) (.int 5)=some (.int (a^5)):=kH (by decide) (by decide) p1
   have e2:fq (.int 48271) (.int b)=some (.int (48271*b)):=im c1 p2
   have e3: ∀i:Int,bo (.int i) (.int 2147483647)=some (.int (i % 2147483647)):=λi=>de (by decide)
   have e4: ∀i:Int,bo (.int i) (.int 2147483629)=some (.int (i % 2147483629)):=λi=>de (by decide)
   have e5:fq (.int A) (.int 69621)=some (.int (A*69621)):=im p3 c2
   have e6: ∀i:Int,kO (.int i) (.int 8)=some (.int (i / 8)):=λi=>p6 (by decide) c3
   simp[gO,uY,qm,nT,aG,aB,cP,aX,ak,aP,cV,ag,aA,mH,jQ,gk,xF,rL,ub,hb,skip,e1,e2,e3,e4,jt,cv,pu,bW,iM,g7,E1,ba,n9,hA,e5,e6,de hm]
  ·exact Nat.lt_of_lt_of_le (show A.natAbs<10^10 by omega) (by decide)
theorem ay {t u:FS}{ρ ρ':aF}(h:t ρ=.nx ρ'):aB t u ρ=u ρ':=by unfold aB;rw[h]
theorem gX {t u:FS}{ρ ρ':aF}{d:D}(h:t ρ=.rt d ρ'):aB t u ρ=.rt d ρ':=by unfold aB;rw[h]
abbrev nI(i:Nat):D:=.int (i:Int)
abbrev lu(ns:List Int):D:=.scr (ns.map D.int)
theorem AS(n:Nat):o6 0 n=(List.range n).map nI:=by
 unfold o6;simp
theorem jH {n j:Nat}(h:j<n):ub n (j:Int)=some j:=by
 unfold ub;rw[if_pos (by omega),if_pos (by omega)];simp
theorem Bm(ns:List Int)(k:Nat): ∃c,gP [lu ns,nI k]=some (.int c):=by
 by_cases h:k<ns.length
 ·refine⟨ns[k],?_⟩
  simp[gP,gF,rC,ij,aB,cP,aX,ak,ag,ao,aa,ai,cW,lg,xF,h,ba,aP,rL,jH (show k<(ns.map D.int).length by simpa using h)]
  simp[jH h,h]
 ·refine⟨0,?_⟩
  simp[gP,gF,rC,ij,aB,cP,aX,ak,ag,ao,aa,ai,cW,lg,xF,h,ba,skip,aA]
theorem sn(ns:List Int)(k:D)(c:D): ∀(l:List Nat),(∀i∈l,i<ns.length/\i<1000)-> ∀(x:Int) (s4:Sl),0<=x->x<2147483647-> ∃(x':Int) (s4':Sl),0<=x'/\x'<2147483647/\
 cD (gN 4) (aT 3 (ak bo (ak aO (ak aO (ak fb (ag 3) (aA (.int 5))) (ak bo (ak aP (ag 0) (ag 4)) (aA (.int 2147483629)))) (ak fq (aA (.int 31)) (ag 4))) (aA (.int 2147483647)))) (l.map nI) [.v (lu ns),.v k,.v c,.v (.int x),s4]=.nx [.v (lu ns),.v k,.v c,.v (.int x'),s4']
 | [],_,x,s4,h1,h2=>⟨x,s4,h1,h2,rfl⟩
 |i::l,hl,x,s4,h1,h2=>by
  obtain⟨hi,hi2⟩:=hl i (by simp)
  have e1:fb (.int x) (.int 5)=some (.int (x^5)):=kH (by decide) (by decide) (Nat.lt_of_lt_of_le (show x.natAbs<10^10 by omega) (by decide))
  have e2:fq (.int 31) (nI i)=some (.int (31*i)):=im (Nat.lt_of_lt_of_le (show(31:Int).natAbs<10^10 by decide) (by decide)) (Nat.lt_of_lt_of_le (show(i:Int).natAbs<10^10 by omega) (by decide))
  have e3: ∀i:Int,bo (.int i) (.int 2147483647)=some (.int (i % 2147483647)):=λi=>de (by decide)
  have e4: ∀i:Int,bo (.int i) (.int 2147483629)=some (.int (i % 2147483629)):=λi=>de (by decide)
  obtain⟨y1,y2⟩:=dn (i:=x^5+ns[i] % 2147483629+31*i) (m:=2147483647) (by decide)
  obtain⟨x',s4',g1,g2,g3⟩:=sn ns k c l (λj hj=>hl j (by simp[hj])) _ (.v (nI i)) y1 y2
  refine⟨x',s4',g1,g2,?_⟩
  rw[<-g3];simp[cD,gN,aT,ak,ag,aA,e1,e2,e3,e4,aP,rL,jH (show i<(ns.map D.int).length by simpa using hi),jH hi,hi,jt]
theorem EO(ns:List Int)(k:Nat)(hk:k<=1000)(hn:ns.length<=63): ∃a b,zw [lu ns,nI k]=some (.lst (aG a b))/\Bag 1 a b:=by
 obtain⟨c,hc⟩:=Bm ns k
 have p1:fb (.int 10) (.int 60)=some (.int (10^60)):=kH (by decide) (by decide) (by decide)
 have p2:fb (.int 10) (.int 18)=some (.int (10^18)):=kH (by decide) (by decide) (by decide)
 have q60:((10:Int)^60).natAbs<10^200:=by decide
 have q120:((10:Int)^60*10^60).natAbs<10^200:=by decide
 have m1:fq (.int (10^60)) (.int (10^60))=some (.int (10^60*10^60)):=im q60 q60
 have m2:fq (.int (10^60*10^60)) (.int (10^60))=some (.int (10^60*10^60*10^60)):=im q120 q60
 have m3:fq (.int 7919) (nI k)=some (.int (7919*k)):=im (Nat.lt_of_lt_of_le (show(7919:Int).natAbs<10^10 by decide) (by decide)) (Nat.lt_of_lt_of_le (show(k:Int).natAbs<10^10 by omega) (by decide))
 generalize hA:(if c<0 then -c else c) % (10^60*10^60*10^60)=A
 have hA':0<=A/\A<10^60*10^60*10^60:=by rw[<-hA];exact dn (by decide)
 have s1:aT 2 (ak bo (ao tp (aa (ao (nF 2 gP) (aa (ag 0) (aa (ag 1) (ai)))) (ai))) (ak fq (ak fq (ak fb (aA (.int 10)) (aA (.int 60))) (ak fb (aA (.int 10)) (aA (.int 60)))) (ak fb (aA (.int 10)) (aA (.int 60))))) [.v (lu ns),.v (nI k),.no,.no,.no]=.nx [.v (lu ns),.v (nI k),.v (.int A),.no,.no]:=by
  have m4: ∀i:Int,bo (.int i) (.int (10^60*10^60*10^60))=some (.int (i % (10^60*10^60*10^60))):=λi=>de (by decide)
  unfold aT;have:ak bo (ao tp (aa (ao (nF 2 gP) (aa (ag 0) (aa (ag 1) (ai)))) (ai))) (ak fq (ak fq (ak fb (aA (.int 10)) (aA (.int 60))) (ak fb (aA (.int 10)) (aA (.int 60)))) (ak fb (aA (.int 10)) (aA (.int 60)))) [.v (lu ns),.v (nI k),.no,.no,.no]=some (.int A):=by
   have ec:ao (nF 2 gP) (aa (ag 0) (aa (ag 1) ai)) [.v (lu ns),.v (nI k),.no,.no,.no]=some (.int c):=hc
   simp only[ak,ao,aa,ai,aA,Option.bind_some,p1,m1,m2,tp];have ec':((ag 0 [.v (lu ns),.v (nI k),.no,.no,.no]).bind λd=>((ag 1 [.v (lu ns),.v (nI k),.no,.no,.no]).bind λd=>(some []).map λr=>d::r).map λr=>d::r).bind (nF 2 gP)=some (.int c):=hc
   rw[ec'];simp only[Option.bind_some,Option.map_some,m4,tp,hA]
  rw[this];rfl
 have r0:ij 5 [lu ns,nI k]=[.v (lu ns),.v (nI k),.no,.no,.no]:=rfl
 unfold zw gF zx;rw[r0,ay s1];have hA180:A.natAbs<10^180:=by
  have:(10:Int)^60*10^60*10^60=((10^180:Nat):Int):=by decide
  rw[this] at hA';omega
 by_cases hb:(10:Int)^18<=A
 ·refine⟨A,0,?_,⟨hA'.1,hA180,by decide,by decide,λz=>absurd rfl z⟩⟩
  simp only[aB,cP,aX,ak,ag,List.getElem?_cons_succ,List.getElem?_cons_zero,Option.bind_some,aA,p2,qO,xF,decide_eq_true hb,ba,lA,aa,ai,Option.map_some];rw[eQ (by simp)]
 ·generalize hx:(A+7919*(k:Int)+17) % 2147483647=x
  have hx':0<=x/\x<2147483647:=by rw[<-hx];exact dn (by decide)
  have m4:bo (.int (A+7919*(k:Int)+17)) (.int 2147483647)=some (.int x):=by rw[de (by decide),hx]
  have hr:cS (aa (ao ka (aa (ao cW (aa (ag 0) (ai))) (aa (aA (.int 9)) (ai)))) (ai)) [.v (lu ns),.v (nI k),.v (.int A),.v (.int x),.no]=some ((List.range (min ns.length 9)).map nI):=by
   rw[ss];simp only[ao,aa,ai,ag,aA,List.getElem?_cons_zero,Option.bind_some,Option.map_some,cW,ka,List.length_map];have:(if(9:Int)<(ns.length:Int) then(9:Int) else(ns.length:Int))=((min ns.length 9:Nat):Int):=by split<;>omega
   rw[this,sA (by omega),AS,Int.toNat_natCast]
  obtain⟨x',s4',g1,g2,g3⟩:=sn ns (nI k) (.int A) (List.range (min ns.length 9)) (λi hi=>by have:=List.mem_range.mp hi;omega) x .no hx'.1 hx'.2
  refine⟨x',1,?_,⟨g1,Nat.lt_of_lt_of_le (show x'.natAbs<10^10 by omega) (by decide),by decide,by decide,λ_=>by omega⟩⟩
  have f1:dI (bL (cS (aa (ao ka (aa (ao cW (aa (ag 0) (ai))) (aa (aA (.int 9)) (ai)))) (ai)))) (gN 4) (aT 3 (ak bo (ak aO (ak aO (ak fb (ag 3) (aA (.int 5))) (ak bo (ak aP (ag 0) (ag 4)) (aA (.int 2147483629)))) (ak fq (aA (.int 31)) (ag 4))) (aA (.int 2147483647)))) [.v (lu ns),.v (nI k),.v (.int A),.v (.int x),.no]=.nx [.v (lu ns),.v (nI k),.v (.int A),.v (.int x'),s4']:=by
   unfold dI bL;rw[hr];exact g3
  have i1:cP (aX (ak ER (ag 2) (ak fb (aA (.int 10)) (aA (.int 18))))) (ba (cg (aa (ag 2) (aa (aA (.int 0)) (ai))))) (skip) [.v (lu ns),.v (nI k),.v (.int A),.no,.no]=.nx [.v (lu ns),.v (nI k),.v (.int A),.no,.no]:=by
   simp only[cP,aX,ak,ag,List.getElem?_cons_succ,List.getElem?_cons_zero,Option.bind_some,aA,p2,qO,xF,decide_eq_false hb,skip]
  have i2:aT 3 (ak bo (ak aO (ak aO (ag 2) (ak fq (aA (.int 7919)) (ag 1))) (aA (.int 17))) (aA (.int 2147483647))) [.v (lu ns),.v (nI k),.v (.int A),.no,.no]=.nx [.v (lu ns),.v (nI k),.v (.int A),.v (.int x),.no]:=by
   simp only[aT,ak,ag,List.getElem?_cons_succ,List.getElem?_cons_zero,Option.bind_some,aA,m3,jt,m4,List.set_cons_succ,List.set_cons_zero]
  rw[ay i1,ay i2,ay f1];simp only[ba,lA,aa,ai,ag,aA,List.getElem?_cons_succ,List.getElem?_cons_zero,Option.bind_some,Option.map_some];rw[eQ (by simp)]
theorem cM {i n:Nat}{M:List D->List D->Option (D×List D)}{fs:GA}{ρ ρ1:aF}{b0 bs ds bs':List D}{d:D}(h0:iM i ρ=some b0)(h1:fs ρ=some (ds,ρ1))(h2:iM i ρ1=some bs)(h3:ds.length=n)(h4:M bs ds=some (d,bs')):aN i n M fs ρ=some (d,g7 i bs' ρ1):=by
 unfold aN;rw[h0];dsimp only;rw[h1];dsimp only;rw[h2];dsimp only;rw[if_pos h3,h4]
theorem fQ {f:GE}{fs:GA}{ρ ρ1 ρ2:aF}{d:D}{ds:List D}(h1:f ρ=some (d,ρ1))(h2:fs ρ1=some (ds,ρ2)):dc f fs ρ=some (d::ds,ρ2):=by
 unfold dc bE;rw[h1];dsimp only[Option.bind];rw[h2];rfl
theorem br {f:FA}{ρ:aF}{ds:List D}(h:f ρ=some ds):bL f ρ=some (ds,ρ):=by unfold bL;rw[h];rfl
theorem ge {f:FE}{ρ:aF}{d:D}(h:f ρ=some d):pu f ρ=some (d,ρ):=by unfold pu;rw[h];rfl
theorem pM {α β:Type}(f:α->β): ∀(l:List α) (j:Nat),(l.map f).eraseIdx j=(l.eraseIdx j).map f
 | [],_=>rfl
 |_::_,0=>rfl
 |x::l,j+1=>by simp[pM f l j]
theorem oh {α:Type}: ∀(l:List α) (j:Nat) (h:j<l.length),(l[j]::l.eraseIdx j).Perm l
 |_::_,0,_=>.refl _
 |x::l,j+1,h=>by
  have ih:=oh l j (by simpa using h)
  exact(List.Perm.swap _ _ _).trans (ih.cons x)
theorem lH: ∀r:List Nat,dO (r.map nI)=0
 | []=>by simp[dO]
 |a::r=>by
  rw[List.map_cons];unfold dO;rw[lH r];simp[fw]
theorem tj(r:List Nat):fw (.lst (r.map nI))<=32:=by unfold fw;rw[lH];omega
abbrev Im:FS->Nat->FS:=λb n=>yb (aX (ak lh (cV 2) (cg (ai)))) b n
abbrev pU:FS:=ca (aN 3 1 gH (dc (aN 2 1 pd (dc (aN 0 1 gO (bL (aa (ao cW (aa (cV 2) (ai))) (ai)))) (bL (ai)))) (bL (ai))))
theorem FB(n:D)(bg:List D)(left found:List Nat):aX (ak lh (cV 2) (cg (ai))) [.arg bg,.v n,.own (left.map nI),.own (found.map nI)]=some (!left.isEmpty):=by
 have h0:cg ai [.arg bg,.v n,.own (left.map nI),.own (found.map nI)]=some (.lst []):=by
  rw[lA];simp only[ai,Option.bind_some];exact eQ (by simp)
 unfold aX ak;rw[h0];simp only[cV,List.getElem?_cons_succ,List.getElem?_cons_zero,Option.bind_some];rw[kh (tj left)];cases left with
 |nil=>simp[xF,eI,cY]
 |cons x r=>simp[xF,eI,cY]
theorem yA(n:D){N:Nat}{a b:Int}(B:Bag N a b)(hN:N<=1000000000)(left found:List Nat)(h0:0<left.length)(h1:left.length<=100)(h2:found.length<=100):
 ∃(j:Nat) (hj:j<left.length) (a' b':Int),pU [.arg (aG a b),.v n,.own (left.map nI),.own (found.map nI)]=.nx [.arg (aG a' b'),.v n,.own ((left.eraseIdx j).map nI),.own ((found++[left[j]]).map nI)]/\Bag (N+1) a' b':=by
 obtain⟨d,a',b',e,B',d0,d1⟩:=kX (m:=left.length) B hN (by omega) (Nat.lt_of_lt_of_le (show(left.length:Int).natAbs<10^10 by omega) (by decide))
 obtain⟨j,rfl⟩: ∃j:Nat,d=(j:Int):=⟨d.toNat,by omega⟩
 have hj:j<left.length:=by omega
 refine⟨j,hj,a',b',?_,B'⟩
 have e2:pd (left.map nI) [.int (j:Int)]=some (nI left[j],(left.eraseIdx j).map nI):=by
  rw[BS,eQ (by simp;omega)]
  simp only[Option.bind_some];rw[jH (by simpa using hj)]
  simp[hj,pM]
 have e3:gH (found.map nI) [nI left[j]]=some (.non,(found++[left[j]]).map nI):=by
  rw[wu,pI (by simp;omega)];simp
 have g:aN 0 1 gO (bL (aa (ao cW (aa (cV 2) (ai))) (ai))) [.arg (aG a b),.v n,.own (left.map nI),.own (found.map nI)]=some (nI j,[.arg (aG a' b'),.v n,.own (left.map nI),.own (found.map nI)]):=by
  simp[aN,iM,bL,aa,ao,cV,ai,cW,e,g7]
 have g2:aN 2 1 pd (dc (aN 0 1 gO (bL (aa (ao cW (aa (cV 2) (ai))) (ai)))) (bL (ai))) [.arg (aG a b),.v n,.own (left.map nI),.own (found.map nI)]=some (nI left[j],[.arg (aG a' b'),.v n,.own ((left.eraseIdx j).map nI),.own (found.map nI)]):=by
  refine(cM (i:=2) (n:=1) (b0:=left.map nI) (ds:=[nI j]) (ρ1:=[.arg (aG a' b'),.v n,.own (left.map nI),.own (found.map nI)]) rfl (fQ g rfl) rfl rfl e2).trans rfl
 have g3:aN 3 1 gH (dc (aN 2 1 pd (dc (aN 0 1 gO (bL (aa (ao cW (aa (cV 2) (ai))) (ai)))) (bL (ai)))) (bL (ai))) [.arg (aG a b),.v n,.own (left.map nI),.own (found.map nI)]=some (.non,[.arg (aG a' b'),.v n,.own ((left.eraseIdx j).map nI),.own ((found++[left[j]]).map nI)]):=by
  refine(cM (i:=3) (n:=1) (b0:=found.map nI) (ds:=[nI left[j]]) (ρ1:=[.arg (aG a' b'),.v n,.own ((left.eraseIdx j).map nI),.own (found.map nI)]) rfl (fQ g2 rfl) rfl rfl e3).trans rfl
 unfold pU ca;rw[g3]
theorem C8(n:D): ∀(f:Nat) (left found:List Nat) (N:Nat) (a b:Int),left.length<f->left.length<=50->found.length+left.length<=100->Bag N a b->N+left.length<=1000000000->
 ∃(o:List Nat) (a' b':Int),Im pU f [.arg (aG a b),.v n,.own (left.map nI),.own (found.map nI)]=.nx [.arg (aG a' b'),.v n,.own [],.own ((found++o).map nI)]/\o.Perm left/\Bag (N+left.length) a' b'
 |0,left,found,N,a,b,h,_,_,_,_=>absurd h (Nat.not_lt_zero _)
 |f+1,left,found,N,a,b,h,h1,h2,B,hN=>by
  unfold Im yb;rw[FB];cases e:left.isEmpty with
  |true=>
   have:left=[]:=by simpa using e
   subst this;exact⟨[],a,b,by simp,.refl _,by simpa using B⟩
  |false=>
   have h0:0<left.length:=by cases left with
    |nil=>cases e
    |cons x r=>simp
   obtain⟨j,hj,a1,b1,e1,B1⟩:=yA n B (by omega) left found h0 (by omega) (by omega)
   have hl:(left.eraseIdx j).length=left.length-1:=by rw[List.length_eraseIdx];simp[hj]
   obtain⟨o,a2,b2,e2,p,B2⟩:=C8 n f (left.eraseIdx j) (found++[left[j]]) (N+1) a1 b1 (by omega) (by omega) (by simp;omega) B1 (by omega)
   refine⟨left[j]::o,a2,b2,?_,?_,?_⟩
   ·simp only[Bool.not_false]
    rw[e1];dsimp only;have:yb (aX (ak lh (cV 2) (cg ai))) pU f=Im pU f:=rfl
    rw[this,e2];simp
   ·exact(p.cons _).trans (oh left j hj)
   ·rw[show N+left.length=N+1+(left.eraseIdx j).length by omega];exact B2
structure Ord(n:Nat)(r:List Nat):Prop where
 perm:r.Perm (List.range n)
theorem Ord.len {n:Nat}{r:List Nat}(o:Ord n r):r.length=n:=by rw[o.perm.length_eq];simp
theorem Ord.lt {n:Nat}{r:List Nat}(o:Ord n r){v:Nat}(h:v∈r):v<n:=by simpa using o.perm.mem_iff.mp h
theorem Ord.nd {n:Nat}{r:List Nat}(o:Ord n r):r.Nodup:=o.perm.nodup_iff.mpr List.nodup_range
theorem Ft {n:Nat}(h:n<=1000)(f:FE)(ρ:aF)(e:f ρ=some (nI n)):ET f ρ=some (.lst ((List.range n).map nI)):=by
 unfold ET CN;rw[e];simp only[Option.bind_some];rw[if_pos (by omega),AS];rfl
theorem nW {N:Nat}{a b:Int}(B:Bag N a b){n:Nat}(hn:n<=12)(hN:N<=900000000): ∃(o:List Nat) (a' b':Int),tz (aG a b) [nI n]=some (.lst (o.map nI),aG a' b')/\Ord n o/\Bag (N+n) a' b':=by
 obtain⟨o,a',b',e,p,B'⟩:=C8 (nI n) 16 (List.range n) [] N a b (by simp;omega) (by simp;omega) (by simp;omega) B (by simp;omega)
 refine⟨o,a',b',?_,⟨p⟩,by simpa using B'⟩
 have r0:nT 4 (aG a b) [nI n]=[.arg (aG a b),.v (nI n),.no,.no]:=rfl
 have s1:ga 2 (ET (ag 1)) [.arg (aG a b),.v (nI n),.no,.no]=.nx [.arg (aG a b),.v (nI n),.own ((List.range n).map nI),.no]:=by
  unfold ga;rw[Ft (n:=n) (by omega) (ag 1) _ rfl]
  rfl
 have s2:ga 3 (cg (ai)) [.arg (aG a b),.v (nI n),.own ((List.range n).map nI),.no]=.nx [.arg (aG a b),.v (nI n),.own ((List.range n).map nI),.own []]:=by
  unfold ga;rw[lA];simp only[ai,Option.bind_some];rw[eQ (by simp)]
  rfl
 unfold tz uY sT;rw[r0,ay s1,ay s2];have e':yb (aX (ak lh (cV 2) (cg (ai)))) pU 16 [.arg (aG a b),.v (nI n),.own ((List.range n).map nI),.own []]=.nx [.arg (aG a' b'),.v (nI n),.own [],.own (o.map nI)]:=e
 rw[ay e'];simp[x8,yp,n9]
theorem au {F:D->D->Option D}{f g:FE}{ρ:aF}{x y:D}(h1:f ρ=some x)(h2:g ρ=some y):ak F f g ρ=F x y:=by unfold ak;rw[h1,Option.bind_some,h2,Option.bind_some]
theorem BK {F:D->D->Option D}{f g:GE}{ρ ρ1 ρ2:aF}{x y d:D}(h1:f ρ=some (x,ρ1))(h2:g ρ1=some (y,ρ2))(h3:F x y=some d):ud F f g ρ=some (d,ρ2):=by
 unfold ud bE;rw[h1];dsimp only[Option.bind];rw[h2];dsimp only[Option.bind];rw[h3];rfl
theorem bc {i:Nat}{f:FE}{ρ:aF}{d:D}(h:f ρ=some d):aT i f ρ=.nx (ρ.set i (.v d)):=by unfold aT;rw[h]
theorem jW {i:Nat}{f:GE}{ρ ρ1:aF}{d:D}(h:f ρ=some (d,ρ1)):je i f ρ=.nx (ρ1.set i (.v d)):=by unfold je;rw[h]
theorem Bh {i:Nat}{f:GE}{ρ ρ1:aF}{ds:List D}(h:f ρ=some (.lst ds,ρ1)):zo i f ρ=.nx (ρ1.set i (.own ds)):=by unfold zo;rw[h];rfl
theorem iN {i:Nat}{f:FE}{ρ:aF}{ds:List D}(h:f ρ=some (.lst ds)):ga i f ρ=.nx (ρ.set i (.own ds)):=by unfold ga;rw[h];rfl
theorem cG {f:FA}{ρ:aF}{ds:List D}(h:f ρ=some ds)(h2:ds.length<=1000):cw f ρ=some (.tup ds):=by
 rw[CO,h,Option.bind_some,eQ h2]
theorem dJ {f:FA}{ρ:aF}{ds:List D}(h:f ρ=some ds)(h2:ds.length<=1000):cg f ρ=some (.lst ds):=by
 rw[lA,h,Option.bind_some,eQ h2]
theorem av {f:FE}{fs:FA}{ρ:aF}{d:D}{ds:List D}(h1:f ρ=some d)(h2:fs ρ=some ds):aa f fs ρ=some (d::ds):=by unfold aa;rw[h1,h2];rfl
theorem bS {F:List D->Option D}{f:FA}{ρ:aF}{ds:List D}(h:f ρ=some ds):ao F f ρ=F ds:=by unfold ao;rw[h];rfl
theorem Dm {r:List Nat}{c:Nat}(h:c<r.length):rL (r.map nI) (c:Int)=some (nI (r.getD c 0)):=qU (by rw[List.getElem?_map,List.getElem?_eq_getElem h];simp[List.getD,h])
theorem Ar {r:List Nat}{c:Nat}(h:c<r.length):aP (.lst (r.map nI)) (nI c)=some (nI (r.getD c 0)):=Dm h
theorem cK {r:List Nat}{c:Nat}(h:c<r.length):aP (.tup (r.map nI)) (nI c)=some (nI (r.getD c 0)):=Dm h
theorem jk(a b:Nat):eI (nI a) (nI b)=decide (a=b):=by
 rw[jQ];rw[Bool.eq_iff_iff];simp;omega
theorem Ai(a b:Nat):aO (nI a) (nI b)=some (nI (a+b)):=by rw[jt];simp
theorem mV(a:Nat):aO (nI a) (.int 1)=some (nI (a+1)):=by rw[jt];simp
theorem AG {a n:Nat}(h:0<n):bo (nI a) (nI n)=some (nI (a % n)):=by rw[de (by omega)];rfl
theorem iz {i:Nat}{fi:FE}{d:D}{ρ:aF}{bs:List D}{j:Nat}(h1:iM i ρ=some bs)(h2:fi ρ=some (nI j))(h3:j<bs.length):bW i fi d ρ=some (g7 i (bs.set j d) ρ):=by
 unfold bW;rw[h1];dsimp only;rw[h2];dsimp only;rw[jH h3]
theorem kQ(x:List Nat)(j v:Nat):(x.map nI).set j (nI v)=(x.set j v).map nI:=by rw[List.map_set]
theorem D3 {x:List Nat}(h:x.Nodup){i j:Nat}(hi:i<x.length)(hj:j<x.length)(e:x.getD i 0=x.getD j 0):i=j:=by
 have:x[i]=x[j]:=by simpa [List.getD,hi,hj] using e
 exact(List.getElem_inj h).mp this
theorem mi {α:Type}{g:FG}{f:FE}{ρ0:aF}{h o:α->D}: ∀(l:List α),(∀i∈l,∃ρ1,g (h i) ρ0=some ρ1/\f ρ1=some (o i))->dw g ft f ρ0 (l.map h)=some (l.map o)
 | [],_=>rfl
 |a::l,H=>by
  obtain⟨ρ1,h1,h2⟩:=H a (by simp)
  have ih:=mi l λi hi=>H i (by simp[hi])
  rw[List.map_cons];unfold dw;rw[h1,Option.bind_some];simp only[ft,Option.bind_some,if_true,h2,ih];rfl
theorem gv {m:Nat}{gi:FA}{g:FG}{p:FT}{f:FE}{ρ:aF}{ds ys:List D}(h1:gi ρ=some ds)(h2:ds.length<=1000)(h3:dw g p f (ρ++List.replicate m .no) ds=some ys):cy m gi g p f ρ=some (.lst ys):=by
 rw[yK,h1,Option.bind_some,eQ h2,Option.bind_some,h3];rfl
abbrev ax(r:List Nat):D:=.tup (r.map nI)
abbrev fM(r x:List Nat):D:=.tup [ax r,ax x]
theorem fS {f:FA}{ρ:aF}{n:Nat}(h:f ρ=some [nI n])(hn:n<=1000):cS f ρ=some ((List.range n).map nI):=by
 rw[ss,h,Option.bind_some,sA (by omega),AS];rfl
theorem IR {j:Int}(h:0<=j):D.int j=nI j.toNat:=by show D.int j=D.int (j.toNat:Int);rw[Int.toNat_of_nonneg h]
theorem Dn {n:Nat}{P:List D->Option D}{ds:List D}(h:ds.length=n):nF n P ds=P ds:=if_pos h
theorem fX {g:FG}{f:GE}{ρ ρ1 ρ2:aF}{d:D}(h1:f ρ=some (d,ρ1))(h2:g d ρ1=some ρ2):cv g f ρ=.nx ρ2:=by unfold cv;rw[h1];dsimp only;rw[h2];rfl
theorem bT {n:Nat}{P:List D->Option D}{fs:FA}{ρ:aF}{ds:List D}(h:fs ρ=some ds)(hl:ds.length=n):ao (nF n P) fs ρ=P ds:=(bS h).trans (Dn hl)
theorem nE {F:List D->Option D}{fs:GA}{ρ ρ1:aF}{ds:List D}{d:D}(h:fs ρ=some (ds,ρ1))(h2:F ds=some d):gt F fs ρ=some (d,ρ1):=by unfold gt;rw[h];dsimp only[Option.bind];rw[h2];rfl
theorem DZ {n:Nat}{P:List D->Option D}{fs:GA}{ρ ρ1:aF}{ds:List D}{d:D}(h:fs ρ=some (ds,ρ1))(hl:ds.length=n)(h2:P ds=some d):gt (nF n P) fs ρ=some (d,ρ1):=nE h ((Dn hl).trans h2)
theorem bZ {kd:Kd}{n:Nat}{t:FS}{ds:List D}{ρ:aF}{d:D}(h:t (ij n ds)=.rt d ρ):gF kd n t ds=some d:=by unfold gF;rw[h]
theorem bF {f:FE}{ρ:aF}{d:D}(h:f ρ=some d):ba f ρ=.rt d ρ:=by unfold ba;rw[h]
theorem C7 {ks:List (List Int)}(h:ks.length<64)(hk: ∀k∈ks,k≠[]):eA [.lst (ks.map cX)]=some (.lst ((bP cm ks).map cX)):=by
 show(gU (ks.map cX)).map D.lst=_;unfold gU;rw[if_pos (by simpa using h)]
 cases ks with
 |nil=>rfl
 |cons k ks=>
  rw[xN];dsimp only;rw[r9 hk];rfl
theorem qM: ∀bs:List Bool,iA (bs.map D.bl)=some bs
 | []=>rfl
 |b::r=>by show(iA (r.map D.bl)).map (b:: ·)=_;rw[qM r];rfl
theorem vD(bs:List Bool):xl [.lst (bs.map D.bl)]=some (.bl (bs.any id)):=by
 show(iA (bs.map D.bl)).map (λbs=>D.bl (bs.any id))=_
 rw[qM];rfl
theorem Cp(bs:List Bool):AY [.lst (bs.map D.bl)]=some (.bl (bs.all id)):=by
 show(iA (bs.map D.bl)).map (λbs=>D.bl (bs.all id))=_
 rw[qM];rfl
theorem j3 {p:FT}{t u:FS}{ρ:aF}(h:p ρ=some false):cP p t u ρ=u ρ:=by unfold cP;rw[h]
theorem dN {p:FT}{t u:FS}{ρ:aF}(h:p ρ=some true):cP p t u ρ=t ρ:=by unfold cP;rw[h]
theorem Gh {p:GT}{t u:FS}{ρ ρ1:aF}(h:p ρ=some (false,ρ1)):Fm p t u ρ=u ρ1:=by unfold Fm;rw[h]
theorem BZ {p:GT}{ρ ρ1:aF}{b:Bool}(h:p ρ=some (b,ρ1)):zf p ρ=some (!b,ρ1):=by unfold zf;rw[h];rfl
theorem Cz {f:GE}{ρ ρ1:aF}{b:Bool}(h:f ρ=some (.bl b,ρ1)):yN f ρ=some (b,ρ1):=by unfold yN;rw[h];rfl
theorem n8 {p q:FT}{ρ:aF}{b:Bool}(h1:p ρ=some false)(h2:q ρ=some b):p8 p q ρ=some b:=by unfold p8;rw[h1];exact h2
theorem Di {p q:FT}{ρ:aF}(h1:p ρ=some true):p8 p q ρ=some true:=by unfold p8;rw[h1];rfl
theorem vm {p q:FT}{ρ:aF}{b:Bool}(h1:p ρ=some true)(h2:q ρ=some b):cx p q ρ=some b:=by unfold cx;rw[h1];exact h2
theorem Fd {p q:FT}{ρ:aF}(h1:p ρ=some false):cx p q ρ=some false:=by unfold cx;rw[h1];rfl
theorem ng {p q:FT}{ρ:aF}{a b:Bool}(h1:p ρ=some a)(h2:a=true->q ρ=some b)(h3:a=false->b=false):cx p q ρ=some b:=by
 cases a with
 |true=>exact vm h1 (h2 rfl)
 |false=>rw[h3 rfl];exact Fd h1
theorem ki {p:FT}{ρ:aF}{b:Bool}(h:p ρ=some b):rN p ρ=some (.bl b):=by unfold rN;rw[h];rfl
theorem yI {f:GE}{ρ ρ1:aF}{d:D}(h:f ρ=some (d,ρ1)):ca f ρ=.nx ρ1:=by unfold ca;rw[h]
theorem bf {f:FE}{ρ:aF}{b:Bool}(h:f ρ=some (.bl b)):aX f ρ=some b:=by unfold aX;rw[h];rfl
theorem fW {f:FE}{ρ:aF}{b:Bool}(h:f ρ=some (.bl b)):dD f ρ=some b:=by unfold dD;rw[h];rfl
theorem iR {p:FT}{ρ:aF}{b:Bool}(h:p ρ=some b):gI p ρ=some (!b):=by unfold gI;rw[h];rfl
theorem CL {x:D}(h:fw x<=32):lh x x=some (.bl false):=by rw[kh h,kS];rfl
theorem vW {x:D}(h:fw x<=32):iE x x=some (.bl true):=by rw[mH h,kS]
theorem cb {g:FG}{b:FS}{d:D}{r:List D}{ρ ρ1 ρ2:aF}(h1:g d ρ=some ρ1)(h2:b ρ1=.nx ρ2):cD g b (d::r) ρ=cD g b r ρ2:=by
 show(match g d ρ with
  |none=>Out.no
  |some ρ1=>match b ρ1 with
   | .nx ρ2=>cD g b r ρ2
   | .ct ρ2=>cD g b r ρ2
   | .bk ρ2=>.nx ρ2
   | .rt d ρ2=>.rt d ρ2
   | .no=>.no)=_
 rw[h1];dsimp only;rw[h2]
theorem cH {f:GA}{g:FG}{b:FS}{ρ ρ1:aF}{ds:List D}(h:f ρ=some (ds,ρ1)):dI f g b ρ=cD g b ds ρ1:=by unfold dI;rw[h]
theorem A8 {f:FE}{ρ:aF}{ds:List D}(h:f ρ=some (.lst ds)):m9 f ρ=some ds:=by unfold m9;rw[h];rfl
theorem jx {kd:Kd}{n:Nat}{t:FS}{ds:List D}{d:D}(h: ∃ρ,t (ij n ds)=.rt d ρ):gF kd n t ds=some d:=let⟨_,h⟩:=h;bZ h
theorem DF {t u:FS}{ρ:aF}{d:D}(P:aF->Prop)(h: ∃ρ',t ρ=.nx ρ'/\P ρ')(hu: ∀ρ',P ρ'-> ∃ρ'',u ρ'=.rt d ρ''): ∃ρ'',aB t u ρ=.rt d ρ'':=by
 obtain⟨ρ',h1,h2⟩:=h
 obtain⟨ρ'',h3⟩:=hu ρ' h2
 exact⟨ρ'',(ay h1).trans h3⟩
theorem Bb {f:GA}{g:FG}{b:FS}{ρ ρ1:aF}{ds:List D}{P:aF->Prop}(h:f ρ=some (ds,ρ1))(hl: ∃ρ',cD g b ds ρ1=.nx ρ'/\P ρ'): ∃ρ',dI f g b ρ=.nx ρ'/\P ρ':=by
 obtain⟨ρ',h1,h2⟩:=hl
 exact⟨ρ',(cH h).trans h1,h2⟩
theorem wf {g:FG}{b:FS}{P:aF->Prop}: ∀(l:List D),(∀d∈l,∀ρ,P ρ-> ∃ρ1 ρ2,g d ρ=some ρ1/\b ρ1=.nx ρ2/\P ρ2)-> ∀ρ,P ρ-> ∃ρ',cD g b l ρ=.nx ρ'/\P ρ'
 | [],_,ρ,p=>⟨ρ,rfl,p⟩
 |d::l,h,ρ,p=>by
  obtain⟨ρ1,ρ2,h1,h2,p2⟩:=h d (by simp) ρ p
  obtain⟨ρ',e,p'⟩:=wf l (λd' hd=>h d' (by simp[hd])) ρ2 p2
  exact⟨ρ',(cb h1 h2).trans e,p'⟩
theorem wm(i:Int){n:Nat}(h:0<n):(i % (n:Int)).toNat<n/\(((i % (n:Int)).toNat:Nat):Int)=i % n:=by
 have:=dn (i:=i) (m:=n) (by omega)
 omega
theorem oI {i:Nat}{fs:GA}{ρ ρ1:aF}{b0 bs:List D}{d:D}(h0:iM i ρ=some b0)(h1:fs ρ=some ([d],ρ1))(h2:iM i ρ1=some bs)(h3:bs.length<=900):ca (aN i 1 gH fs) ρ=.nx (g7 i (bs++[d]) ρ1):=
 yI (cM h0 h1 h2 rfl (by rw[wu,pI (by omega)]))
theorem gp {α:Type}{g:FG}{p:FT}{f:FE}{ρ0:aF}{h o:α->D}{q:α->Bool}: ∀(l:List α),(∀i∈l,∃ρ1,g (h i) ρ0=some ρ1/\p ρ1=some (q i)/\(q i=true->f ρ1=some (o i)))->dw g p f ρ0 (l.map h)=some ((l.filter q).map o)
 | [],_=>rfl
 |a::l,H=>by
  obtain⟨ρ1,h1,h2,h3⟩:=H a (by simp)
  have ih:=gp l λi hi=>H i (by simp[hi])
  rw[List.map_cons];unfold dw;rw[h1,Option.bind_some,h2,Option.bind_some];cases e:q a with
  |true=>rw[if_pos rfl,h3 e,Option.bind_some,ih];simp[e]
  |false=>rw[if_neg (by simp),ih];simp[e]
theorem lB {α:Type}{g:FG}{p:FT}{A:FA}{ρ0:aF}{h:α->D}{q:α->Bool}{o:α->List D}: ∀(l:List α),(∀i∈l,∃ρ1,g (h i) ρ0=some ρ1/\p ρ1=some (q i)/\(q i=true->A ρ1=some (o i)))->oF g p A ρ0 (l.map h)=some ((l.filter q).flatMap o)
 | [],_=>rfl
 |a::l,H=>by
  obtain⟨ρ1,h1,h2,h3⟩:=H a (by simp)
  have ih:=lB l λi hi=>H i (by simp[hi])
  rw[List.map_cons];unfold oF;rw[h1,Option.bind_some,h2,Option.bind_some];cases e:q a with
  |true=>rw[if_pos rfl,h3 e,Option.bind_some,ih];simp[e]
  |false=>rw[if_neg (by simp),ih];simp[e]
theorem wj {f:FE}{ρ:aF}{d:D}(h:f ρ=some d):sP f ρ=some [d]:=by unfold sP;rw[h];rfl
theorem vT {m:Nat}{gi1 gi2:FA}{g1 g2:FG}{p1 p2:FT}{f:FE}{ρ:aF}{ds ys:List D}(h1:gi1 ρ=some ds)(h2:oF g1 p1 (A3 gi2 g2 p2 f) (ρ++List.replicate m .no) ds=some ys)(h3:ys.length<=1000):pc m gi1 g1 p1 gi2 g2 p2 f ρ=some (.lst ys):=by
 unfold pc;rw[h1,Option.bind_some,h2,Option.bind_some,if_pos (Nat.le_of_lt (lP h3))]
theorem zI {gi:FA}{g:FG}{p:FT}{f:FE}{ρ:aF}{ds ys:List D}(h1:gi ρ=some ds)(h2:oF g p (sP f) ρ ds=some ys):A3 gi g p f ρ=some ys:=by
 unfold A3;rw[h1,Option.bind_some,h2]
theorem yE(r:List Nat)(ρ:aF)(f:FE)(h:f ρ=some (.lst (r.map nI))):ao cW (aa f ai) ρ=some (nI r.length):=by
 rw[bS (av h rfl)];show some (D.int ((r.map nI).length:Int))=_;rw[List.length_map]
theorem gy(r:List Nat)(ρ:aF)(f:FE)(h:f ρ=some (ax r)):ao cW (aa f ai) ρ=some (nI r.length):=by
 rw[bS (av h rfl)];show some (D.int ((r.map nI).length:Int))=_;rw[List.length_map]
theorem Aw(a b:Nat):fz (nI a) (nI b)=some (.int ((a:Int) -b)):=jw _ _
theorem Cf {i:Int}{n:Nat}(h:0<n):bo (.int i) (nI n)=some (nI (i % n).toNat):=by
 rw[de (by omega),IR (dn (i:=i) (m:=n) (by omega)).1]
theorem zp(L:List Nat)(c:Nat):(L.map nI).any (λd=>eI d (nI c))=decide (c∈L):=by
 induction L with
 |nil=>simp
 |cons a L ih=>
  rw[List.map_cons,List.any_cons,ih,jk,Bool.eq_iff_iff];simp only[Bool.or_eq_true,decide_eq_true_eq,List.mem_cons];exact or_congr_left eq_comm
theorem FN(L:List Nat)(c:Nat):gd false (nI c) (.lst (L.map nI))=some (.bl (decide (c∈L))):=by
 unfold gd kf;dsimp only;rw[lH,if_pos (by omega),zp]
 rfl
def eF:FS:=
 aB (ga 3 (ao mP (aa (ag 0) (ai))))
 (aB (cv (gT 2 (eV (bW 3 (ag 1)) (eV (bW 3 (ag 2)) (jI)))) (pu (cw (aa (ak aP (ag 0) (ag 2)) (aa (ak aP (ag 0) (ag 1)) (ai))))))
 (ba (ao gW (aa (cV 3) (ai)))))
def gz:List D->Option D:=gF .s 4 eF
def gD:FS:=
 ba (cy 1 (cS (aa (ak bo (ak fz (ag 2) (ag 1)) (ag 0)) (ai))) (gN 3) (ft) (ak bo (ak aO (ag 1) (ag 3)) (ag 0)))
def gw:List D->Option D:=gF .n 3 gD
def hW:FS:=
 ba (ao (nF 3 gw) (aa (ao cW (aa (ag 0) (ai))) (aa (ag 1) (aa (ag 2) (ai)))))
def j4:List D->Option D:=gF .n 3 hW
def kj:FS:=
 ba (ao (nF 3 gw) (aa (ao cW (aa (ag 0) (ai))) (aa (ak aP (ag 0) (ag 1)) (aa (ak aP (ag 0) (ag 2)) (ai)))))
def oA:List D->Option D:=gF .n 3 kj
def lV:FS:=
 ba (ao (nF 3 gz) (aa (ag 0) (aa (ag 1) (aa (ag 2) (ai)))))
def xV:List D->Option D:=gF .s 3 lV
def kx:FS:=
 aB (aT 3 (fu (ao (nF 3 j4) (aa (ag 0) (aa (ag 1) (aa (ag 2) (ai))))) (gG (aA (.int 1))) jg))
 (aB (aT 4 (fu (ao (nF 3 oA) (aa (ag 0) (aa (ag 1) (aa (ag 2) (ai))))) (gG (aA (.int 1))) jg))
 (ba (rN (gI (aX (ao xl (aa (cy 1 (m9 (ag 3)) (gN 5) (ft) (ak (gd false) (ak aP (ag 0) (ag 5)) (ag 4))) (ai))))))))
def uw:List D->Option D:=gF .s 5 kx
def dM(n s e:Nat):List Nat:=(List.range (((e:Int) -s) % n).toNat).map λ(i:Nat)=>(s+i) % n
def pL(n s e x:Nat):Bool:=decide (((x:Int) -s) % n<((e:Int) -s) % n)
theorem rF {n:Nat}(h:0<n)(s e:Nat):(dM n s e).length<n:=by
 unfold dM;rw[List.length_map,List.length_range];exact(wm _ h).1
theorem iL {n:Nat}(h:0<n){s:Nat}(hs:s<n)(e x:Nat):x∈dM n s e↔x<n/\pL n s e x=true:=by
 unfold dM pL;rw[List.mem_map,decide_eq_true_eq];have m:=wm ((e:Int) -s) h
 constructor
 ·rintro⟨i,hi,rfl⟩
  rw[List.mem_range] at hi;refine⟨Nat.mod_lt _ h,?_⟩
  rw[Int.natCast_emod,Int.emod_sub_emod,show(((s+i:Nat):Int) -s)=i by omega,Int.emod_eq_of_lt (by omega) (by omega)]
  omega
 ·rintro⟨hx,hb⟩
  have m2:=wm ((x:Int) -s) h
  refine⟨(((x:Int) -s) % n).toNat,by rw[List.mem_range];omega,?_⟩
  have:(((s+(((x:Int) -s) % n).toNat) % n:Nat):Int)=x:=by
   rw[Int.natCast_emod,Int.natCast_add,m2.2,Int.add_emod_emod,show(s:Int)+((x:Int) -s)=x by omega,Int.emod_eq_of_lt (by omega) (by omega)]
  omega
theorem x0 {n:Nat}(h:0<n)(s e:Nat):(dM n s e).Nodup:=by
 unfold dM;have m:=wm ((e:Int) -s) h
 show List.Pairwise (·≠ ·) _
 rw[List.pairwise_map];refine List.Pairwise.imp_of_mem (λ{i j} hi hj hlt e=>?_) List.pairwise_lt_range
 rw[List.mem_range] at hi hj;have:(((s+i) % n:Nat):Int)=(((s+j) % n:Nat):Int):=by rw[e]
 rw[Int.natCast_emod,Int.natCast_emod,Int.natCast_add,Int.natCast_add,Int.add_comm (s:Int),Int.add_comm (s:Int),Int.emod_add_cancel_right,Int.emod_eq_of_lt (by omega) (by omega),Int.emod_eq_of_lt (by omega) (by omega)] at this
 omega
theorem pF {n s e:Nat}(h:0<n)(hn:n<=900):gw [nI n,nI s,nI e]=some (.lst ((dM n s e).map nI)):=by
 apply bZ (kd:=.n) (n:=3) (t:=gD)
 unfold gD;have m:=wm ((e:Int) -s) h
 refine bF (gv (ds:=(List.range (((e:Int) -s) % n).toNat).map nI) (fS (av ((au ((au (x:=nI e) (y:=nI s) rfl rfl).trans (Aw _ _)) (y:=nI n) rfl).trans (Cf h)) rfl) (by omega)) (by simp;omega) ?_)
 refine(mi (h:=nI) (o:=λ(i:Nat)=>nI ((s+i) % n)) _ λi hi=>⟨_,rfl,?_⟩).trans (by unfold dM;rw[List.map_map];rfl)
 exact(au ((au (x:=nI s) (y:=nI i) rfl rfl).trans (Ai _ _)) (y:=nI n) rfl).trans (AG h)
theorem vz {n:Nat}{o:List Nat}(ho:o.length=n)(h:0<n)(hn:n<=900)(a b:Nat):j4 [ax o,nI a,nI b]=some (.lst ((dM n a b).map nI)):=by
 apply bZ (kd:=.n) (n:=3) (t:=hW)
 unfold hW;exact bF ((bT (ds:=[nI n,nI a,nI b]) (av (by rw[gy o _ _ rfl,ho]) rfl) rfl).trans (pF h hn))
theorem wG {n:Nat}{o:List Nat}(ho:o.length=n)(h:0<n)(hn:n<=900){a b:Nat}(ha:a<n)(hb:b<n):oA [ax o,nI a,nI b]=some (.lst ((dM n (o.getD a 0) (o.getD b 0)).map nI)):=by
 apply bZ (kd:=.n) (n:=3) (t:=kj)
 unfold kj;exact bF ((bT (ds:=[nI n,nI (o.getD a 0),nI (o.getD b 0)]) (av (by rw[gy o _ _ rfl,ho]) (av ((au (x:=ax o) (y:=nI a) rfl rfl).trans (cK (by omega))) (av ((au (x:=ax o) (y:=nI b) rfl rfl).trans (cK (by omega))) rfl))) rfl).trans (pF h hn))
def lF(o:List Nat)(a b:Nat):List Nat:=(o.set a (o.getD b 0)).set b (o.getD a 0)
theorem vB {n:Nat}{o:List Nat}(ho:o.length=n){a b:Nat}(ha:a<n)(hb:b<n):gz [ax o,nI a,nI b]=some (ax (lF o a b)):=by
 apply bZ (kd:=.s) (n:=4) (t:=eF)
 unfold eF;refine(ay (ρ':=[.v (ax o),.v (nI a),.v (nI b),.own (o.map nI)]) ((iN (ds:=o.map nI) rfl).trans rfl)).trans ?_
 refine(ay (ρ':=[.v (ax o),.v (nI a),.v (nI b),.own ((lF o a b).map nI)]) (fX (ge (cG (av ((au (x:=ax o) (y:=nI b) rfl rfl).trans (cK (by omega))) (av ((au (x:=ax o) (y:=nI a) rfl rfl).trans (cK (by omega))) rfl)) (by simp))) ?_)).trans (bF rfl)
 simp only[gT,List.length_cons,List.length_nil,eV];rw[iz (bs:=o.map nI) (j:=a) rfl rfl (by simp;omega)]
 simp only[Option.bind_some];rw[iz (bs:=(o.map nI).set a (nI (o.getD b 0))) (j:=b) rfl rfl (by simp;omega)]
 simp only[Option.bind_some,jI,kQ];rfl
theorem pT {n:Nat}{o:List Nat}(ho:o.length=n){a b:Nat}(ha:a<n)(hb:b<n):xV [ax o,nI a,nI b]=some (ax (lF o a b)):=by
 apply bZ (kd:=.s) (n:=3) (t:=lV)
 unfold lV;exact bF ((bT (ds:=[ax o,nI a,nI b]) rfl rfl).trans (vB ho ha hb))
theorem Ik(l:List Nat):iB (l.map nI) (some 1) none=(l.drop 1).map nI:=by
 unfold iB;rw[HT.sIx_none,show(some (1:Int))=some ((1:Nat):Int) from rfl,HT.sIx_nat];cases l with
 |nil=>rfl
 |cons x r=>
  rw[List.length_map,show min 1 (x::r).length=1 by simp,List.map_cons,List.drop_succ_cons,List.drop_zero,List.drop_succ_cons,List.drop_zero]
  rw[List.take_of_length_le (by simp)]
def kM(o:List Nat)(a b:Nat):Bool:= !((dM o.length a b).drop 1).any λx=>decide (o.getD x 0∈(dM o.length (o.getD a 0) (o.getD b 0)).drop 1)
theorem BC {n:Nat}{o:List Nat}(ho:o.length=n)(h:0<n)(hn:n<=900){a b:Nat}(ha:a<n)(hb:b<n):uw [ax o,nI a,nI b]=some (.bl (kM o a b)):=by
 apply bZ (kd:=.s) (n:=5) (t:=kx)
 unfold kx;have sl: ∀(l:List Nat) (f:FE) (ρ:aF),f ρ=some (.lst (l.map nI))->fu f (gG (aA (.int 1))) jg ρ=some (.lst ((l.drop 1).map nI)):=λl f ρ e=>by
  unfold fu;rw[e];show some (D.lst (iB (l.map nI) (some 1) none))=_;rw[Ik]
 refine(ay (ρ':=[.v (ax o),.v (nI a),.v (nI b),.v (.lst (((dM n a b).drop 1).map nI)),.no]) ((bc (sl _ _ _ ((bT (ds:=[ax o,nI a,nI b]) rfl rfl).trans (vz ho h hn a b)))).trans rfl)).trans ?_
 refine(ay (ρ':=[.v (ax o),.v (nI a),.v (nI b),.v (.lst (((dM n a b).drop 1).map nI)),.v (.lst (((dM n (o.getD a 0) (o.getD b 0)).drop 1).map nI))]) ((bc (sl _ _ _ ((bT (ds:=[ax o,nI a,nI b]) rfl rfl).trans (wG ho h hn ha hb)))).trans rfl)).trans ?_
 refine bF (ki ?_)
 unfold kM;rw[ho];refine iR (bf ?_)
 have l1:=rF h a b
 rw[bS (av (gv (ds:=((dM n a b).drop 1).map nI) (ys:=(((dM n a b).drop 1).map λx=>decide (o.getD x 0∈(dM n (o.getD a 0) (o.getD b 0)).drop 1)).map D.bl) rfl (by simp;omega) ?_) rfl),vD,List.any_map]
 ·rfl
 ·rw[List.map_map]
  refine mi (h:=nI) _ λx hx=>⟨_,rfl,?_⟩
  have hx':x<n:=by
   have:=List.mem_of_mem_drop hx
   unfold dM at this;obtain⟨i,_,rfl⟩:=List.mem_map.mp this
   exact Nat.mod_lt _ h
  refine(au ((au (x:=ax o) (y:=nI x) rfl rfl).trans (cK (by omega))) (y:=.lst (((dM n (o.getD a 0) (o.getD b 0)).drop 1).map nI)) rfl).trans ?_
  rw[FN];rfl
theorem zP {n:Nat}(h:0<n){s e:Nat}(hs:s<n)(he:e<n)(ne:s≠e): ∃r,dM n s e=s::r:=by
 unfold dM;have m:=wm ((e:Int) -s) h
 have pos:0<(((e:Int) -s) % n).toNat:=by
  have:((e:Int) -s) % n≠0:=λz=>by
   have:=Int.emod_emod_of_dvd
   have d:=Int.dvd_of_emod_eq_zero z
   obtain⟨q,hq⟩:=d
   have:q=0:=by
    rcases Int.lt_trichotomy q 0 with hq0|hq0|hq0
    ·have:(n:Int)*q<=n*(-1):=Int.mul_le_mul_of_nonneg_left (by omega) (by omega)
     omega
    ·exact hq0
    ·have:(n:Int)*1<=n*q:=Int.mul_le_mul_of_nonneg_left (by omega) (by omega)
     omega
   subst this;omega
  omega
 obtain⟨k,hk⟩: ∃k,(((e:Int) -s) % n).toNat=k+1:=⟨_,(Nat.succ_pred_eq_of_pos pos).symm⟩
 rw[hk,List.range_succ_eq_map,List.map_cons,Nat.add_zero,Nat.mod_eq_of_lt hs];exact⟨_,rfl⟩
theorem kY {n:Nat}(h:0<n){s e:Nat}(hs:s<n)(he:e<n)(ne:s≠e)(x:Nat):x∈(dM n s e).drop 1↔x<n/\pL n s e x=true/\x≠s:=by
 obtain⟨r,hr⟩:=zP h hs he ne
 have nd:=x0 h s e
 have hm:=iL h hs e x
 rw[hr] at nd hm⊢;rw[List.drop_succ_cons,List.drop_zero];obtain⟨n1,n2⟩:=List.nodup_cons.mp nd
 rw[List.mem_cons] at hm;constructor
 ·intro hx
  obtain⟨h1,h2⟩:=hm.mp (.inr hx)
  exact⟨h1,h2,λz=>n1 (z▸hx)⟩
 ·rintro⟨h1,h2,h3⟩
  exact(hm.mpr ⟨h1,h2⟩).resolve_left h3
theorem sj {α β:Type}(f:α->β): ∀l:List α,l.flatMap (λc=>[f c])=l.map f
 | []=>rfl
 |a::l=>by rw[List.flatMap_cons,sj f l];rfl
theorem zd: ∀k:List Int,dO (k.map D.int)=0
 | []=>by simp[dO]
 |a::k=>by rw[List.map_cons];unfold dO;rw[zd k];simp[fw]
theorem Cr(k:List Int):fw (cX k)=1:=by unfold cX fw;rw[zd]
theorem qF: ∀ks:List (List Int),dO (ks.map cX)<=1
 | []=>by simp[dO]
 |k::ks=>by
  rw[List.map_cons];unfold dO;have:=qF ks
  rw[Cr];omega
theorem Dk(ks:List (List Int)):fw (.lst (ks.map cX))<=32:=by unfold fw;have:=qF ks;omega
theorem z7: ∀k l:List Int,cY (k.map D.int) (l.map D.int)=decide (k=l)
 | [],[]=>by simp[cY]
 | [],_::_=>by simp[cY]
 |_::_,[]=>by simp[cY]
 |a::k,b::l=>by
  rw[List.map_cons,List.map_cons];unfold cY;rw[z7 k l,jQ,Bool.eq_iff_iff];simp
theorem wF(k l:List Int):eI (cX k) (cX l)=decide (k=l):=by
 unfold cX eI;exact z7 k l
theorem Gb(K:List (List Int))(k:List Int):(K.map cX).any (λd=>eI d (cX k))=decide (k∈K):=by
 induction K with
 |nil=>simp
 |cons a K ih=>
  rw[List.map_cons,List.any_cons,ih,wF,Bool.eq_iff_iff];simp only[Bool.or_eq_true,decide_eq_true_eq,List.mem_cons];exact or_congr_left eq_comm
theorem IM(K:List (List Int))(k:List Int):gd false (cX k) (.lst (K.map cX))=some (.bl (decide (k∈K))):=by
 unfold gd kf;dsimp only;have:=qF K
 rw[if_pos (by omega),Gb]
 rfl
theorem Ord.get {n:Nat}{o:List Nat}(O:Ord n o){i:Nat}(h:i<n):o.getD i 0<n:=by
 have ho:=O.len
 have:o.getD i 0=o[i]'(by omega):=by simp[List.getD,ho,h]
 rw[this];exact O.lt (List.getElem_mem _)
theorem Ord.inj {n:Nat}{o:List Nat}(O:Ord n o){i j:Nat}(hi:i<n)(hj:j<n)(e:o.getD i 0=o.getD j 0):i=j:=D3 O.nd (by rw[O.len];exact hi) (by rw[O.len];exact hj) e
theorem zr {n:Nat}{o:List Nat}(O:Ord n o){a b:Nat}(ha:a<n)(hb:b<n)(ne:a≠b):kM o a b=true↔ ∀x,x<n-> ¬(pL n a b x=true/\x≠a/\pL n (o.getD a 0) (o.getD b 0) (o.getD x 0)=true/\o.getD x 0≠o.getD a 0):=by
 have h:0<n:=by omega
 have ne2:o.getD a 0≠o.getD b 0:=λz=>ne (O.inj ha hb z)
 unfold kM;rw[O.len];simp only[Bool.not_eq_true',List.any_eq_false,decide_eq_true_eq];constructor
 ·intro H x hx ⟨h1,h2,h3,h4⟩
  exact H x ((kY h ha hb ne x).mpr ⟨hx,h1,h2⟩) ((kY h (O.get ha) (O.get hb) ne2 _).mpr ⟨O.get hx,h3,h4⟩)
 ·intro H x hx hy
  obtain⟨x1,x2,x3⟩:=(kY h ha hb ne x).mp hx
  obtain⟨y1,y2,y3⟩:=(kY h (O.get ha) (O.get hb) ne2 _).mp hy
  exact H x x1 ⟨x2,x3,y2,y3⟩
theorem IP(y p q:Nat):gd false (nI y) (.tup [nI p,nI q])=some (.bl (decide (y=p\/y=q))):=by
 unfold gd kf;dsimp only;rw[show dO [nI p,nI q]=0 from lH [p,q],if_pos (by omega)]
 have:=zp [p,q] y
 simp only[List.map_cons,List.map_nil] at this;simp only[Bool.false_eq_true,if_false];rw[this];congr 2
 simp
theorem ou {α:Type}{g:FG}{b:FS}{h:α->D}{ok:α->Bool}{d:D}{P:aF->Prop}: ∀(l:List α),(∀x∈l,∀ρ,P ρ-> ∃ρ1,g (h x) ρ=some ρ1/\(ok x=true-> ∃ρ2,b ρ1=.nx ρ2/\P ρ2)/\(ok x=false-> ∃ρ2,b ρ1=.rt d ρ2))->
 ∀ρ,P ρ->(l.all ok=true-> ∃ρ',cD g b (l.map h) ρ=.nx ρ'/\P ρ')/\(l.all ok=false-> ∃ρ',cD g b (l.map h) ρ=.rt d ρ')
 | [],_,ρ,p=>⟨λ_=>⟨ρ,rfl,p⟩,λz=>by simp at z⟩
 |x::l,H,ρ,p=>by
  obtain⟨ρ1,h1,h2,h3⟩:=H x (by simp) ρ p
  rw[List.all_cons,List.map_cons];cases e:ok x with
  |true=>
   obtain⟨ρ2,e2,p2⟩:=h2 e
   have ih:=ou l (λy hy=>H y (by simp[hy])) ρ2 p2
   rw[Bool.true_and,cb h1 e2];exact ih
  |false=>
   obtain⟨ρ2,e2⟩:=h3 e
   refine⟨λz=>by simp at z,λ_=>⟨ρ2,?_⟩⟩
   show(match g (h x) ρ with
    |none=>Out.no
    |some ρ1=>match b ρ1 with
     | .nx ρ2=>cD g b (l.map h) ρ2
     | .ct ρ2=>cD g b (l.map h) ρ2
     | .bk ρ2=>.nx ρ2
     | .rt d ρ2=>.rt d ρ2
     | .no=>.no)=_
   rw[h1];dsimp only;rw[e2]
open PySem PySem.W PySem.Spec PyProof.Rows
section
variable {X:Cx}{c:Ct}{a b e:Expr}{f g:FE}{pos p p2 p3:Pos}{k:Kd}
def Do(K:W.Frag):R2:=λx y H Q=> ∃l b xs zs,x=.ref l/\y=.ref b/\SqL K H l xs/\SqL K H b zs/\xs.length+zs.length<=sizeLine/\ ∀p,H p=none->Q (.ref p) (bM H p (.lst (xs++zs)))
theorem Bd:jL X (binaryOp .Add) (Do X.K):=by
 intro ae s σ H x y v u Q I rx ry h;obtain⟨l,b,xs,zs,rfl,rfl,hL,hB,hz,q⟩:=h
 cases rx
 cases ry
 obtain⟨its,r,⟨o,n,e,c1,d1,t1⟩,z1⟩:=I.list hL
 obtain⟨its2,r2,⟨o2,n2,e2,c2,d2,t2⟩,z2⟩:=I.list hB
 obtain⟨oc,od,ot,sl⟩:=o
 obtain⟨oc2,od2,ot2,sl2⟩:=o2
 dsimp only at c1 d1 t1 c2 d2 t2;subst c1 d1 t1 c2 d2 t2;have hl:=r.length
 have hl2:=r2.length
 refine concat_meets ⟨_,e,rfl⟩ ⟨_,e2,rfl⟩ noFill_list_add seq_list_add PySem.F.slot_list_add PySem.F.entry_list_add (PySem.F.args_list_add_2 _ _) (list_addW l b its.toArray its2.toArray n n2 none none sl sl2 (by rw[List.size_toArray,List.size_toArray];omega)) ⟨e,e2,?_⟩
 have ea:its.toArray++its2.toArray=(its++its2).toArray:=by simp
 rw[ea];exact⟨.ref _,_,I.lnew (t':=s.toks) (r.append r2) (by rw[List.length_append];omega),rfl,q _ I.fresh⟩
def gA:D->D->Option D
 | .lst xs,.lst ys=>if xs.length+ys.length<=sizeLine then some (.lst (xs++ys)) else none
 |_,_=>none
theorem CU {K:W.Frag}:mK K .n (Do K) gA:=by
 intro H hid v u x y d Q hf h r1 r2 q;unfold gA at h;split at h
 ·split at h
  ·rename_i hz
   cases h
   obtain⟨a,xs,rfl,h1,h2⟩:=r1.lst
   obtain⟨b,ys,rfl,h3,h4⟩:=r2.lst
   exact⟨a,b,xs,ys,rfl,rfl,h1,h3,by rw[h2.length,h4.length];exact hz,λp hp=>q _ _ (aW hp _) (gx hp (Same.refl _) (h2.append h4))⟩
  ·cases h
 ·cases h
theorem kR {k1 k2:Kd}(ha:DP X c k1 a f)(hb:DP X c k2 b g):DP X c .n (.BinOp a .Add b pos) (ak gA f g):=mN Bd CU ha hb
end
section
variable {X:Cx}{c:Ct}{k:Kd}{e:Expr}{f:FE}{x:Str}{pos pos':Pos}
def zk(F:D->D->Option D)(i:Nat)(f:FE):FS:=λρ=>match ag i ρ with
 |some x=>(match f ρ with
  |some y=>(match F x y with
   |some z=>.nx (ρ.set i (.v z))
   |none=>.no)
  |none=>.no)
 |none=>.no
theorem xB(i:Nat)(hn:X.N.Nodup)(he:DP X c .s e f)(ho:Hl X .Add (Iu λi j=>i+j))(hi:X.N[i]? =some x:=by rfl)(hx:yc X.env.scope x:=by first|exact Or.inl rfl|exact Or.inr rfl)(hf:X.fn x=true\/X.env.scope.names.lookup x=some .local:=by first|exact .inl rfl|exact .inr rfl|assumption):
 DS X c k (.AugAssign (.Name x pos') .Add e pos) (zk aO i f):=λρ=>PS.imp (Fg hn hi hx (oB λhid=>he hid ρ) ho hf) λD σ H hq_=>by
 obtain⟨hid,sr,q⟩:=hq_
 unfold zk at q;cases e1:ag i ρ with
 |none=>rw[e1] at q;exact q.elim
 |some d1=>
  rw[e1] at q;dsimp only at q;cases e2:f ρ with
  |none=>rw[e2] at q;exact q.elim
  |some d2=>
   rw[e2] at q;dsimp only at q;cases e3:aO d1 d2 with
   |none=>rw[e3] at q;exact q.elim
   |some d3=>
    rw[e3] at q;obtain⟨i1,j1,rfl,rfl,_,rfl⟩:=nn e3
    unfold ag at e1;split at e1
    ·rename_i d' e'
     cases e1
     obtain⟨x1,h1,h2⟩:=sr.sl i _ e'
     cases h2
     refine⟨_,h1,hid,sr,_,e2,λv H' s' r=>?_⟩
     cases r
     exact⟨i1,j1,rfl,rfl,q _ H' hid ((sr.ext s').setV .int i) (aQ s')⟩
    ·cases e1
end
section
variable {X:Cx}{c:Ct}{e:Expr}{es:List Expr}{k:Kd}{pos p:Pos}{x:Str}{ps:List Str}{j n:Nat}
def df(f:FE):FA:=λρ=>(f ρ).bind λd=>match d with
 | .lst ds=>some ds
 | .tup ds=>some ds
 |_=>none
theorem dH {tg iter:Expr}{f:FE}(h:DP X c .s iter f):DIp X c tg iter (df f):=λhid ρ ae s σ H R I hq_=>by
 obtain⟨sr,ds,e1,q⟩:=hq_
 unfold df at e1;cases e2:f ρ with
 |none=>rw[e2] at e1;cases e1
 |some d=>
  rw[e2,Option.bind_some] at e1;cases d with
  |lst xs=>cases e1;exact sU h hid ρ ae s σ H R I ⟨sr,ds,by unfold m9;rw[e2];rfl,q⟩
  |tup xs=>cases e1;exact CV h hid ρ ae s σ H R I ⟨sr,ds,by unfold BU;rw[e2];rfl,q⟩
  |_=>cases e1
end
theorem oM {es rest:List Expr}{x1}{pos:Pos}{env:Env}:starEach (.Tuple es x1 pos::rest) env=(false,eval (.Tuple es x1 pos) env)::starEach rest env:=by rfl
@[elab_as_elim] theorem ar0 {motive:List Value->Prop} (us:List Value) (hl:us.length=0) (h:motive []):motive us:=by
 cases us with
 |nil=>exact h
 |cons a r=>exact absurd hl (Nat.succ_ne_zero _)
@[elab_as_elim] theorem ar1 {motive:List Value->Prop} (us:List Value) (hl:us.length=1) (h: ∀a0,motive [a0]):motive us:=by
 cases us with
 |nil=>exact absurd hl (by decide)
 |cons a0 r=>exact ar0 (motive:=λr=>motive (a0::r)) r (Nat.succ.inj hl) (h a0)
@[elab_as_elim] theorem ar2 {motive:List Value->Prop} (us:List Value) (hl:us.length=2) (h: ∀a0 a1,motive [a0,a1]):motive us:=by
 cases us with
 |nil=>exact absurd hl (by decide)
 |cons a0 r=>exact ar1 (motive:=λr=>motive (a0::r)) r (Nat.succ.inj hl) (h a0)
@[elab_as_elim] theorem ar3 {motive:List Value->Prop} (us:List Value) (hl:us.length=3) (h: ∀a0 a1 a2,motive [a0,a1,a2]):motive us:=by
 cases us with
 |nil=>exact absurd hl (by decide)
 |cons a0 r=>exact ar2 (motive:=λr=>motive (a0::r)) r (Nat.succ.inj hl) (h a0)
@[elab_as_elim] theorem ar4 {motive:List Value->Prop} (us:List Value) (hl:us.length=4) (h: ∀a0 a1 a2 a3,motive [a0,a1,a2,a3]):motive us:=by
 cases us with
 |nil=>exact absurd hl (by decide)
 |cons a0 r=>exact ar3 (motive:=λr=>motive (a0::r)) r (Nat.succ.inj hl) (h a0)
@[elab_as_elim] theorem ar5 {motive:List Value->Prop} (us:List Value) (hl:us.length=5) (h: ∀a0 a1 a2 a3 a4,motive [a0,a1,a2,a3,a4]):motive us:=by
 cases us with
 |nil=>exact absurd hl (by decide)
 |cons a0 r=>exact ar4 (motive:=λr=>motive (a0::r)) r (Nat.succ.inj hl) (h a0)
@[elab_as_elim] theorem ar6 {motive:List Value->Prop} (us:List Value) (hl:us.length=6) (h: ∀a0 a1 a2 a3 a4 a5,motive [a0,a1,a2,a3,a4,a5]):motive us:=by
 cases us with
 |nil=>exact absurd hl (by decide)
 |cons a0 r=>exact ar5 (motive:=λr=>motive (a0::r)) r (Nat.succ.inj hl) (h a0)
@[irreducible] def QS (X:Cx) (c:Ct) (k:Kd) (st:Stmt) (t:FS):Prop:=DS X c k st t
@[irreducible] def QSs (X:Cx) (c:Ct) (k:Kd) (st:List Stmt) (t:FS):Prop:=ua X c k st t
section
variable {X:Cx}{c:Ct}{k:Kd}{e a b:Expr}{es:List Expr}{f g:FE}{fs:FA}{pos pos':Pos}{st:Stmt}{rest:List Stmt}{t u:FS}{x:Str}
theorem QS.of(h:DS X c k st t):QS X c k st t:=by unfold QS;exact h
theorem QS.ds(h:QS X c k st t):DS X c k st t:=by unfold QS at h;exact h
theorem QSs.to(h:QSs X c k rest t):ua X c k rest t:=by unfold QSs at h;exact h
theorem nY(h1:QS X c k st t)(h2:QSs X c k rest u):QSs X c k (st::rest) (aB t u):=by unfold QSs;exact aj h1.ds h2.to
theorem CK(h:QS X c k st t):QSs X c k [st] t:=by unfold QSs;exact az h.ds
end
section
variable {κ:Type} [DecidableEq κ]
def jj(kvs:List (κ×V))(k:κ):Option V:=(kvs.find? λkv=>decide (kv.1=k)).map (·.2)
def mj(kvs:List (κ×V))(k:κ)(v:V):List (κ×V):=
 if(kvs.any λkv=>decide (kv.1=k))=true then kvs.map (λkv=>if kv.1=k then(kv.1,v) else kv) else kvs++[(k,v)]
theorem kU {p:κ×V}{r:List (κ×V)}{k:κ}(e:p.1=k):jj (p::r) k=some p.2:=by simp[jj,List.find?_cons,e]
theorem lE {p:κ×V}{r:List (κ×V)}{k:κ}(e: ¬p.1=k):jj (p::r) k=jj r k:=by simp[jj,List.find?_cons,e]
theorem tm(k:κ): ∀kvs:List (κ×V),(kvs.any λkv=>decide (kv.1=k))=(jj kvs k).isSome
 | []=>rfl
 |p::r=>by
  rw[List.any_cons]
  by_cases e:p.1=k
  ·simp only[kU e,decide_eq_true e,Bool.true_or,Option.isSome_some]
  ·rw[lE e,decide_eq_false e,Bool.false_or];exact tm k r
theorem mS(kvs:List (κ×V))(k:κ)(v:V):(mj kvs k v).length<=kvs.length+1:=by
 unfold mj;split
 ·rw[List.length_map];omega
 ·rw[List.length_append,List.length_cons,List.length_nil];omega
theorem RelO.isSome_eq {o:Option V}{u:Option Value}(r:RelO o u):o.isSome=u.isSome:=by
 cases o with
 |none=>cases u with
  |none=>rfl
  |some _=>exact(show False from r).elim
 |some _=>cases u with
  |none=>exact(show False from r).elim
  |some _=>rfl
theorem RelO.getD {o:Option V}{u:Option Value}{d:V}{d':Value}(r:RelO o u)(rd:RelV d d'):RelV (o.getD d) (u.getD d'):=by
 cases o with
 |none=>cases u with
  |none=>exact rd
  |some _=>exact(show False from r).elim
 |some _=>cases u with
  |none=>exact(show False from r).elim
  |some _=>exact r
theorem KV.val {kvs:List (κ×V)}{vs:List (κ×Value)}(r:KV kvs vs)(k:κ):RelO (jj kvs k) (valueAt vs k):=by
 unfold KV at r
 induction r with
 |nil=>exact True.intro
 | @cons p q ps qs h t ih=>
   obtain⟨h1,h2⟩:=h
   by_cases e:p.1=k
   ·have e':q.1=k:=h1.symm.trans e
    have b:valueAt (q::qs) k=some q.2:=by simp[valueAt,List.find?_cons,e']
    rw[kU e,b];exact h2
   ·have e': ¬q.1=k:=λz=>e (h1.trans z)
    have b:valueAt (q::qs) k=valueAt qs k:=by simp[valueAt,List.find?_cons,e']
    rw[lE e,b];exact ih
theorem KV.any {kvs:List (κ×V)}{vs:List (κ×Value)}(r:KV kvs vs)(k:κ):(kvs.any λkv=>decide (kv.1=k))=vs.any λkv=>decide (kv.1=k):=by
 unfold KV at r
 induction r with
 |nil=>rfl
 |cons h t ih=>rw[List.any_cons,List.any_cons,ih,h.1]
theorem KV.repl {kvs:List (κ×V)}{vs:List (κ×Value)}(r:KV kvs vs)(k:κ){y:V}{u:Value}(ry:RelV y u):
 KV (kvs.map λkv=>if kv.1=k then(kv.1,y) else kv) (vs.map λkv=>if kv.1=k then(kv.1,u) else kv):=by
 unfold KV at r⊢
 induction r with
 |nil=>exact .nil
 | @cons p q ps qs h t ih=>
   rw[List.map_cons,List.map_cons];refine .cons ?_ ih
   obtain⟨h1,h2⟩:=h
   by_cases e:p.1=k
   ·rw[if_pos e,if_pos (h1.symm.trans e)];exact⟨h1,ry⟩
   ·rw[if_neg e,if_neg (λz=>e (h1.trans z))];exact⟨h1,h2⟩
theorem KV.put {kvs:List (κ×V)}{vs:List (κ×Value)}(r:KV kvs vs)(k:κ){y:V}{u:Value}(ry:RelV y u):KV (mj kvs k y) (stored vs k u):=by
 unfold mj stored;rw[r.any k]
 by_cases e:(vs.any λkv=>decide (kv.1=k))=true
 ·rw[if_pos e,if_pos e];exact r.repl k ry
 ·rw[if_neg e,if_neg e];exact Paired.snoc r ⟨rfl,ry⟩
theorem KV.length {kvs:List (κ×V)}{vs:List (κ×Value)}(r:KV kvs vs):kvs.length=vs.length:=Paired.length r
end
theorem AL {P:Program}{w:World}{k:bQ}{u:Value}(r:RelV (kV k) u):(ce P w).is k u=true:=by
 cases k with
 |inl i=>obtain⟨t,e⟩:=(show∃t,u=Value.int i t from r);subst e;exact rW P w i t
 |inr x=>obtain⟨t,e⟩:=(show∃t,u=Value.str x t from r);subst e;exact tD P w x t
theorem lS {P:Program}{w:World}: ∀ {ks:List bQ} {us:List Value},Vals (ks.map kV) us->ItemsAre (ce P w) ks us
 | [],_,r=>by rw[List.map_nil] at r;cases r;exact .nil
 |k::ks,_,r=>by
  rw[List.map_cons] at r;cases r with
  |cons h t=>exact .cons (AL h) (lS t)
abbrev KTd(H:Hp):List (List bQ×V)->List (List bQ×Addr×Value)->Prop:=Paired λp q=>p.1=q.1/\H q.2.1=some (.tup (p.1.map kV))/\RelV p.2 q.2.2
theorem KTd.val {H:Hp}{kvs:List (List bQ×V)}{xs:List (List bQ×Addr×Value)}(r:KTd H kvs xs)(k:List bQ):RelO (jj kvs k) ((atKey xs k).map (·.2)):=by
 induction r with
 |nil=>exact True.intro
 | @cons p q ps qs h t ih=>
   obtain⟨h1,_,h2⟩:=h
   by_cases e:p.1=k
   ·have e':q.1=k:=h1.symm.trans e
    have b:atKey (q::qs) k=some q.2:=by simp[atKey,List.find?_cons,e']
    rw[kU e,b];exact h2
   ·have e': ¬q.1=k:=λz=>e (h1.trans z)
    have b:atKey (q::qs) k=atKey qs k:=by simp[atKey,List.find?_cons,e']
    rw[lE e,b];exact ih
theorem KTd.repl {H:Hp}{kvs:List (List bQ×V)}{xs:List (List bQ×Addr×Value)}(r:KTd H kvs xs)(k:List bQ){y:V}{u:Value}(ry:RelV y u):
 KTd H (kvs.map λkv=>if kv.1=k then(kv.1,y) else kv) (xs.map (putAt k u)):=by
 induction r with
 |nil=>exact .nil
 | @cons p q ps qs h t ih=>
   rw[List.map_cons,List.map_cons];refine .cons ?_ ih
   obtain⟨h1,h2,h3⟩:=h
   unfold putAt
   by_cases e:p.1=k
   ·rw[if_pos e,if_pos (h1.symm.trans e)];exact⟨h1,h2,ry⟩
   ·rw[if_neg e,if_neg (λz=>e (h1.trans z))];exact⟨h1,h2,h3⟩
theorem KTd.put {H:Hp}{kvs:List (List bQ×V)}{xs:List (List bQ×Addr×Value)}(r:KTd H kvs xs)(k:List bQ){b:Addr}{y:V}{u:Value}(hb:H b=some (.tup (k.map kV)))(ry:RelV y u):
 KTd H (mj kvs k y) (storedH xs k b u):=by
 have e:(kvs.any λkv=>decide (kv.1=k))=(atKey xs k).isSome:=by
  rw[tm,(r.val k).isSome_eq,Option.isSome_map]
 unfold mj storedH;rw[e]
 by_cases q:(atKey xs k).isSome=true
 ·rw[if_pos q,if_pos q];exact r.repl k ry
 ·rw[if_neg q,if_neg q];exact Paired.snoc r ⟨rfl,hb,ry⟩
theorem KTd.keeps {H H':Hp}{kvs:List (List bQ×V)}{xs:List (List bQ×Addr×Value)}(r:KTd H kvs xs)(ht: ∀b ys,H b=some (.tup ys)->H' b=some (.tup ys)):KTd H' kvs xs:=
 Paired.mapP r λ_ _ z=>⟨z.1,ht _ _ z.2.1,z.2.2⟩
section
variable {P:Program}{w:World}{H:Hp}{h:Heap}{a:Addr}
theorem C9 {u:HO}(ok:HOk P w H h)(e:Rd H a u):ObjOk P w H h a u:=e.ok ok
theorem AO {kvs:List (bQ×V)}(ok:HOk P w H h)(e:Rd H a (.dK kvs)):kvs.length<=sizeLine/\(a==sysModules)=false/\ ∃vs,KV kvs vs/\h.DictOf (ce P w) a vs:=
 show ObjOk P w H h a (.dK kvs) from C9 ok e
theorem FY {kvs:List (bQ×V)}(ok:HOk P w H h)(e:H a=some (.dK kvs)):kvs.length<=sizeLine/\(a==sysModules)=false/\ ∃vs,KV kvs vs/\h.DictOf (ce P w) a vs:=AO ok (.inl e)
theorem uB {ks:List bQ}(ok:HOk P w H h)(e:H a=some (.tup (ks.map kV))):(tupleKind (ce P w)).is h ks a:=by
 obtain⟨_,its,r,⟨o,h1,h2,n,h3⟩,_⟩:=(show ObjOk P w H h a (.tup (ks.map kV)) from ok a _ e)
 exact⟨o,its.toArray,n,h1,h2,h3,by simpa using lS r⟩
theorem tE {kvs:List (List bQ×V)}(ok:HOk P w H h)(e:Rd H a (.dT kvs)):kvs.length<=sizeLine/\(a==sysModules)=false/\
 ∃xs,KTd H kvs xs/\h.DictOfH (tupleKind (ce P w)) a xs:=by
 obtain⟨z,y,xs,r,o,es,ep,h1,h2,h3,h4,h5⟩:=(show ObjOk P w H h a (.dT kvs) from C9 ok e)
 refine⟨z,y,xs,r,o,es,ep,h1,h2,h3,h4,λx hx=>?_,h5⟩
 have all: ∀ {l:List (List bQ×V)} {m:List (List bQ×Addr×Value)},KTd H l m-> ∀x∈m,(tupleKind (ce P w)).is h x.1 x.2.1:=by
  intro l m q
  induction q with
  |nil=>intro x hx;exact nomatch hx
  | @cons p q ps qs hq t ih=>
    intro x hx;rcases List.mem_cons.mp hx with e|hx
    ·subst e
     exact uB ok (by rw[<-hq.1];exact hq.2.1)
    ·exact ih x hx
 exact all r x hx
theorem FM {kvs:List (List bQ×V)}(ok:HOk P w H h)(e:H a=some (.dT kvs)):kvs.length<=sizeLine/\(a==sysModules)=false/\
 ∃xs,KTd H kvs xs/\h.DictOfH (tupleKind (ce P w)) a xs:=tE ok (.inl e)
end
def DGet(H:Hp)(a:Addr)(y:V)(r:Option V):Prop:=
 (∃kvs k,Rd H a (.dK kvs)/\y=kV k/\r=jj kvs k)\/ ∃kvs k b,Rd H a (.dT kvs)/\y=.ref b/\H b=some (.tup (k.map kV))/\r=jj kvs k
def DPut(H:Hp)(a:Addr)(y v:V)(H':Hp):Prop:=
 (∃kvs k,H a=some (.dK kvs)/\y=kV k/\kvs.length<sizeLine/\H'=bM H a (.dK (mj kvs k v)))\/
 ∃kvs k b,H a=some (.dT kvs)/\y=.ref b/\H b=some (.tup (k.map kV))/\kvs.length<sizeLine/\H'=bM H a (.dT (mj kvs k v))
theorem DGet.t {H:Hp}{a b:Addr}{kvs:List (List bQ×V)}{k:List bQ}(e:H a=some (.dT kvs))(eb:H b=some (.tup (k.map kV))):DGet H a (.ref b) (jj kvs k):=.inr ⟨kvs,k,b,.inl e,rfl,eb,rfl⟩
theorem DPut.t {H:Hp}{a b:Addr}{kvs:List (List bQ×V)}{k:List bQ}{v:V}(e:H a=some (.dT kvs))(eb:H b=some (.tup (k.map kV)))(hl:kvs.length<sizeLine):
 DPut H a (.ref b) v (bM H a (.dT (mj kvs k v))):=.inr ⟨kvs,k,b,e,rfl,eb,hl,rfl⟩
section
variable {X:Cx}{ae:List (Addr×Obj)}{σ:St}{H:Hp}{s:Shared}{a:Addr}{y v:V}{u r:Value}{o:Option V}{A:Around}{E:Value->Shared->Prop}
theorem Inv.big(I:Inv X ae σ H s):sysModules<s.heap.objs.size:=by
 have h:mainGlobals<s.heap.objs.size:=(I.mod.glob.keeps I.bk).lt
 exact Nat.lt_trans (by decide) h
theorem vK {h':Heap}{t':Nat}{ob:HO}(I:Inv X ae σ H s)(mu:GV (H a))(hs:Heap.SameBut a s.heap h')(he: ∃q,h'.get? a=some q)(new:ObjOk X.prog X.w (bM H a ob) h' a ob):
 Inv X ae σ (bM H a ob) {s with heap:=h',toks:=t'}:=
 I.write (x:=a) (e:=a) mu (.inl rfl) (λb q hb z=>(hs.2 b hb).trans z) he new
theorem DV {P:Program}{w:World}{H':Hp}{h':Heap}{kvs:List (bQ×V)}{vs:List (bQ×Value)}(z:kvs.length<=sizeLine)(hd:(a==sysModules)=false)(rel:KV kvs vs)(dd:h'.DictOf (ce P w) a vs):
 ObjOk P w H' h' a (.dK kvs):=⟨z,hd,vs,rel,dd⟩
theorem xM {H':Hp}{Q:Unit->Shared->Prop}(hu:A.units+1<cLine)(I:Inv X ae σ H s)(g:DPut H a y v H')(ry:RelV y u)(rv:RelV v r)(h: ∀s',Inv X ae σ H' s'->Q () s'):
 wpAny (model X.prog X.w) A (setItem (.ref a) u r) Q E s:=by
 rcases g with⟨kvs,k,e,ey,l,eH⟩|⟨kvs,k,b,e,ey,eb,l,eH⟩
 ·subst ey eH
  obtain⟨z,hd,vs,rel,dd⟩:=FY I.hok e
  have hz:vs.length<=sizeLine:=by rw[<-rel.length];exact z
  have hl:(mj kvs k v).length<=sizeLine:=by have:=mS kvs k v;omega
  refine wpAny_setItem_pairs (hsz:=hz) (AL ry) dd λh' dd' hs=>h _ ?_
  have he: ∃q,h'.get? a=some q:=let⟨q,_,_,hq,_⟩:=dd';⟨q,hq⟩
  exact vK I (by rw[e];exact True.intro) hs he (DV hl hd (rel.put k rv) dd')
 ·subst ey eH
  cases (show u=Value.ref b from ry)
  obtain⟨z,hd,xs,rel,dd⟩:=FM I.hok e
  have hz:xs.length<=sizeLine:=by rw[<-Paired.length rel];exact z
  have hl:(mj kvs k v).length<=sizeLine:=by have:=mS kvs k v;omega
  refine wpAny_setItem_heap (hsz:=hz) (tupleKind_room_in1 hu) (uB I.hok eb) dd λh' dd' hs=>h _ ?_
  obtain⟨q,es,ep,hq,h2,h3,h4,_,h5⟩:=dd'
  refine vK I (by rw[e];exact True.intro) hs ⟨q,hq⟩ ⟨hl,hd,_,(rel.put k eb rv).keeps λc ys ec=>?_,q,es,ep,hq,h2,h3,h4,h5⟩
  rw[aH (FI ec e (λz=>nomatch z))]
  exact ec
end
def Dx(i:Expr):Prop:= ∀ov iv,subscripted i false ov iv=operate [ov,iv] (getItem ov iv)
theorem CH {prog:Program}{w:World}{A:Around}{E:Value->Shared->Prop}{s:Shared}{env:Env}{value slice:Expr}{pos:Pos}{T id:String}{Q:Value->Shared->Prop}
 (hl:typeLookup (.type T) "__getitem__"=pure (some (.builtin id))) (hs:Dx slice)
 (h:wpAny (model prog w) A (eval value env) (λo s₁=>wpAny (model prog w) A (eval slice env) (λi s₂=>s₂.TypeIs o T/\wpAny (model prog w) A (getItem o i) Q E s₂) E s₁) E s):
 wpAny (model prog w) A (eval (.Subscript value slice pos) env) Q E s:=by
 refine Subscript_ (wpAny_mono h (λo s₁ h₁=>wpAny_mono h₁ (λi s₂ h₂=>?_) λ_ _ x=>x) λ_ _ x=>x)
 obtain⟨hT,h₂⟩:=h₂
 unfold subscriptTail;refine wpAny_bind ?_
 rw[getitemInPython_of_ne hT.not_modules];refine wpAny_bind (wpAny_specialOf hT hl ?_)
 have fin:wpAny (model prog w) A (subscripted slice false o i) (λr s₃=>wpAny (model prog w) A (letTemporaryGo value o r>>=λ_=>pure r) Q E s₃) E s₂:=by
  rw[hs o i];exact wpAny_operating (wpAny_mono h₂ (λr s₃ h₃=>wpAny_bind (wpAny_letTemporaryGo (wpAny_pure h₃))) λ_ _ x=>x)
 first
  |exact wpAny_pure (wpAny_bind fin)
  |exact wpAny_bind (wpAny_pure (wpAny_bind fin))
  |exact wpAny_bind fin
def Gp(td ty tv:TE):TS:=λD σ H=>tv σ H λv H1=>td σ H1 λx H2=>ty σ H2 λy H3=> ∃a H4,x=.ref a/\DPut H3 a y v H4/\D.nx σ H4
section
variable {X:Cx}{o i e value:Expr}{pos pos' tpos:Pos}{td ty tv:TE}
theorem BM(hu:X.A.units+1<cLine)(ho:PE X o td)(hi:PE X i ty)(hv:PE X value tv)(hs:swapsWith value (some (.Subscript o i pos')) pos.line X.env=pure false):
 PS X (.Assign [.Subscript o i pos'] value pos) (Gp td ty tv):=by
 intro ae s σ H D I h;refine wpAny_Assign_Subscript (bI (hv ae s σ H _ I h) λr s1 ⟨v,H1,I1,rv,q1⟩=>bI (ho ae s1 σ H1 _ I1 q1) λu s2 ⟨x,H2,I2,rx,q2⟩=>bI (hi ae s2 σ H2 _ I2 q2) λiv s3 ⟨y,H3,I3,ry,a,H4,ex,g,q3⟩=>?_) hs
 subst ex;obtain rfl:u=Value.ref a:=rx
 exact xM hu I3 g ry rv λs4 I4=>⟨σ,H4,I4,q3⟩
end
theorem yt {P:Program}{w:World}{H:Hp}(h:Heap)(hb:sysModules<h.objs.size):ObjOk P w H (h.push {cls:=.type "dict",data:=.dict #[]}) h.objs.size (.dT []):=
 ⟨Nat.zero_le _,beq_eq_false_iff_ne.mpr (Ne.symm (Nat.ne_of_lt hb)),[],.nil,_, #[],0,Heap.get?_push_size _ rfl,⟨rfl,rfl,rfl⟩,rfl,rfl,List.nodup_nil⟩
def E4:TE:=λ_ H Q=> ∀p,H p=none->Q (.ref p) (bM H p (.dT []))
section
variable {X:Cx}{pos:Pos}
theorem Aj:PE X (.Dict [] [] pos) E4:=λae s σ H Q I h=>
 wpAny_Dict_empty ⟨.ref s.heap.objs.size,_,I.laid (a:=s.heap.objs.size) (o:=.dT []) (t':=s.toks) (λ_ _ q=>Heap.get?_push_of_some _ q) (Nat.le_refl _) (yt s.heap I.big),rfl,h _ (I.hok.fresh (Nat.le_refl _))⟩
end
structure M2(X:Cx)(o:Expr)(m:Str)(apos:Pos)(e f:Expr)(cpos:Pos):Prop where
 base:attributeBase o m X.env (eval o X.env)=eval o X.env
 few:((backTo cpos (starEach [e,f] X.env)).all (λx=> !x.1)&&(backToKw cpos (keywordEach [] X.env)).all (λx=>x.1.isSome)
  &&decide (([e,f]:List Expr).length+([]:List Keyword).length+(if([]:List Keyword).isEmpty then 0 else 1)<30))=true
 line:(apos.endLine==cpos.line)=true
 trees:backTo cpos (starEach [e,f] X.env)=[(false,eval e X.env),(false,eval f X.env)]
def IB(H:Hp)(a:Addr):Prop:=(∃kvs,Rd H a (.dK kvs))\/ ∃kvs,Rd H a (.dT kvs)
theorem DM {X:Cx}{ae:List (Addr×Obj)}{σ:St}{H:Hp}{s:Shared}{a:Addr}(I:Inv X ae σ H s)(d:IB H a):
 s.TypeIs (.ref a) "dict"/\(∀b,Value.ref a=.ref b-> ∃ob,s.heap.get? b=some ob/\ob.dict=none)/\(a==sysModules)=false:=by
 rcases d with⟨kvs,e⟩|⟨kvs,e⟩
 ·obtain⟨_,hd,vs,_,dd⟩:=AO I.hok e
  refine⟨dd.typeIs,λb q=>?_,hd⟩
  cases q
  obtain⟨ob,_,_,h1,h2,_⟩:=dd
  exact⟨ob,h1,h2.2.1⟩
 ·obtain⟨_,hd,xs,_,dd⟩:=tE I.hok e
  refine⟨dd.typeIs,λb q=>?_,hd⟩
  cases q
  obtain⟨ob,_,_,h1,h2,_⟩:=dd
  exact⟨ob,h1,h2.2.1⟩
section
variable {X:Cx}{ae:List (Addr×Obj)}{σ:St}{H:Hp}{s:Shared}{a:Addr}{y d:V}{u r:Value}{o:Option V}{A:Around}{E:Value->Shared->Prop}
theorem Eg {Q:Value->Shared->Prop}(hu:A.units+1<cLine)(I:Inv X ae σ H s)(g:DGet H a y o)(ry:RelV y u)(rd:RelV d r)(h: ∀w' s',Inv X ae σ H s'->RelV (o.getD d) w'->Q w' s'):
 wpAny (model X.prog X.w) A (call (.builtin "dict.get") [.ref a,u,r]) Q E s:=by
 rcases g with⟨kvs,k,e,ey,l⟩|⟨kvs,k,b,e,ey,eb,l⟩
 ·subst ey
  obtain⟨z,hd,vs,rel,dd⟩:=AO I.hok e
  refine call_meetsIn PySem.F.slot_dict_get dd.typeIs PySem.F.entry_dict_get (PySem.F.args_dict_get_3 _ _ _) (meets_dict_get_default (ce X.prog X.w) a (AL ry) hd r) ⟨_,dd.mapOf,h _ _ (I.tok _) ?_⟩
  rw[l];exact(rel.val k).getD rd
 ·subst ey
  cases (show u=Value.ref b from ry)
  obtain⟨z,hd,xs,rel,dd⟩:=tE I.hok e
  refine call_meetsIn PySem.F.slot_dict_get dd.typeIs PySem.F.entry_dict_get (PySem.F.args_dict_get_3 _ _ _) (meetsH_dict_get_default (tupleKind (ce X.prog X.w)) a b hd r) ⟨tupleKind_room_in1 hu,k,xs,uB I.hok eb,dd,h _ _ (I.tok _) ?_⟩
  rw[l];exact(rel.val k).getD rd
end
def Ef(td ty tx:TE):TE:=λσ H Q=>td σ H λx H1=> ∃a,x=.ref a/\IB H1 a/\ty σ H1 λy H2=>tx σ H2 λz H3=> ∃o,DGet H3 a y o/\Q (o.getD z) H3
section
variable {X:Cx}{o e f:Expr}{apos cpos:Pos}{td ty tx:TE}
theorem Ab(hu:X.A.units+1<cLine)(ho:PE X o td)(he:PE X e ty)(hf:PE X f tx)(m:M2 X o "get" apos e f cpos):PE X (.Call (.Attribute o "get" apos) [e,f] [] cpos) (Ef td ty tx):=by
 intro ae s σ H Q I h;refine wpAny_Call_method m.base m.few m.line PySem.F.plainAttrs_dict PySem.F.slot_dict_get PySem.F.type_dict_get (bI (ho ae s σ H _ I h) λu s1 hq_=>?_)
 obtain⟨x,H1,I1,rx,a,ex,d,q1⟩:=hq_
 subst ex;obtain rfl:u=Value.ref a:=rx
 obtain⟨t1,t2,_⟩:=DM I1 d
 refine⟨t1,t2,?_⟩
 rw[m.trees];refine Calls.callWith_builtin rfl (Calls.evalArgs_plain (Calls.spliced_cons (bI (he ae s1 σ H1 _ I1 q1) λiv s2 ⟨y,H2,I2,ry,q2⟩=>
  Calls.spliced_cons (bI (hf ae s2 σ H2 _ I2 q2) λfv s3 ⟨z,H3,I3,rz,ov,g,q3⟩=>Calls.spliced_nil ?_))))
 exact Eg hu I3 g ry rz λw' s4 I4 rw'=>⟨_,H3,I4,rw',q3⟩
end
end L2
namespace PySem
open Sem (wp)
end PySem
namespace L2
open PySem PySem.Spec PyProof.Rows
end L2
namespace PySem
section
variable {prog:Program}{w:World}{A:Around}{E:Value->Shared->Prop}{s:Shared}
theorem pW {g g':Heap}{l:Addr}{us:Array Value}(t:g.IsList l us)(k: ∀o,g.get? l=some o->g'.get? l=some o):g'.IsList l us:=t.at k
theorem wz {it l:Addr}{us:Array Value}(ne:l≠it): ∀(n i:Nat) (s:Shared) (Q:List Value->Shared->Prop),s.heap.IsListIter it l i->s.heap.IsList l us->i+n<=us.size->
 (∀g,g.IsListIter it l (i+n)->Heap.SameBut it s.heap g->Q ((us.toList.drop i).take n) {s with heap:=g})->wpAny (model prog w) A (draw (.ref it) n) Q E s
 |0,i,s,Q,hi,_,_,q=>by
  show wpAny _ _ (pure []) Q E s;exact wpAny_pure (by simpa using q s.heap hi (Heap.SameBut.refl ..))
 |n+1,i,s,Q,hi,hl,le,q=>by
  have lt:i<us.size:=by omega
  show wpAny _ _ (pyNext (.ref it)>>=_) Q E s;refine wpAny_bind (wpAny_pyNext_list_item hi hl (x:=us[i]) (by simp[lt]) λg hi' b=>wpAny_bind (wpAny_holding (wz ne n (i+1) _ _ hi' (pW hl λo e=>b.extBut _ _ ne e) (by omega) λg2 hi2 b2=>wpAny_pure ?_)))
  have e:us.toList.drop i=us[i]::us.toList.drop (i+1):=by simp[List.drop_eq_getElem_cons,lt]
  have:=q g2 (by rw[show i+(n+1)=i+1+n by omega];exact hi2) (b.trans b2)
  rw[e,List.take_succ_cons] at this;exact this
theorem l2_unpackL {l:Addr}{us:Array Value}{ts:List (Bool×(Value->Sem Unit))}{Q:Unit->Shared->Prop}(hA:A.handled=none)(hl:s.heap.IsList l us)(hn:ts.length=us.size)(hs:ts.findIdx? (·.1)=none)
 (h: ∀g,Heap.ExtBut s.heap.objs.size s.heap g->wpAny (model prog w) A (assignInOrder (ts.map (·.2)) us.toList) Q E {s with heap:=g}):wpAny (model prog w) A (unpack (.ref l) ts) Q E s:=by
 have ne:l≠s.heap.objs.size:=by obtain⟨o,ho,_⟩:=hl;exact Nat.ne_of_lt (Heap.lt_size ho)
 unfold unpack;rw[hn,hs];refine wpAny_bind (wpAny_holding ?_)
 unfold unpackItems;refine wpAny_bind ?_
 unfold notIterableAtAll;refine wpAny_bind (wpAny_specialOf hl.typeIs F.slot_list_iter.lookup (wpAny_pure ?_))
 simp only[Bool.false_eq_true,if_false];refine wpAny_bind (wpAny_holding (wpAny_pyIter_list hl ?_))
 refine wpAny_bind (wpAny_holding (wz ne us.size 0 _ _ ⟨_,Heap.get?_push_size _ rfl,rfl,rfl⟩ (hl.push _) (by omega) λg hi b=>?_))
 have all:List.take us.size (List.drop 0 us.toList)=us.toList:=by rw[List.drop_zero];exact List.take_of_length_le (by simp)
 rw[all,if_neg (by simp)]
 refine wpAny_bind (wpAny_holding (wpAny_pyNext_list_end hA hi (pW (hl.push _) λo e=>b.extBut _ _ ne e) (by simp) λg2 b2=>?_))
 simp only[Option.isSome_none,Bool.false_eq_true,if_false];exact wpAny_pure (h g2 λc o hc e=>b2 c o hc (b.extBut c o hc (Heap.get?_push_of_some _ e)))
end
end PySem
namespace L2
open PySem PySem.Spec PyProof.Rows
section
variable {X:Cx}{c:Ct}{es:List Expr}{pos:Pos}
def HG(K:W.Frag)(n:Nat)(t:xo):TG:=λv σ H Q=> ∃a xs,v=.ref a/\SqL K H a xs/\xs.length=n/\t xs σ H Q
theorem Du {k:Nat}{t:xo}{n:Nat}(hc:X.calm=true)(h:PGs X es t)(hn:(assignEach es X.env).length=n:=by rfl)(hst:(assignEach es X.env).findIdx? (·.1)=none:=by rfl):PG X (.Tuple es k pos) (HG X.K n t):=by
 intro ae s σ H v u Q I r hw;obtain⟨a,xs,e1,hq,hl,hw⟩:=hw
 subst e1;cases r
 obtain⟨its,rv,ht,hz⟩:=I.list hq
 rw[assign_Tuple];refine wpAny_bind (wpAny_standAt (PySem.l2_unpackL (I.ok.hd hc) ht.isList (by simp[hn,<-hl,rv.length]) hst λg hx=>?_))
 have I1:Inv X ae σ H {s with heap:=g}:=I.kept (t':=s.toks) λb o e=>hx b o (Nat.ne_of_lt (Heap.lt_size e)) e
 exact h ae _ σ H xs _ Q I1 (by simpa using rv) hw
def gL(n:Nat)(gs:vH):FG:=λd ρ=>match d with
 | .lst ds=>if ds.length=n then gs ds ρ else none
 |_=>none
theorem v4 {gs:vH}{kk n:Nat}(hc:X.calm=true)(h:GX X c es gs)(hn:(assignEach es X.env).length=n:=by rfl)(hst:(assignEach es X.env).findIdx? (·.1)=none:=by rfl):oP X c (.Tuple es kk pos) (gL n gs):=λhid ρ d=>
 PG.imp (Du hc (rP λds=>h hid ρ ds) hn hst) λv σ H Q hq_=>by
  obtain⟨sr,r,ρ',e,q⟩:=hq_
  unfold gL at e;split at e
  ·split at e
   ·cases r with
    |lst h1 h2=>have h1:=SqL.of (K:=X.K) h1;exact⟨_,_,rfl,(dY _ _).seq h1,by rw[h2.length];assumption,_,sr,h2,ρ',e,q⟩
   ·cases e
  ·cases e
end
def Dl(K:W.Frag):R2:=λx y H Q=> ∃a b xs ys,x=.ref a/\y=.ref b/\SqT K H a xs/\SqT K H b ys/\xs.length+ys.length<=sizeLine/\
 (xs=[]->Q (.ref b) H)/\(xs≠[]->ys=[]->Q (.ref a) H)/\(xs≠[]->ys≠[]-> ∀p,H p=none->Q (.ref p) (bM H p (.tup (xs++ys))))
section
variable {X:Cx}{c:Ct}{a b:Expr}{f g:FE}{pos:Pos}
theorem Ba:jL X (binaryOp .Add) (Dl X.K):=by
 intro ae s σ H x y v u Q I rx ry h;obtain⟨a,b,xs,ys,e1,e2,ha,hb,hz,q0,q1,q2⟩:=h
 by_cases hx:xs=[]
 ·subst e1 e2
  cases rx
  cases ry
  obtain⟨its,r1,p1,_⟩:=I.tuple ha
  obtain⟨its2,r2,p2,_⟩:=I.tuple hb
  obtain⟨m,F⟩:=I.fr
  have h0:its=[]:=r1.nil_iff.mpr hx
  exact add_tuples F News.nil p1 p2 (λ_=>⟨.ref b,H,I,rfl,q0 hx⟩) (λz=>absurd h0 z) (λz=>absurd h0 z) (by rw[<-r1.length,<-r2.length];exact hz)
 ·exact Cw ae s σ H x y v u Q I rx ry ⟨a,b,xs,ys,e1,e2,ha,hb,hx,hz,q1 hx,q2 hx⟩
def j6:D->D->Option D
 | .tup xs,.tup ys=>if xs.length+ys.length<=sizeLine then some (.tup (xs++ys)) else none
 |_,_=>none
theorem A7 {K:W.Frag}:mK K .s (Dl K) j6:=by
 intro H hid v u x y d Q hf h r1 r2 q;unfold j6 at h;split at h
 ·split at h
  ·rename_i hc
   cases h
   obtain⟨a,xs,rfl,h0,h1,h2⟩:=r1.tup
   obtain⟨b,ys,rfl,g0,g1,g2⟩:=r2.tup
   refine⟨a,b,xs,ys,rfl,rfl,h1,g1,by rw[h2.length,g2.length];exact hc,λz=>?_,λ_ z=>?_,λ_ z p hp=>?_⟩
   ·subst z;cases h2
    exact q _ H (Same.refl _) (.tup g0 g2)
   ·subst z;cases g2
    refine q _ H (Same.refl _) ?_
    rw[List.append_nil];exact .tup h0 h2
   ·exact q _ _ (aW hp _) (ly hp (hf p hp) (h2.append g2))
  ·cases h
 ·cases h
theorem wI {k1 k2:Kd}(ha:DP X c k1 a f)(hb:DP X c k2 b g):DP X c .s (.BinOp a .Add b pos) (ak j6 f g):=mN Ba A7 ha hb
end
section
variable {K:W.Frag}{c:Ct}{hid:bK}{ρ:aF}{σ:St}{H:Hp}{a:Addr}
theorem SR.setD {b:Ob}(h:SR K c hid ρ σ H)(ho:ObOk K c hid H a b)(no: ∀i:Nat,Ow ρ[i]? ->σ[i]? ≠some (some (.ref a)))(i:Nat):
 SR K c hid (ρ.set i (.ob b)) (σ.set i (some (.ref a))) H:=by
 refine⟨h.tr,h.ht,h.h0,h.kp,h.t0,h.c0,h.m0,by simp[h.len],λj s q=>?_,λj l z n o1 o2 q1 q2=>?_⟩
 ·by_cases e:j=i
  ·subst e
   have lt:j<ρ.length:=by
    have:=(List.getElem?_eq_some_iff.mp q).1
    simpa using this
   rw[List.getElem?_set_self lt] at q;cases q
   exact⟨a,List.getElem?_set_self (by rw[h.len];exact lt),ho⟩
  ·rw[List.getElem?_set_ne (Ne.symm e)] at q
   have w:=h.sl j s q
   have es:(σ.set i (some (V.ref a)))[j]? =σ[j]? :=List.getElem?_set_ne (Ne.symm e)
   cases s with
   |no=>trivial
   |v d=>obtain⟨x,h1,h2⟩:=w;exact⟨x,es.trans h1,h2⟩
   |own ds=>obtain⟨a,xs,h1,h2⟩:=w;exact⟨a,xs,es.trans h1,h2⟩
   |arg ds=>obtain⟨a,xs,h1,h2⟩:=w;exact⟨a,xs,es.trans h1,h2⟩
   |ob b=>obtain⟨a,h1,h2⟩:=w;exact⟨a,es.trans h1,h2⟩
 ·by_cases e1:j=i
  ·subst e1
   have e2:l≠j:=λe=>n e.symm
   rw[List.getElem?_set_ne (Ne.symm e2)] at o2 q2
   by_cases lt:j<σ.length
   ·rw[List.getElem?_set_self lt] at q1;cases q1;exact no l o2 q2
   ·rw[List.getElem?_eq_none (by simpa using lt)] at q1;cases q1
  ·rw[List.getElem?_set_ne (Ne.symm e1)] at o1 q1
   by_cases e2:l=i
   ·subst e2
    by_cases lt:l<σ.length
    ·rw[List.getElem?_set_self lt] at q2;cases q2;exact no j o1 q1
    ·rw[List.getElem?_eq_none (by simpa using lt)] at q2;cases q2
   ·rw[List.getElem?_set_ne (Ne.symm e2)] at o2 q2
    exact h.ap j l z n o1 o2 q1 q2
end
open PySem PySem.W PySem.Spec PyProof.Rows
section
variable {prog:Program}{w:World}{A:Around}{E:Value->Shared->Prop}{s:Shared}
theorem vh {T:String}{r d:Addr}{n:Nat}{P:Nat->Value->Prop}{OK:Heap->Prop}{R:List Value->Shared->Prop}(src:KdlSrc prog w T r d n P OK)(calm:A.handled=none)(good:OK s.heap)(few:n<=sizeLine)
 (q: ∀(g:Heap) (tk:Nat) (us:Array Value),(∀b o,s.heap.get? b=some o->g.get? b=some o)->s.heap.objs.size<g.objs.size->ItemsOf P us n->R us.toList {s with heap:=g,toks:=tk}):wpAny (model prog w) A (collect (.ref r)) R E s:=by
 obtain⟨rl,dl⟩:=src.there _ good
 unfold collect;refine wpAny_bind (wpAny_runValue (codeAny_builtin F.entry_proto_collect ?_))
 rw[Around.under_plainId F.plain_proto_collect _];show wpAny _ A.in1 (newList []>>=λz=>again (.builtin "list.__iadd__" ⟨[z,.ref r],[]⟩)) _ _ s
 refine wpAny_bind (wpAny_newObj_type (wpAny_pure ⟨plainId_quiet F.plain_list_iadd _,codeAny_builtin F.entry_list_iadd ?_⟩))
 rw[Around.under_plainId F.plain_list_iadd _];show wpAny _ A.in1 (Builtin.List.listExtendWith (.ref s.heap.objs.size) (.ref r) (.ref s.heap.objs.size)) _ _ _;have last: ∀(g:Heap) (tk:Nat) (us:Array Value) (m:Nat),(∀b o,s.heap.get? b=some o->g.get? b=some o)->g.get? s.heap.objs.size=some {cls:=.type "list",dict:=none,data:=.seq us m,slots:= #[]}->ItemsOf P us n->
  wpAny (model prog w) A (do
   match (<-load s.heap.objs.size).data with
    |Data.seq xs _=>pure xs.toList
    |_=>unsupported "internal:collect") R E {s with heap:=g,toks:=tk}:=λg tk us m kg hg hi=>wpAny_bind (wpAny_load hg (wpAny_pure (q g tk us kg (Heap.lt_size hg) hi)))
 have ext:=kdl_extend (A:=A) (s:={s with heap:=s.heap.push {cls:=.type "list",data:=.seq ([]:List Value).toArray}})
  (R:=λz t=> ∃(g:Heap) (tk:Nat) (us:Array Value) (m:Nat),z=.ok (.ret (.ref s.heap.objs.size))/\t={s with heap:=g,toks:=tk}/\(∀b o,s.heap.get? b=some o->g.get? b=some o)/\g.get? s.heap.objs.size=some {cls:=.type "list",dict:=none,data:=.seq us m,slots:= #[]}/\ItemsOf P us n)
  src calm (src.keep _ _ good λb _ o e=>Heap.get?_push_of_some _ e) s.heap.objs.size (Nat.ne_of_gt rl) (Nat.ne_of_gt dl) (.ref s.heap.objs.size) 0 (Heap.get?_push_size _ rfl)
  (λg tk us m kg hg hi=>⟨g,tk,us,m,rfl,rfl,λb o e=>kg b o (Nat.ne_of_lt (Heap.lt_size e)) (Heap.get?_push_of_some _ e),hg,hi⟩) few
 refine wpAny_mono ext (λz t h=>?_) λz t h=>by obtain⟨_,_,_,_,e,_⟩:=h;cases e
 cases z with
 |done f=>obtain⟨g,tk,us,m,e,rfl,kg,hg,hi⟩:=h;cases e;exact last g tk us m kg hg hi
 |again c=>exact⟨h.1,codeAny_mono h.2 λz t' hr=>by obtain⟨g,tk,us,m,rfl,rfl,kg,hg,hi⟩:=hr;exact last g tk us m kg hg hi⟩
end
section
variable {X:Cx}{c:Ct}{pos p py:Pos}{x y:Str}
theorem pC {K:W.Frag}{F:Hp}: ∀ms:List Int,Reps K F (ms.map V.int) (ms.map D.int)
 | []=>.nil
 |m::ms=>.cons .int (pC ms)
end
mutual
def LF:D->Bool
 | .lst _=>false
 | .tup ds=>Bq ds
 | .scr ds=>Bq ds
 |_=>true
def Bq:List D->Bool
 | []=>true
 |d::ds=>LF d&&Bq ds
end
theorem zc {K:W.Frag}{H:Hp}{g g':bK}(h: ∀t,g' t=false->g t=true->tV (H t)=true){a:Addr}{xs:List V}(s:SqT K (vw H g') a xs):SqT K (vw H g) a xs:=by
 rcases s with(s|⟨o,s⟩)|s
 ·obtain⟨h1,h2⟩:=vw_some.mp s
  refine .inl (.inl (vw_some.mpr ⟨?_,h2⟩))
  cases e:g a with
  |false=>rfl
  |true=>have:=h a h1 e;rw[h2] at this;cases this
 ·obtain⟨h1,h2⟩:=vw_some.mp s
  refine .inl (.inr ⟨o,vw_some.mpr ⟨?_,h2⟩⟩)
  cases e:g a with
  |false=>rfl
  |true=>have:=h a h1 e;rw[h2] at this;cases this
 ·exact .inr s
theorem zX {K:W.Frag}{H:Hp}{g g':bK}(h: ∀t,g' t=false->g t=true->tV (H t)=true){a:Addr}{xs:List V}(s:SqR K (vw H g') a xs):SqR K (vw H g) a xs:=by
 rcases s with⟨o,s⟩|s
 ·obtain⟨h1,h2⟩:=vw_some.mp s
  refine .inl ⟨o,vw_some.mpr ⟨?_,h2⟩⟩
  cases e:g a with
  |false=>rfl
  |true=>have:=h a h1 e;rw[h2] at this;cases this
 ·exact .inr s
mutual
theorem sa {K:W.Frag}{H:Hp}{g g':bK}(h: ∀t,g' t=false->g t=true->tV (H t)=true): ∀ {v:V} {d:D},Rep K (vw H g') v d->LF d=true->Rep K (vw H g) v d
 |_,_,.non,_=>.non
 |_,_,.bl,_=>.bl
 |_,_,.int,_=>.int
 |_,_,.str,_=>.str
 |_,_,.tup s r,l=>.tup (zc h s) (h7 h r (by unfold LF at l;exact l))
 |_,_,.scr s r,l=>.scr (zX h s) (h7 h r (by unfold LF at l;exact l))
 |_,_,.lst s r,l=>by unfold LF at l;cases l
theorem h7 {K:W.Frag}{H:Hp}{g g':bK}(h: ∀t,g' t=false->g t=true->tV (H t)=true): ∀ {v:List V} {d:List D},Reps K (vw H g') v d->Bq d=true->Reps K (vw H g) v d
 |_,_,.nil,_=>.nil
 |_,_,.cons r rs,l=>by
  unfold Bq at l;rw[Bool.and_eq_true] at l;exact .cons (sa h r l.1) (h7 h rs l.2)
end
def vj:Sl->Sl->Option Sl
 | .no,_=>some .no
 | .v d,_=>some (.v d)
 | .own _,.own b=>if Bq b=true then some (.own b) else none
 | .arg _,.arg b=>if Bq b=true then some (.arg b) else none
 |_,_=>none
def j0:aF->aF->Option aF
 | [],_=>some []
 |s::r,s2::r2=>(vj s s2).bind λs3=>(j0 r r2).map (s3:: ·)
 |_::_,[]=>none
theorem sG: ∀ {ρ ρ2 ρ3:aF},j0 ρ ρ2=some ρ3->ρ3.length=ρ.length
 | [],_,_,h=>by cases h;rfl
 |s::r,[],_,h=>by cases h
 |s::r,s2::r2,ρ3,h=>by
  obtain⟨s3,h1,h2⟩:=Option.bind_eq_some_iff.mp (show(vj s s2).bind (λs3=>(j0 r r2).map (s3:: ·))=some ρ3 from h)
  obtain⟨r3,h3,h4⟩:=Option.map_eq_some_iff.mp h2
  subst h4;simp[sG h3]
theorem nu: ∀ {ρ ρ2 ρ3:aF} {j:Nat} {s3:Sl},j0 ρ ρ2=some ρ3->ρ3[j]? =some s3-> ∃s,ρ[j]? =some s/\(s3=s/\(s=.no\/ ∃d,s=.v d)\/ ∃s2,ρ2[j]? =some s2/\s3=s2/\((∃a b,s=.own a/\s2=.own b/\Bq b=true)\/ ∃a b,s=.arg a/\s2=.arg b/\Bq b=true))
 | [],_,_,_,_,h,e=>by cases h;simp at e
 |s::r,[],_,_,_,h,_=>by cases h
 |s::r,s2::r2,ρ3,j,x,h,e=>by
  obtain⟨s3,h1,h2⟩:=Option.bind_eq_some_iff.mp (show(vj s s2).bind (λs3=>(j0 r r2).map (s3:: ·))=some ρ3 from h)
  obtain⟨r3,h3,h4⟩:=Option.map_eq_some_iff.mp h2
  subst h4;cases j with
  |zero=>
   have e:s3=x:=by simpa using e
   subst e;refine⟨s,rfl,?_⟩
   unfold vj at h1;split at h1
   ·cases h1;exact .inl ⟨rfl,.inl rfl⟩
   ·cases h1;exact .inl ⟨rfl,.inr ⟨_,rfl⟩⟩
   ·split at h1
    ·cases h1;exact .inr ⟨_,rfl,rfl,.inl ⟨_,_,rfl,rfl, ‹_›⟩⟩
    ·cases h1
   ·split at h1
    ·cases h1;exact .inr ⟨_,rfl,rfl,.inr ⟨_,_,rfl,rfl, ‹_›⟩⟩
    ·cases h1
   ·cases h1
  |succ j=>
   obtain⟨s',z1,z2⟩:=nu (j:=j) h3 (by simpa using e)
   exact⟨s',by simpa using z1,by simpa using z2⟩
section
variable {K:W.Frag}{c:Ct}{hid1 hid2 hidD:bK}{ρ ρ2 ρ3:aF}{σ σ2:St}{H H':Hp}
theorem oJ(e:j0 ρ ρ2=some ρ3){j:Nat}(o:Ow ρ3[j]?):Ow ρ[j]? /\Ow ρ2[j]? :=by
 cases z:ρ3[j]? with
 |none=>rw[z] at o;exact o.elim
 |some s3=>
  rw[z] at o;obtain⟨s,h1,h2⟩:=nu e z
  rcases h2 with⟨rfl,rfl|⟨d,rfl⟩⟩|⟨s2,h3,rfl,⟨a,b,rfl,rfl,_⟩|⟨a,b,rfl,rfl,_⟩⟩
  ·exact o.elim
  ·exact o.elim
  ·exact⟨by rw[h1];trivial,by rw[h3];trivial⟩
  ·exact⟨by rw[h1];trivial,by rw[h3];trivial⟩
theorem SR.mix(h:SR K c hid1 ρ σ H)(w:Same (vw H hid1) (vw H' hidD))(h2:SR K c hid2 ρ2 σ2 H')(tr:Fn hidD H')(h0: ∀b,c.hid₀ b=true->hidD b=true)(le: ∀b,hid2 b=true->hidD b=true)
 (lo: ∀t,hid2 t=false->hidD t=true->tV (H' t)=true) (e:j0 ρ ρ2=some ρ3) (ow: ∀j:Nat,Ow ρ[j]? ->Ow ρ2[j]? ->σ2[j]? =σ[j]?):SR K c hidD ρ3 σ H':=by
 refine⟨tr.1,tr.2,h0,h2.kp,h2.t0,h.c0,h.m0,by rw[sG e];exact h.len,λj s3 z=>?_,λi j a n o1 o2=>h.ap i j a n (oJ e o1).1 (oJ e o2).1⟩
 obtain⟨s,h1,hh⟩:=nu e z
 rcases hh with⟨rfl,rfl|⟨d,rfl⟩⟩|⟨s2,h3,rfl,⟨a,b,rfl,rfl,lf⟩|⟨a,b,rfl,rfl,lf⟩⟩
 ·trivial
 ·obtain⟨x,q1,q2⟩:=h.sl j _ h1
  exact⟨x,q1,q2.mono w⟩
 ·obtain⟨a',xs,q1,q2,q3,q4,q5⟩:=h2.sl j _ h3
  rw[ow j (by rw[h1];trivial) (by rw[h3];trivial)] at q1
  exact⟨a',xs,q1,q2,le _ q3,q4,h7 lo q5 lf⟩
 ·obtain⟨a',xs,q1,q2,q3,q4,q5⟩:=h2.sl j _ h3
  rw[ow j (by rw[h1];trivial) (by rw[h3];trivial)] at q1
  exact⟨a',xs,q1,q2,le _ q3,q4,h7 lo q5 lf⟩
end
def eK(g:FG)(p:FT)(f:GE):List D->aF->Option (List D×aF)
 | [],ρ=>some ([],ρ)
 |d::r,ρ=>(g d ρ).bind λρ1=>(p ρ1).bind λb=>if b=true then(f ρ1).bind λq=>if LF q.1=true then(j0 ρ q.2).bind λρ3=>(eK g p f r ρ3).map λz=>(q.1::z.1,z.2) else none
  else eK g p f r ρ
def fc(m:Nat)(gi:GA)(g:FG)(p:FT)(f:GE):GE:=λρ=>(gi ρ).bind λz=>if z.1.length<=sizeLine then(eK g p f z.1 (z.2++List.replicate m .no)).bind λy=>(j0 z.2 y.2).map λρ'=>(.lst y.1,ρ') else none
theorem sJ {m:Nat}{gi:GA}{g:FG}{p:FT}{f:GE}{ρ ρ':aF}{d:D}(h:fc m gi g p f ρ=some (d,ρ')): ∃ds ρ0 ys ρF,gi ρ=some (ds,ρ0)/\ds.length<=sizeLine/\eK g p f ds (ρ0++List.replicate m .no)=some (ys,ρF)/\j0 ρ0 ρF=some ρ'/\d=.lst ys:=by
 obtain⟨⟨ds,ρ0⟩,h1,h2⟩:=Option.bind_eq_some_iff.mp (show(gi ρ).bind _=_ from h)
 split at h2
 ·obtain⟨⟨ys,ρF⟩,h3,h4⟩:=Option.bind_eq_some_iff.mp h2
  obtain⟨ρ1,h5,h6⟩:=Option.map_eq_some_iff.mp h4
  cases h6
  exact⟨ds,ρ0,ys,ρF,h1, ‹_›,h3,h5,rfl⟩
 ·cases h2
section
variable {X:Cx}{c:Ct}{elt tg iter:Expr}{ifs:List Expr}{scope:Scope}{pos spos py:Pos}{N':List Str}{m:Nat}{gi:GA}{g:FG}{p:FT}{f:GE}{y:Str}
structure CLE(Y:Cx)(K:W.Frag)(c:Ct)(hid:bK)(ρF ρE:aF)(nN:Nat)(H:Hp)(D0:Addr)(fp:List Addr)(tn:Nat->Heap->Prop)(g:FG)(p:FT)(f:GE)(ds ys:List D)(σ3:St)(n i:Nat)(xs:List V)(ad:List D)(ρ:aF)(σ':St)(H':Hp)(s':Shared):Prop where
 e:n=ds.length-i
 hi:i<=ds.length
 I:Inv Y [] σ' H' s'
 st:tn i s'.heap
 fr: ∀b∈fp,H' b=none
 sr:SR K c (aZ hid D0) ρ σ' H'
 kp:Kept hid H H'
 ac:H' D0=some (.lst xs)
 rp:Reps K (vw H' (aZ hid D0)) xs ad
 w:Same (vw H hid) (vw H' (aZ hid D0))
 hl:xs.length<=i
 na: ∀i:Nat,Ow ρ[i]? ->σ'[i]? ≠some (some (.ref D0))
 ok:OwK ρF ρ σ3 σ'
 no: ∀(j:Nat) (s:Sl),nN<=j->ρ[j]? =some s->s=.no
 go: ∃rest,eK g p f (ds.drop i) ρ=some (rest,ρE)/\ad++rest=ys
theorem uj(hcalm:X.calm=true)(hT:jA X.N.length g)
 (hg: ∀C s₀ H₀ ex,oP (aE X N' scope C s₀ H₀ ex) c tg g) (hp: ∀C s₀ H₀ ex,rM (aE X N' scope C s₀ H₀ ex) c ifs p) (he: ∀C s₀ H₀ ex,DE (aE X N' scope C s₀ H₀ ex) c .s elt f)
 {σ3:St} {H H3:Hp} {s3 s4:Shared} {hid:bK} {ρF ρE:aF} {J:It} {it D0 C:Addr} {fp:List Addr} {tn:Nat->Heap->Prop} {ds ys:List D} {R:Result->Shared->Prop}
 (hno: ∀(j:Nat) (s:Sl),X.N.length<=j->ρF[j]? =some s->s=.no)
 (I:Inv (aE X N' scope C s3 H3 fp) [] σ3 H3 s4) (sr:SR X.K c (aZ hid D0) ρF σ3 H3) (h0: ∀b,c.hid₀ b=true->hid b=true) (nh:hid D0=false) (h00:c.H₀ D0=none) (na: ∀i:Nat,Ow ρF[i]? ->σ3[i]? ≠some (some (.ref D0))) (hacc:H3 D0=some (.lst [])) (sm:Kept hid H H3) (nD:H D0=none) (wv:Same (vw H hid) (vw H3 (aZ hid D0))) (T:Turn X.prog X.w X.K tg J fp it tn) (st:tn 0 s4.heap) (hF: ∀b∈fp,H3 b=none)
 (io:ItOk X.K (vw H hid) J ds) (hz:ds.length<=sizeLine) (hc:eK g p f ds ρF=some (ys,ρE))
 (hR: ∀(s':Shared) (σ':St) (H':Hp) (xs:List V),Inv (aE X N' scope C s3 H3 fp) [] σ' H' s'->SR X.K c (aZ hid D0) ρE σ' H'->OwK ρF ρE σ3 σ'->Kept hid H H'->H' D0=some (.lst xs)->Reps X.K (vw H' (aZ hid D0)) xs ys->Same (vw H hid) (vw H' (aZ hid D0))->R (.ok .next) s'):
 codeAny (model X.prog X.w) X.A (.compLoop (.ListComp elt [⟨tg,iter,ifs,0⟩] scope pos) 0 (.ref it) (.ref D0) (compEnvC scope (ma X.env.cells scope C) C X.env)) R s4:=by
 have stat: ∀ {ae:List (Addr×Obj)} {H':Hp},(∀q∈ae,q.1∉fp)->(∀b∈fp,H' b=none)-> ∀b∈fp,iY (aE X N' scope C s3 H3 fp) ae H' b:=λ{ae H'} hpn hn b hb=>
  ⟨hn b hb,(I.ok.exf b hb).1,I.ok.exfs b hb,.inl hb,(I.ok.exf b hb).2,λq hq e=>hpn q (by have hq':q∈([]:List (Addr×Obj))++ae:=hq;simpa using hq') (by rw[e];exact hb)⟩
 have no: ∀q∈([]:List (Addr×Obj)),q.1∉fp:=λq hq=>nomatch hq
 refine eZ (λn s'=> ∃(i:Nat) (xs:List V) (ad:List D) (ρ:aF) (σ':St) (H':Hp),CLE (aE X N' scope C s3 H3 fp) X.K c hid ρF ρE X.N.length H D0 fp tn g p f ds ys σ3 n i xs ad ρ σ' H' s') ?_ ds.length
  ⟨0,[],[],ρF,σ3,H3,by simp,Nat.zero_le _,I,st,hF,sr,sm,hacc,.nil,wv,Nat.zero_le _,na,λi o=>⟨o,rfl⟩,hno,ys,by simpa using hc,rfl⟩
 rintro n s5 ⟨i,xs,ad,ρ,σ5,H5,rfl,hi,I5,st5,f5,sr5,sm5,ac5,rp5,w5,hl5,na5,ok5,hno5,rest,hc5,hy5⟩
 have wH:Same (vw H hid) H5:=w5.trans (dY _ _)
 by_cases hlt:i<ds.length
 ·have hd:ds[i]? =some ds[i]:=List.getElem?_eq_getElem hlt
  have e2:ds.drop i=ds[i]::ds.drop (i+1):=List.drop_eq_getElem_cons hlt
  rw[e2] at hc5;unfold eK at hc5;obtain⟨go,yl⟩:=io.1 i ds[i] H5 hd wH
  refine bI (T.item (aE X N' scope C s3 H3 fp) rfl rfl rfl hcalm i [] s5 σ5 H5 (λ_ _=>False) I5 (stat no f5) st5 go) λr s6 hq_=>?_
  obtain⟨u,hr,h6⟩:=hq_
  subst hr;refine bI h6 λ_ s7 hq_=>?_
  obtain⟨x,H7,I7,r7,y7,st7,f7⟩:=hq_
  obtain⟨s7',rp⟩:=yl x H7 y7
  have rx:=rp (aZ hid D0) sr5.tr w5
  have I7':=I7.pinned (stat no f7) (T.obj _ _ st7)
  obtain⟨ρ1,e3,hc5⟩:=Option.bind_eq_some_iff.mp hc5
  obtain⟨b,e4,hc5⟩:=Option.bind_eq_some_iff.mp hc5
  obtain⟨tl1,tl2⟩:=hT _ _ _ e3
  have fg: ∀ {σ':St} {H':Hp},SR X.K c (aZ hid D0) ρ1 σ' H'->SR X.K c (aZ hid D0) ρ σ' H':=λ{σ' H'} z=>z.forget tl1 λj s e=>by
   by_cases hj:j<X.N.length
   ·exact .inr ((tl2 j hj).trans e)
   ·exact .inl (hno5 j s (by omega) e)
  have owl: ∀j:Nat,Ow ρ[j]? ->Ow ρ1[j]? :=λj o=>by
   by_cases hj:j<X.N.length
   ·rw[tl2 j hj];exact o
   ·exfalso
    cases z:ρ[j]? with
    |none=>rw[z] at o;exact o
    |some s=>rw[z] at o;rw[hno5 j s (by omega) z] at o;exact o
  have keepT: ∀ {σ':St} {H':Hp} {s':Shared},Inv (aE X N' scope C s3 H3 fp) ([]++ku fp s7.heap) σ' H' s'->tn (i+1) s'.heap/\ ∀b∈fp,H' b=none:=λ{σ' H' s'} J'=>by
   refine⟨T.keep _ _ _ st7 λb hb o e=>(J'.pin (b,o) (List.mem_append_right _ (List.mem_append_right _ (dh hb e)))).1,λb hb=>?_⟩
   obtain⟨o,e,_⟩:=T.obj _ _ st7 b hb
   exact(J'.pin (b,o) (List.mem_append_right _ (List.mem_append_right _ (dh hb e)))).2.1
  refine bI (hg C s3 H3 fp (aZ hid D0) ρ ds[i] _ s7 σ5 H7 x u (λσ' H'=>H'=H7/\SR X.K c (aZ hid D0) ρ1 σ' H7/\OwK ρ ρ1 σ5 σ') I7' r7 ⟨sr5.ext s7',rx,ρ1,e3,λσ' z o=>⟨rfl,z,o⟩⟩) λ_ s8 hq_=>?_
  obtain⟨σ8,H8,I8,e8,q8,o8⟩:=hq_
  subst e8;have na8: ∀i:Nat,Ow ρ1[i]? ->σ8[i]? ≠some (some (.ref D0)):=λj o=>by
   rw[(o8 j o).2];exact na5 j (o8 j o).1
  refine bI (hp C s3 H3 fp (aZ hid D0) ρ1 _ s8 σ8 H8 (λb' H'=>b'=b/\Same H8 H') I8 ⟨q8,b,e4,λH' s'=>⟨rfl,s'⟩⟩) λok s9 hq_=>?_
  obtain⟨H9,I9,e9,sm9⟩:=hq_
  subst e9;have w9:Same (vw H5 (aZ hid D0)) (vw H9 (aZ hid D0)):=aQ (s7'.trans sm9)
  have k9:Kept hid H H9:=sm5.trans (.of (s7'.trans sm9))
  have a9:H9 D0=some (.lst xs):=sm9 _ _ (s7' _ _ ac5)
  have ok8:OwK ρF ρ σ3 σ8:=λj o=>⟨(ok5 j o).1,by rw[(o8 j (owl j o)).2];exact(ok5 j o).2⟩
  cases ok with
  |false=>
   rw[if_neg (by decide)] at hc5
   obtain⟨k1,k2⟩:=keepT I9
   exact⟨ds.length- (i+1),by omega,i+1,xs,ad,ρ,σ8,H9,rfl,hlt,I9.unpinned,k1,k2,fg (q8.ext sm9),k9,a9,rp5.mono w9,w5.trans w9,by omega,λj o=>na8 j (owl j o),ok8,hno5,rest,hc5,hy5⟩
  |true=>
   rw[if_pos rfl] at hc5;obtain⟨⟨yv,ρ2⟩,e5,hc5⟩:=Option.bind_eq_some_iff.mp hc5
   split at hc5
   ·rename_i lf
    obtain⟨ρ3,e6,hc5⟩:=Option.bind_eq_some_iff.mp hc5
    obtain⟨⟨rest',ρx⟩,e7,hc5⟩:=Option.map_eq_some_iff.mp hc5
    cases hc5
    show wpAny (model X.prog X.w) X.A (eval elt _) _ _ s9;have srs:SR X.K c hid ρ1 σ8 H9:=(q8.ext sm9).show h0 na8
    refine bI (he C s3 H3 fp hid ρ1 _ s9 σ8 H9 (λv H'=>PostE X.K c hid .s ρ2 σ8 H9 H' v yv) I9 ⟨srs,yv,ρ2,e5,λv H' z=>z⟩) λv s10 hq_=>?_
    obtain⟨z,H10,I10,rz,kp10,sr10,rp10⟩:=hq_
    have a10:H10 D0=some (.lst xs):=kp10 _ _ a9 nh
    refine bI (dB (X:=aE X N' scope C s3 H3 fp) _ s10 σ8 H10 (.ref D0) [z] (.ref D0) [v] (λ_ H'=>H'=bM H10 D0 (.lst (xs++[z]))) I10 rfl (.cons rz .nil) ⟨D0,xs,z,rfl,rfl,a10,by omega,rfl⟩) λ_ s11 ⟨_,H11,I11,_,e11⟩=>?_
    subst e11;obtain⟨k1,k2⟩:=keepT I11
    have lo: ∀t,hid t=false->aZ hid D0 t=true->tV (H10 t)=true:=λt h1 h2=>by
     unfold aZ at h2;rw[h1] at h2;have:t=D0:=by simpa using h2
     subst this;rw[a10];rfl
    have kD:Kept (aZ hid D0) H9 H10:=λb o q hb=>kp10 b o q (ve hb).1
    have w10:Same (vw H5 (aZ hid D0)) (vw H10 (aZ hid D0)):=w9.trans kD.vw
    have vv:vw (bM H10 D0 (.lst (xs++[z]))) (aZ hid D0)=vw H10 (aZ hid D0):=eD eU
    have q10:SR X.K c (aZ hid D0) ρ3 σ8 H10:=(fg (q8.ext sm9)).mix kD.vw sr10 ⟨λb hb=>by
     by_cases e:b=D0
     ·subst e;exact⟨_,a10⟩
     ·unfold aZ at hb
      exact sr10.tr b (by simpa [e] using hb),λb xs hb q=>by
     by_cases e:b=D0
     ·subst e;rw[a10] at q;cases q
     ·unfold aZ at hb
      exact sr10.ht b xs (by simpa [e] using hb) q⟩ (λb q=>cu (h0 b q)) (λb q=>cu q) lo e6 λ_ _ _=>rfl
    have na10: ∀i:Nat,Ow ρ3[i]? ->σ8[i]? ≠some (some (.ref D0)):=λj o=>sr10.notOw nh j (oJ e6 o).2
    refine⟨ds.length- (i+1),by omega,i+1,xs++[z],ad++[yv],ρ3,σ8,_,rfl,hlt,I11.unpinned,k1,k2,?_,λb o e hb=>?_,aK,?_,?_,by simp;omega,na10,λj o=>ok8 j (oJ e6 o).1,λj s hj e=>?_,rest',e7,by rw[<-hy5];simp⟩
    ·exact q10.write eU h00 na10
    ·rw[aH (bd e nD)];exact kp10 _ _ (k9 _ _ e hb) hb
    ·rw[vv];exact(rp5.mono w10).append (.cons (sa lo rp10 lf) .nil)
    ·rw[vv];exact w5.trans w10
    ·obtain⟨s',z1,z2⟩:=nu e6 e
     have:=hno5 j s' hj z1
     subst this;rcases z2 with⟨rfl,_⟩|⟨s2,_,_,⟨a,b,z,_⟩|⟨a,b,z,_⟩⟩
     ·rfl
     ·cases z
     ·cases z
   ·cases hc5
 ·have e:i=ds.length:=by omega
  subst e;rw[List.drop_eq_nil_of_le (Nat.le_refl _)] at hc5;cases hc5
  rw[List.append_nil] at hy5;subst hy5;refine bI (T.done (aE X N' scope C s3 H3 fp) rfl rfl rfl hcalm ds.length [] s5 σ5 H5 (λ_ _=>False) I5 (stat no f5) st5 (io.2 H5 wH)) λr s6 hq_=>?_
  obtain⟨hr,I6⟩:=hq_
  subst hr;exact hR s6 σ5 H5 xs I6 sr5 ok5 sm5 ac5 rp5 w5
theorem sE(hcalm:X.calm=true)(hk:scope.kind=.function)(hs:uc scope X.env.scope=true)(hn:ur X.N N' scope=true)(hm:N'.length-X.N.length=m)(hT:jA X.N.length g)
 (hg: ∀C s₀ H₀ ex,oP (aE X N' scope C s₀ H₀ ex) c tg g) (hp: ∀C s₀ H₀ ex,rM (aE X N' scope C s₀ H₀ ex) c ifs p) (he: ∀C s₀ H₀ ex,DE (aE X N' scope C s₀ H₀ ex) c .s elt f)
 {E:Value->Shared->Prop} {ae:List (Addr×Obj)} {σ:St} {H:Hp} {s:Shared} {hid:bK} {ρ ρE:aF} {J:It} {it:Addr} {fp:List Addr} {tn:Nat->Heap->Prop} {ds ys:List D} {RR:Value->Addr->Result->Shared->Prop}
 (I:Inv X ae σ H s) (sr:SR X.K c hid ρ σ H) (T:Turn X.prog X.w X.K tg J fp it tn) (st:tn 0 s.heap) (hF: ∀b∈fp,iY X ae H b) (io:ItOk X.K (vw H hid) J ds) (hz:ds.length<=sizeLine) (hc:eK g p f ds (ρ++List.replicate m .no)=some (ys,ρE))
 (hR: ∀(D C:Addr) (s':Shared) (σ':St) (H':Hp) (xs:List V),s.heap.objs.size<=D->s.heap.objs.size<=C->D≠C->H D=none->Kept hid H H'->H' D=some (.lst xs)->Reps X.K (vw H' (aZ hid D)) xs ys->SR X.K c (aZ hid D) ρE σ' H'->OwK (ρ++List.replicate m .no) ρE (σ++List.replicate m none) σ'->Same (vw H hid) (vw H' (aZ hid D))->(∃m,s'.heap.Ns C m)->H' C=none->s'.os=s.os->AllBare s'.gens->HOk X.prog X.w H' s'.heap->Un (pS X.stack) fp H H' s.heap s'.heap->RR (.ref D) C (.ok .next) s'):
 wpAny (model X.prog X.w) X.A (newList []) (λacc s₃=>wpAny (model X.prog X.w) X.A (newFunctionEnv scope X.env.globals (qD X.env.cells scope.names []) [] X.env.qual none .none (some X.env)) (λcenv s₄=>
  codeAny (model X.prog X.w) X.A (.compStart (.ListComp elt [⟨tg,iter,ifs,0⟩] scope pos) 0 (.ref it) acc {cenv with scope:=relabel scope X.env}) (RR acc cenv.locals) s₄) E s₃) E s:=by
 refine wpAny_newObj_type (qH λh₁ hns₁ kp1 oc₁=>?_)
 dsimp only at hns₁ kp1 oc₁⊢
 generalize hH2:s.heap.push {cls:=.type "list",dict:=none,data:=.seq ([]:List Value).toArray}=H2 at hns₁ kp1 oc₁⊢
 have hC:H2.objs.size=s.heap.objs.size+1:=by rw[<-hH2,Heap.size_push]
 have hD:H s.heap.objs.size=none:=I.hok.fresh (Nat.le_refl _)
 have I2:Inv X ae σ (bM H s.heap.objs.size (.lst [])) {s with heap:=H2}:=by
  rw[<-hH2];exact I.laid (t':=s.toks) (λb o e=>Heap.get?_push_of_some _ e) (Nat.le_refl _) ⟨Nat.zero_le _,[],0,.nil,Heap.get?_push_size _ rfl⟩
 have fpLt: ∀b∈fp,b<s.heap.objs.size:=λb hb=>let⟨o,e,_⟩:=T.obj 0 s.heap st b hb;Heap.lt_size e
 have hF2: ∀b∈fp,iY X ae (bM H s.heap.objs.size (.lst [])) b:=λb hb=>⟨by rw[aH (Nat.ne_of_lt (fpLt b hb))];exact(hF b hb).1,(hF b hb).2⟩
 have kp0: ∀b o,s.heap.get? b=some o->H2.get? b=some o:=λb o e=>by rw[<-hH2];exact Heap.get?_push_of_some _ e
 have IY:=nO (tk:=s.toks) (N':=N') (fp:=fp) I2 hF2 (λb hb=>let⟨o,e,_⟩:=T.obj 0 s.heap st b hb;⟨o,kp0 b o e⟩) hk hs hn hns₁ kp1 oc₁
 rw[hm] at IY;dsimp only at IY;have sr0:SR X.K c (aZ hid s.heap.objs.size) (ρ++List.replicate m .no) (σ++List.replicate m none) (bM H s.heap.objs.size (.lst [])):=(sr.hide (aW hD _) hD aK).more m
 have hρ:ρ.length=X.N.length:=by rw[<-sr.len];exact I.len
 have nf:hid s.heap.objs.size=false:=sr.fresh hD
 have st1:tn 0 h₁:=T.keep _ _ _ st λb hb o e=>kp1 b o (kp0 b o e)
 have na0: ∀i:Nat,Ow (ρ++List.replicate m Sl.no)[i]? ->(σ++List.replicate m none)[i]? ≠some (some (V.ref s.heap.objs.size)):=(sr.more m).notOw nf
 have wv:Same (vw H hid) (vw (bM H s.heap.objs.size (.lst [])) (aZ hid s.heap.objs.size)):=by rw[rm hD];exact Same.refl _
 have loop: ∀s4:Shared,s4={s with heap:=h₁,toks:=s.toks}->
  codeAny (model X.prog X.w) X.A (.compLoop (.ListComp elt [⟨tg,iter,ifs,0⟩] scope pos) 0 (.ref it) (.ref s.heap.objs.size) (compEnvC scope (ma X.env.cells scope H2.objs.size) H2.objs.size X.env)) (RR (.ref s.heap.objs.size) H2.objs.size) s4:=by
  rintro s4 rfl
  refine uj (H:=H) (hid:=hid) hcalm hT hg hp he (λj s' hj e=>?_) IY sr0 sr.h0 nf (sr.fresh0 hD) na0 aK (.of (aW hD _)) hD wv T st1 (λb hb=>(hF2 b hb).1) io hz hc ?_
  ·rw[List.getElem?_append_right (by omega),List.getElem?_replicate] at e
   split at e
   ·cases e;rfl
   ·cases e
  intro s' σ' H' xs I' srE owk sm' hx' rp' w';have un1:Un (pS X.stack) fp H (bM H s.heap.objs.size (.lst [])) s.heap H2:=Un.laid (λb o e=>kp0 b o e) (Nat.le_refl _) hD
  exact hR s.heap.objs.size H2.objs.size s' σ' H' xs (Nat.le_refl _) (by rw[hC];exact Nat.le_succ _) (by rw[hC];exact Nat.ne_of_lt (Nat.lt_succ_self _)) hD sm' hx' rp' srE owk w' (let⟨m,hm,_⟩:=I'.loc;⟨m,hm⟩) I'.free I'.os I'.bare I'.hok (un1.trans I'.base)
 exact codeAny_compStart_list (loop _ rfl) (T.self X.A 0 _ _ _ st1 (loop _ rfl))
theorem se(i:Nat)(hcalm:X.calm=true)(hN:X.N.Nodup)(hT:jA X.N.length g)(hi:DI X c tg iter gi)
 (hg: ∀C s₀ H₀ ex,oP (aE X N' scope C s₀ H₀ ex) c tg g) (hp: ∀C s₀ H₀ ex,rM (aE X N' scope C s₀ H₀ ex) c ifs p) (he: ∀C s₀ H₀ ex,DE (aE X N' scope C s₀ H₀ ex) c .s elt f)
 (hsw:swapsWith (.ListComp elt [⟨tg,iter,ifs,0⟩] scope pos) (some (.Name y py)) spos.line X.env=pure true) (hyi:X.N[i]? =some y) (hy:X.env.scope.names.lookup y=some .local)
 (hk:scope.kind=.function) (hs:uc scope X.env.scope=true) (hn:ur X.N N' scope=true) (hm:N'.length-X.N.length=m) (hset: ∀x,foldedSetIterable iter X.env x=pure x) (ρ:aF):
 PS X (.Assign [.Name y py] (.ListComp elt [⟨tg,iter,ifs,0⟩] scope pos) spos) (BQ (λσ H Q=> ∃hid,Fl X.K c hid .n (fc m gi g p f) ρ σ H Q) (vG i)):=by
 intro ae s σ H E I hq;obtain⟨hid,sr,d,ρ',hd,q⟩:=hq
 obtain⟨ds,ρ0,ys,ρF,e1,hz,hc,hx,rfl⟩:=sJ hd
 rw[exec_Assign_Name_used _ _ _ _ hsw];refine wpAny_bind (wpAny_standAt (wpAny_bind ?_))
 show wpAny _ X.A (do let _ <-comprehension (.ListComp elt [⟨tg,iter,ifs,0⟩] scope pos) scope X.env _ (newList []) false (eval iter X.env) (some (assign (.Name y py) X.env))) _ _ s
 refine wpAny_bind (wpAny_mono (wpAny_comprehension_free (use:=some (assign (.Name y py) X.env)) (Q:=λ_ s'=>SP X ae E .next s') rfl hset (fh λx hx=>I.ok.has x (ig hs x hx)) hk (jZ hs) ?_) (λ_ s' hq=>wpAny_pure (wpAny_pure hq)) λ_ _ e=>e)
 refine bI (hi hid ρ ae s σ H (λJ H'=>Kept hid H H'/\SR X.K c hid ρ0 σ H'/\ItOk X.K (vw H' hid) J ds) I ⟨sr,ds,ρ0,e1,λJ H' k1 s1 io=>⟨k1,s1,io⟩⟩) λv s1 h1=>bI h1 λitv s2 h2=>?_
 obtain⟨it,fp,tn,J,H2,rfl,I2,T,st2,f2,kp,sr2,io⟩:=h2
 refine sE (RR:=λacc C=>compPost (model X.prog X.w) X.A X.xe (some (assign (.Name y py) X.env)) (λ_ s'=>SP X ae E .next s') acc C) hcalm hk hs hn hm hT hg hp he I2 sr2 T st2 f2 io hz hc ?_
 intro D C s' σ' H' xs hDge hCge hDC hD sm' hx' rp srE owk w' ⟨mm,hns⟩ hC' hos hbare hok hun;have I3:Inv X ae σ H' s':=I2.call' (ch:=fp) hos hun hok hbare λb hb=>⟨(f2 b hb).2.2.2.1,(f2 b hb).2.1,(f2 b hb).2.2.2.2.1,(f2 b hb).2.2.2.2.2⟩
 have nf:hid D=false:=sr2.fresh hD
 have hD0:H D=none:=by
  cases z:H D with
  |none=>rfl
  |some o=>rw[kp D o z nf] at hD;cases hD
 have srO:SR X.K c (aZ hid D) ρ' σ H':=sr2.mix w' srE srE.trk (λb q=>cu (sr2.h0 b q)) (λb q=>q) (λt h1 h2=>by rw[h1] at h2;cases h2) hx λj o1 o2=>by
  have lt:j<ρ0.length:=by
   by_cases lt:j<ρ0.length
   ·exact lt
   ·rw[List.getElem?_eq_none (by omega)] at o1;exact o1.elim
  rw[(owk j o2).2,List.getElem?_append_left (by rw[sr2.len];exact lt)]
 have fin:=q (.ref D) H' ⟨kp.trans sm',D,xs,ys,rfl,rfl,hD0,hx',sr2.fresh0 hD,nf,srO,rp,λj o=>sr2.notOw nf j (oJ hx o).1⟩
 have ltC: ∀b o,s2.heap.get? b=some o->b≠C:=λb o e z=>by subst z;exact absurd (Heap.lt_size e) (Nat.not_lt.mpr hCge)
 have hLC:C≠X.env.locals:=λz=>by
  have:=I2.lt
  rw[<-z] at this;exact absurd this (Nat.not_lt.mpr hCge)
 show wpAny _ X.A (assign (.Name y py) X.env (.ref D)) _ _ s';refine wpAny_assign_Name (lU (v:=.ref D) I3 hN hyi (.inl hy) rfl (λs'' I4 hb=>?_) (.inr hy))
 obtain⟨a,hsb,ha⟩:=hb
 have hCa:C≠a:=by
  rcases ha with rfl|ha
  ·exact hLC
  ·obtain⟨w',o,ho,_⟩:=I2.cell y a ha
   exact λz=>ltC a o ho z.symm
 refine⟨mm,hns.sameBut hsb hCa,λh3 hs3=>⟨_,H',?_,fin⟩⟩
 refine I4.turned (t':=s''.toks) (it:=C) (λb o nb e=>(hs3.2 b nb).trans e) hC' hLC (.inr (Nat.le_trans I2.sz hCge)) (λx c' e z=>?_) (λq hq z=>?_)
 ·obtain⟨w',o,ho,_⟩:=I2.cell x c' e
  exact ltC c' o ho z
 ·exact ltC q.1 q.2 (I2.pin q hq).1 z
theorem zZ(i:Nat){k:Kd}(hcalm:X.calm=true)(hN:X.N.Nodup)(hT:jA X.N.length g)(hi:DI X c tg iter gi)
 (hg: ∀C s₀ H₀ ex,oP (aE X N' scope C s₀ H₀ ex) c tg g) (hp: ∀C s₀ H₀ ex,rM (aE X N' scope C s₀ H₀ ex) c ifs p) (he: ∀C s₀ H₀ ex,DE (aE X N' scope C s₀ H₀ ex) c .s elt f)
 (hsw:swapsWith (.ListComp elt [⟨tg,iter,ifs,0⟩] scope pos) (some (.Name y py)) spos.line X.env=pure true:=by rfl) (hyi:X.N[i]? =some y:=by rfl) (hy:X.env.scope.names.lookup y=some .local:=by rfl)
 (hk:scope.kind=.function:=by rfl) (hs:uc scope X.env.scope=true:=by kernel_rfl) (hn:ur X.N N' scope=true:=by kernel_rfl) (hm:N'.length-X.N.length=m:=by rfl) (hset: ∀x,foldedSetIterable iter X.env x=pure x:=by intro _;rfl):
 DS X c k (.Assign [.Name y py] (.ListComp elt [⟨tg,iter,ifs,0⟩] scope pos) spos) (zo i (fc m gi g p f)):=λρ=>PS.imp (se i hcalm hN hT hi hg hp he hsw hyi hy hk hs hn hm hset ρ) λD σ H hq_=>by
 obtain⟨hid,sr,q⟩:=hq_
 unfold zo at q;cases e1:fc m gi g p f ρ with
 |none=>rw[e1] at q;exact q.elim
 |some z=>
  rw[e1] at q;exact⟨hid,sr,z.1,z.2,e1,λv H' pe=>GR pe q⟩
theorem tq(i:Nat){k:Kd}(hcalm:X.calm=true)(hN:X.N.Nodup)(hT:jA X.N.length g)(hi:DI X c tg iter gi)
 (hg: ∀C s₀ H₀ ex,oP (aE X N' scope C s₀ H₀ ex) c tg g) (hp: ∀C s₀ H₀ ex,rM (aE X N' scope C s₀ H₀ ex) c ifs p) (he: ∀C s₀ H₀ ex,DE (aE X N' scope C s₀ H₀ ex) c .s elt f)
 (hsw:swapsWith (.ListComp elt [⟨tg,iter,ifs,0⟩] scope pos) (some (.Name y py)) spos.line X.env=pure true:=by rfl) (hyi:X.N[i]? =some y:=by rfl) (hy:X.env.scope.names.lookup y=some .local:=by rfl)
 (hk:scope.kind=.function:=by rfl) (hs:uc scope X.env.scope=true:=by kernel_rfl) (hn:ur X.N N' scope=true:=by kernel_rfl) (hm:N'.length-X.N.length=m:=by rfl) (hset: ∀x,foldedSetIterable iter X.env x=pure x:=by intro _;rfl):
 DS X c k (.Assign [.Name y py] (.ListComp elt [⟨tg,iter,ifs,0⟩] scope pos) spos) (je i (fc m gi g p f)):=λρ=>PS.imp (se i hcalm hN hT hi hg hp he hsw hyi hy hk hs hn hm hset ρ) λD σ H hq_=>by
 obtain⟨hid,sr,q⟩:=hq_
 unfold je at q;cases e1:fc m gi g p f ρ with
 |none=>rw[e1] at q;exact q.elim
 |some z=>
  rw[e1] at q;refine⟨hid,sr,z.1,z.2,e1,λv H' pe=>?_⟩
  obtain⟨kp,s',r⟩:=PostE.toS sr.h0 pe
  exact q _ H' hid (s'.setV r i) kp.vw
end
theorem yn(its:List Value):slicePick its.toArray none none (some (-1))=its.reverse.toArray:=by
 unfold slicePick;rw[W.krv_bounds];dsimp only;rw[W.krv_sliceRange,W.krv_range];rw[List.filterMap_reverse,List.size_toArray];have:List.filterMap (λx=>its.toArray[x]?) (List.range its.length)=its:=by
  have:=PySem.List.filterMap_getElem?_range_length its
  simpa using this
 rw[this]
theorem z9 {xs:List V}{us:List Value}(r:Vals xs us):Vals xs.reverse us.reverse:=by
 induction r with
 |nil=>exact .nil
 |cons r t ih=>rw[List.reverse_cons,List.reverse_cons];exact Vals.append ih (.cons r .nil)
section
variable {X:Cx}{c:Ct}{e st:Expr}{k:Kd}{te:TE}{ts:TO}{f g:FE}{pos p2:Pos}{lo hi:Option Expr}{l u:FO}
theorem Gn {α:Type}{o:Option Expr}{t:α->TO}(h: ∀z,PO X o (t z)):PO X o (λσ H Q=> ∃z,t z σ H Q):=λae s σ H Q I ⟨z,q⟩=>h z ae s σ H Q I q
theorem xE(he:PE X e te)(hst:PO X (some st) ts)(hno: ∀(v:Value) (sl:Addr),subscripted (.Slice none none (some st) p2) false v (.ref sl)=operate [v,.ref sl] (getItem v (.ref sl)):=by intro _ _;with_unfolding_all rfl):
 PE X (.Subscript e (.Slice none none (some st) p2) pos) (λσ H Q=>te σ H λx H1=>ts σ H1 λo H2=>o=some (-1)/\ ∃a xs,x=.ref a/\SqL X.K H2 a xs/\ ∀p,H2 p=none->Q (.ref p) (bM H2 p (.lst xs.reverse))):=by
 intro ae s σ H Q I h;refine Subscript_ (bI (he ae s σ H _ I h) λv s1 hq_=>?_)
 obtain⟨x,H1,I1,r1,q1⟩:=hq_
 refine wpAny_Slice ?_
 rw[evalPart_none];refine wpAny_pure (wpAny_pure (bI (hst ae s1 σ H1 _ I1 q1) λvs s2 hq_=>?_))
 obtain⟨o,H2,I2,po,e0,a,xs,e1,hx,q⟩:=hq_
 subst e0 e1;cases r1
 have I4:Inv X ae σ H2 {s2 with heap:=s2.heap.push {cls:=.type "slice",data:=.fields #[.none,.none,vs]}}:=I2.kept (t':=s2.toks) λb ob q=>Heap.get?_push_of_some _ q
 obtain⟨its,r,ht,hz⟩:=I4.list hx
 have hlen:=r.length
 show wpAny (model X.prog X.w) X.A (subscriptTail e (.Slice none none (some st) p2) (.ref a) (.ref s2.heap.objs.size)) (EP X ae σ Q) X.xe {s2 with heap:=s2.heap.push {cls:=.type "slice",data:=.fields #[.none,.none,vs]}}
 refine tail_any (ops:=[.ref a,.ref s2.heap.objs.size]) ht.isList.typeIs slot_list_getitem.lookup ?_ (hno _ _)
 refine wpAny_getItem_list_slice ht.isList (Heap.IsSliceOf.new ..) .none .none po (by simp) ?_ (by rw[List.size_toArray]<;>omega)
 rw[yn];refine⟨.ref _,_,I4.laid (t':=s2.toks) (o:=.lst xs.reverse) (λb ob q=>Heap.get?_push_of_some _ q) (Nat.le_refl _) ?_,rfl,q _ (I4.hok.fresh (Nat.le_refl _))⟩
 exact⟨by rw[List.length_reverse];exact hz,_,0,z9 r,Heap.get?_push_size _ rfl⟩
def o5(f:FE)(o:FO):FE:=λρ=>(f ρ).bind λd=>match d with
 | .lst ds=>(o ρ).bind λz=>if z=some (-1) then some (.lst ds.reverse) else none
 |_=>none
theorem uI {o:FO}(he:DP X c k e f)(hs:DO X c (some st) o)(hno: ∀(v:Value) (sl:Addr),subscripted (.Slice none none (some st) p2) false v (.ref sl)=operate [v,.ref sl] (getItem v (.ref sl)):=by intro _ _;with_unfolding_all rfl):
 DP X c .n (.Subscript e (.Slice none none (some st) p2) pos) (o5 f o):=λhid ρ=>PE.imp (xE (he hid ρ) (hs hid ρ) hno) λσ H Q hq_=>by
 obtain⟨sr,d,hd,q⟩:=hq_
 unfold o5 at hd;obtain⟨z,e1,hd⟩:=Option.bind_eq_some_iff.mp hd
 split at hd
 ·obtain⟨w,e2,hd⟩:=Option.bind_eq_some_iff.mp hd
  split at hd
  ·rename_i ew
   subst ew;cases hd
   refine⟨sr,_,e1,λv H1 s1 r1=>⟨sr.ext s1,_,e2,λH2 s2=>⟨rfl,?_⟩⟩⟩
   obtain⟨a,xs,rfl,h1,h2⟩:=((RK.b k r1 λa n=>sr.fresh n).ext s2).lst
   exact⟨a,xs,rfl,h1,λp hp=>q _ _ ((s1.trans s2).trans (aW hp _)) (gx hp (s1.trans s2) h2.reverse)⟩
  ·cases hd
 ·cases hd
def yM(f:GE)(l u:FO):GE:=λρ=>(f ρ).bind λz=>match z.1 with
 | .lst ds=>(l z.2).bind λlo=>(u z.2).map λhi=>(.lst (iB ds lo hi),z.2)
 |_=>none
theorem EZ {f:GE}(he:DE X c .s e f)(hl:DO X c lo l)(hu:DO X c hi u):DE X c .n (.Subscript e (.Slice lo hi none p2) pos) (yM f l u):=λhid ρ=>
 PE.imp (nA vP (he hid ρ) (Gn λρ'=>hl hid ρ') (Gn λρ'=>hu hid ρ')) λσ H Q hq_=>by
  obtain⟨sr,d,ρ',hd,q⟩:=hq_
  unfold yM at hd;obtain⟨⟨z,ρ1⟩,e1,hd⟩:=Option.bind_eq_some_iff.mp hd
  dsimp only at hd;split at hd
  ·obtain⟨o1,e2,hd⟩:=Option.bind_eq_some_iff.mp hd
   obtain⟨o2,e3,hd⟩:=Option.map_eq_some_iff.mp hd
   cases hd
   refine⟨sr,_,_,e1,λv H1 ⟨k1,s1,r1⟩=>⟨_,s1,o1,e2,λH2 s2=>⟨_,s1.ext s2,o2,e3,λH3 s3=>?_⟩⟩⟩
   obtain⟨a,xs,rfl,h1,h2⟩:=(Rep1.ext (.inl r1) (s2.trans s3)).lst
   have sr3:=s1.ext (s2.trans s3)
   exact⟨a,xs,rfl,h1,λp hp=>q _ _ (PostE.left k1 (s1.post ((s2.trans s3).trans (aW hp _)) (gx hp (s2.trans s3) (om h2 o1 o2)) (by decide)))⟩
  ·cases hd
end
def rZ(i:Nat)(ρ:aF):Option (List ((List bQ)×D)):=match ρ[i]? with
 |some (.ob (.dT kvs))=>some kvs
 |_=>none
theorem jT {i:Nat}{ρ:aF}{kvs:List ((List bQ)×D)}(h:rZ i ρ=some kvs):ρ[i]? =some (.ob (.dT kvs)):=by
 unfold rZ at h;split at h
 ·cases h;assumption
 ·cases h
def fP(kvs:List ((List bQ)×D))(k:List bQ):Option D:=(kvs.find? λkv=>decide (kv.1=k)).map (·.2)
def oV(kvs:List ((List bQ)×D))(k:List bQ)(d:D):List ((List bQ)×D):=
 if(kvs.any λkv=>decide (kv.1=k))=true then kvs.map (λkv=>if kv.1=k then(kv.1,d) else kv) else kvs++[(k,d)]
def KRt(K:W.Frag)(F:Hp)(us:List ((List bQ)×V))(kvs:List ((List bQ)×D)):Prop:=us.map (·.1)=kvs.map (·.1)/\Reps K F (us.map (·.2)) (kvs.map (·.2))
theorem KRt.inv {K:W.Frag}{F:Hp}: ∀ {us:List ((List bQ)×V)} {kvs:List ((List bQ)×D)},KRt K F us kvs->(us=[]/\kvs=[])\/ ∃k v us' d kvs',us=(k,v)::us'/\kvs=(k,d)::kvs'/\Rep K F v d/\KRt K F us' kvs'
 | [],[],_=>.inl ⟨rfl,rfl⟩
 | [],_::_,h=>by cases h.1
 |_::_,[],h=>by cases h.1
 |(k,v)::us,(k',d)::kvs,h=>by
  obtain⟨h1,h2⟩:=h
  rw[List.map_cons,List.map_cons] at h1 h2;injection h1 with e1 e2
  cases h2 with
  |cons r rs=>
   have e1:k=k':=e1
   subst e1;exact .inr ⟨k,v,us,d,kvs,rfl,rfl,r,e2,rs⟩
theorem KRt.val {K:W.Frag}{F:Hp}(k:List bQ): ∀ {us:List ((List bQ)×V)} {kvs:List ((List bQ)×D)},KRt K F us kvs->(jj us k=none/\fP kvs k=none)\/ ∃v d,jj us k=some v/\fP kvs k=some d/\Rep K F v d:=by
 intro us
 induction us with
 |nil=>
  intro kvs h;rcases h.inv with⟨_,rfl⟩|⟨_,_,_,_,_,e,_⟩
  ·exact .inl ⟨rfl,rfl⟩
  ·cases e
 |cons p us ih=>
  intro kvs h;rcases h.inv with⟨e,_⟩|⟨k',v,us',d,kvs',e,rfl,r,rs⟩
  ·cases e
  ·cases e
   by_cases ek:k'=k
   ·exact .inr ⟨v,d,kU ek,by simp[fP,List.find?_cons,ek],r⟩
   ·have e1:jj ((k',v)::us) k=jj us k:=lE ek
    have e2:fP ((k',d)::kvs') k=fP kvs' k:=by simp[fP,List.find?_cons,ek]
    rw[e1,e2];exact ih rs
theorem KRt.any {K:W.Frag}{F:Hp}(k:List bQ){us:List ((List bQ)×V)}{kvs:List ((List bQ)×D)}(h:KRt K F us kvs):(us.any λkv=>decide (kv.1=k))=kvs.any λkv=>decide (kv.1=k):=by
 have e1:(us.any λkv=>decide (kv.1=k))=(us.map (·.1)).any λx=>decide (x=k):=by rw[List.any_map];rfl
 have e2:(kvs.any λkv=>decide (kv.1=k))=(kvs.map (·.1)).any λx=>decide (x=k):=by rw[List.any_map];rfl
 rw[e1,e2,h.1]
theorem KRt.cons {K:W.Frag}{F:Hp}{k:List bQ}{v:V}{d:D}{us:List ((List bQ)×V)}{kvs:List ((List bQ)×D)}(r:Rep K F v d)(h:KRt K F us kvs):KRt K F ((k,v)::us) ((k,d)::kvs):=⟨by rw[List.map_cons,List.map_cons,h.1],.cons r h.2⟩
theorem KRt.repl {K:W.Frag}{F:Hp}(k:List bQ){v:V}{d:D}(r:Rep K F v d): ∀ {us:List ((List bQ)×V)} {kvs:List ((List bQ)×D)},KRt K F us kvs->KRt K F (us.map (λkv=>if kv.1=k then(kv.1,v) else kv)) (kvs.map (λkv=>if kv.1=k then(kv.1,d) else kv)):=by
 intro us
 induction us with
 |nil=>
  intro kvs h;rcases h.inv with⟨_,rfl⟩|⟨_,_,_,_,_,e,_⟩
  ·exact h
  ·cases e
 |cons p us ih=>
  intro kvs h;rcases h.inv with⟨e,_⟩|⟨k',v',us',d',kvs',e,rfl,r',rs⟩
  ·cases e
  ·cases e
   rw[List.map_cons,List.map_cons]
   by_cases ek:k'=k
   ·rw[if_pos ek,if_pos ek];exact KRt.cons r (ih rs)
   ·rw[if_neg ek,if_neg ek];exact KRt.cons r' (ih rs)
theorem KRt.put {K:W.Frag}{F:Hp}(k:List bQ){v:V}{d:D}(r:Rep K F v d){us:List ((List bQ)×V)}{kvs:List ((List bQ)×D)}(h:KRt K F us kvs):KRt K F (mj us k v) (oV kvs k d):=by
 unfold mj oV;rw[h.any k];split
 ·exact h.repl k r
 ·refine⟨by rw[List.map_append,List.map_append,h.1];rfl,?_⟩
  rw[List.map_append,List.map_append];exact h.2.append (.cons r .nil)
theorem KRt.len {K:W.Frag}{F:Hp}{us:List ((List bQ)×V)}{kvs:List ((List bQ)×D)}(h:KRt K F us kvs):us.length=kvs.length:=by
 have:=congrArg List.length h.1
 simpa using this
section
variable {K:W.Frag}{c:Ct}{hid:bK}{ρ:aF}{σ:St}{H:Hp}{a:Addr}
theorem SR.dictT(h:SR K c hid ρ σ H){i:Nat}{kvs:List ((List bQ)×D)}(e:rZ i ρ=some kvs): ∃a us,σ[i]? =some (some (.ref a))/\hid a=true/\c.H₀ a=none/\H a=some (.dT us)/\KRt K (vw H hid) us kvs:=by
 obtain⟨a,h1,⟨h2,h3⟩,us,h4,h5,h6⟩:=h.sl i _ (jT e)
 exact⟨a,us,h1,h2,h3,h4,h5,h6⟩
theorem SR.putDT {i:Nat}{kvs kvs':List ((List bQ)×D)}{us':List ((List bQ)×V)}(h:SR K c hid ρ σ H)(hg:rZ i ρ=some kvs)(ha:σ[i]? =some (some (.ref a)))(r:KRt K (vw H hid) us' kvs'):SR K c hid (ρ.set i (.ob (.dT kvs'))) σ (bM H a (.dT us')):=by
 obtain⟨a1,us,h1,h2,h3,h4,h5⟩:=h.dictT hg
 rw[ha] at h1;cases h1;have lt:i<ρ.length:=(List.getElem?_eq_some_iff.mp (jT hg)).1
 have vv:vw (bM H a (.dT us')) hid=vw H hid:=eD h2
 have tr': ∀b o,H b=some o-> ∃o2,(bM H a (.dT us')) b=some o2:=λb o q=>by
  by_cases e:b=a
  ·subst e;exact⟨_,aK⟩
  ·exact⟨o,by rw[aH e];exact q⟩
 have owi:Ow ρ[i]? :=by rw[jT hg];trivial
 have ne: ∀(j:Nat) (s:Sl) (a':Addr),j≠i->ρ[j]? =some s->Ow (some s)->σ[j]? =some (some (.ref a'))->a'≠a:=λj s a' n e o q w=>by
  subst w;exact h.ap j i a' n (by rw[e];exact o) owi q ha
 have ows: ∀j:Nat,Ow (ρ.set i (.ob (.dT kvs')))[j]? ->Ow ρ[j]? :=λj o=>by
  by_cases e:j=i
  ·subst e;exact owi
  ·rw[List.getElem?_set_ne (Ne.symm e)] at o;exact o
 refine⟨λb hb=>let⟨o,q⟩:=h.tr b hb;tr' b o q,λb xs hb q=>by
  by_cases e:b=a
  ·subst e;rw[aK] at q;cases q
  ·rw[aH e] at q;exact h.ht b xs hb q,h.h0,λb o q m=>?_,λb o q=>let⟨o2,q2⟩:=h.t0 b o q;tr' b o2 q2,h.c0,h.m0,by simp[h.len],λj s e=>?_,λj l z n o1 o2=>h.ap j l z n (ows j o1) (ows l o2)⟩
 ·rw[aH (bd q h3)];exact h.kp b o q m
 ·by_cases ej:j=i
  ·subst ej
   rw[List.getElem?_set_self lt] at e;cases e
   exact⟨a,ha,⟨h2,h3⟩,us',aK,r.1,by rw[vv];exact r.2⟩
  ·rw[List.getElem?_set_ne (Ne.symm ej)] at e
   have z:=h.sl j s e
   cases s with
   |no=>trivial
   |v d=>obtain⟨x,h1,h2⟩:=z;exact⟨x,h1,by rw[vv];exact h2⟩
   |own ds=>obtain⟨a',xs,h1,h2,h3,h4,h5⟩:=z;exact⟨a',xs,h1,by rw[aH (ne j _ a' ej e trivial h1)];exact h2,h3,h4,by rw[vv];exact h5⟩
   |arg ds=>obtain⟨a',xs,h1,h2,h3,h4,h5⟩:=z;exact⟨a',xs,h1,by rw[aH (ne j _ a' ej e trivial h1)];exact h2,h3,h4,by rw[vv];exact h5⟩
   |ob b=>obtain⟨a',h1,h2⟩:=z;exact⟨a',h1,h2.mono (λow o q=>by rw[aH (ne j _ a' ej e ow h1)];exact q) (by rw[vv];exact Same.refl _) λ_ q=>q⟩
end
def rV:D->Option (List Int)
 | .tup ds=>gQ ds
 |_=>none
theorem jP {d:D}{ns:List Int}(h:rV d=some ns):d=.tup (ns.map D.int):=by
 unfold rV at h;split at h
 ·rw[iC h]
 ·cases h
theorem nX {K:W.Frag}{F:Hp}: ∀ {xs:List V} {ns:List Int},Reps K F xs (ns.map D.int)->xs=(ns.map Sum.inl).map kV
 |_,[],h=>by cases h;rfl
 |_,n::ns,h=>by
  cases h with
  |cons r rs=>cases r;rw[nX rs];rfl
section
variable {X:Cx}{ae:List (Addr×Obj)}{σ:St}{H:Hp}{s:Shared}{a b:Addr}{A:Around}{E:Value->Shared->Prop}
theorem EQ {ks:List bQ}(I:Inv X ae σ H s)(h:SqT X.K H b (ks.map kV)):(tupleKind (ce X.prog X.w)).is s.heap ks b:=by
 obtain⟨its,r,⟨o,h1,h2,n,h3⟩,_⟩:=I.tuple h
 exact⟨o,its.toArray,n,h1,h2,h3,by simpa using lS r⟩
end
section
variable {X:Cx}{c:Ct}{k k1 k2:Kd}{e f ev:Expr}{es:List Expr}{fe ff fk fv:FE}{fs:FA}{pos pos' py apos cpos p:Pos}{x y:Str}{x1:_}
def iK(ns:List Int):List bQ:=ns.map Sum.inl
def Dh(i:Nat):FS:=λρ=>.nx (ρ.set i (.ob (.dT [])))
theorem zi(i:Nat)(hn:X.N.Nodup)(hi:X.N[i]? =some x:=by rfl)(hx:yc X.env.scope x:=by first|exact Or.inl rfl|exact Or.inr rfl)(hs:swapsWith (.Dict [] [] p) (some (.Name x pos')) pos.line X.env=pure false:=by rfl)
 (hf:X.fn x=true\/X.env.scope.names.lookup x=some .local:=by first|exact .inl rfl|exact .inr rfl|assumption):DS X c k (.Assign [.Name x pos'] (.Dict [] [] p) pos) (Dh i):=λρ=>PS.imp (oC hn hi hx Aj hs hf) λD σ H hq_=>by
 obtain⟨hid,sr,q⟩:=hq_
 intro a ha;have sm:=aW ha (.dT [])
 have nf:=sr.fresh ha
 refine q _ _ (aZ hid a) (SR.setD (a:=a) (b:=.dT []) (sr.hide sm ha aK) ⟨⟨eU,sr.fresh0 ha⟩,[],aK,rfl,.nil⟩ (sr.notOw nf) i) λb o w=>?_
 obtain⟨w1,w2⟩:=vw_some.mp w
 refine vw_some.mpr ⟨?_,sm b o w2⟩
 unfold aZ;rw[w1];have:b≠a:=bd w2 ha
 simp[this]
theorem rA {hid:bK}{H':Hp}{z:V}{ns:List Int}(h:Rep1 X.K H' (vw H' hid) z (.tup (ns.map D.int))): ∃b,z=.ref b/\SqT X.K H' b ((iK ns).map kV):=by
 obtain⟨b,xs,rfl,_,h2,h3⟩:=h.tup
 refine⟨b,rfl,?_⟩
 rw[<-show xs=(iK ns).map kV from nX h3];exact h2
end
def RawAt(h:Heap)(d:Addr)(es:Array DictEntry)(ep:Nat):Prop:= ∃o,h.get? d=some o/\o.ExactDict/\o.data=.dict es ep
section
variable {prog:Program}{w:World}{A:Around}{E:Value->Shared->Prop}{s:Shared}{d it:Addr}{es:Array DictEntry}{ep i:Nat}
theorem RawAt.ty(h:RawAt s.heap d es ep):s.TypeIs (.ref d) "dict":=let⟨o,h1,h2,_⟩:=h;⟨o,h1,h2.1⟩
theorem Ay {Q:Value->Shared->Prop}(lo:(d==sysModules)=false)(x:RawAt s.heap d es ep)
 (q:Q (.ref s.heap.objs.size) {s with heap:=s.heap.push {cls:=.type "dict_keyiterator",data:=.fields #[.ref d,.int 0 0,.int es.size 0,.int ep 0]}}):wpAny (model prog w) A (pyIter (.ref d)) Q E s:=by
 have ty:=x.ty
 obtain⟨o,g1,g2,g3⟩:=x
 refine wpAny_pyIter_slot ty F.slot_dict_iter (wpAny_call_entry F.slot_dict_iter ty F.entry_dict_iter ?_ (F.args_dict_iter_1 _))
 unfold Builtin.«dict.__iter__»;refine wpAny_bind ?_
 unfold Builtin.Dict.dictSlotNone;refine wpAny_bind (wpAny_notOrdered_dict ty ?_)
 show wpAny _ _ (pure (Value.ref d)) _ _ s;refine wpAny_pure ?_
 show wpAny _ _ (Builtin.Dict.showsAll d>>=_) _ _ s;unfold Builtin.Dict.showsAll;rw[if_neg (by rw[lo];exact Bool.false_ne_true)]
 refine wpAny_bind (wpAny_pure (wpAny_bind (wpAny_dictEntries g1 g3 (wpAny_bind (wpAny_dictEpoch g1 g3 ?_)))))
 refine wpAny_bind (wpAny_newObj_type (wpAny_pure ⟨_,rfl,"dict_keyiterator",_,⟨_,Heap.get?_push_size _ rfl,rfl⟩,F.slot_dict_keyiterator_next.lookup,?_⟩))
 simpa [rawInt] using q
theorem yj {Q:Option Value->Shared->Prop}(hit:s.heap.IsKeyIter it d i es.size ep)(x:RawAt s.heap d es ep)(hi:i<es.size)
 (q: ∀h',h'.IsKeyIter it d (i+1) es.size ep->Heap.SameBut it s.heap h'->Q (some es[i].key) {s with heap:=h'}):wpAny (model prog w) A (pyNext (.ref it)) Q E s:=by
 obtain⟨o,k1,k2,k3⟩:=id hit
 obtain⟨od,g1,g2,g3⟩:=id x
 unfold pyNext;refine wpAny_bind (wpAny_attempt (wpAny_callSpecial?_slot (name:=Str.ofString "__next__") hit.typeIs F.slot_dict_keyiterator_next (wpAny_call_entry F.slot_dict_keyiterator_next hit.typeIs F.entry_dict_keyiterator_next ?_ (F.args_dict_keyiterator_next_1 _))))
 refine wpAny_bind (wpAny_pure (wpAny_bind (wpAny_bind ?_)))
 first|refine wpAny_bind (wpAny_typeNameOfWhole_keyiter hit.typeIs (wpAny_pure (wpAny_bind (wpAny_fieldsOf k1 k3 ?_))))|refine wpAny_bind (wpAny_typeNameOf_keyiter hit.typeIs (wpAny_pure (wpAny_bind (wpAny_fieldsOf k1 k3 ?_))))
 simp only[show Builtin.Dict_items.ownsTuple "dict_keyiterator"=false by decide,Bool.false_eq_true,if_false]
 show wpAny _ _ (if(Value.ref d==Value.none)=true then _ else _) _ _ s;rw[if_neg (show¬((Value.ref d==Value.none)=true) from Bool.false_ne_true)]
 refine wpAny_bind (wpAny_pure (wpAny_bind (wpAny_dictEntries g1 g3 ?_)))
 rw[if_neg (by simp)]
 refine wpAny_bind (wpAny_pure (wpAny_bind (wpAny_dictEpoch g1 g3 ?_)))
 rw[if_neg (by simp)]
 refine wpAny_pure ?_
 simp only[show¬((i:Int)<0) from by omega,if_false,Int.toNat_natCast,Array.getElem?_eq_getElem hi]
 refine wpAny_bind ?_
 first|refine wpAny_bind (wpAny_typeNameOfWhole_keyiter hit.typeIs (wpAny_pure (wpAny_bind (wpAny_isOneOf_keyiter hit.typeIs ?_))))|refine wpAny_bind (wpAny_typeNameOf_keyiter hit.typeIs (wpAny_pure (wpAny_bind (wpAny_isOneOf_keyiter hit.typeIs ?_))))
 show wpAny _ _ (setField (.ref it) 1 (rawInt ((i:Int)+1))>>=_) _ _ s;refine wpAny_bind (wpAny_setField k1 k3 (by simp) ?_)
 have nx:(s.heap.update it (Obj.mapFields (·.setIfInBounds 1 (rawInt ((i:Int)+1))))).IsKeyIter it d (i+1) es.size ep:=⟨_,Heap.get?_update_self _ k1 (Obj.isFreed_of_fields (Obj.data_mapFields k3 _)),(Obj.cls_mapFields ..).trans k2,by rw[Obj.data_mapFields k3];simp[rawInt]⟩
 refine wpAny_bind (wpAny_holding (wpAny_bind (wpAny_isOneOf_keyiter (s:={s with heap:=s.heap.update it (Obj.mapFields (·.setIfInBounds 1 (rawInt ((i:Int)+1))))}) nx.typeIs ?_)))
 show wpAny _ _ (pure es[i].key) _ _ _;exact wpAny_pure (wpAny_pure ⟨_,rfl,wpAny_pure (q _ nx (Heap.SameBut.update ..))⟩)
theorem CI {Q:Option Value->Shared->Prop}(calm:A.handled=none)(hit:s.heap.IsKeyIter it d es.size es.size ep)(x:RawAt s.heap d es ep)
 (q: ∀h',Heap.ExtBut it s.heap h'->Q none {s with heap:=h'}):wpAny (model prog w) A (pyNext (.ref it)) Q E s:=by
 obtain⟨o,k1,k2,k3⟩:=id hit
 obtain⟨od,g1,g2,g3⟩:=id x
 unfold pyNext;refine wpAny_bind (wpAny_attempt (wpAny_callSpecial?_slot (name:=Str.ofString "__next__") hit.typeIs F.slot_dict_keyiterator_next (wpAny_call_entry F.slot_dict_keyiterator_next hit.typeIs F.entry_dict_keyiterator_next ?_ (F.args_dict_keyiterator_next_1 _))))
 refine wpAny_bind (wpAny_pure (wpAny_bind (wpAny_bind ?_)))
 first|refine wpAny_bind (wpAny_typeNameOfWhole_keyiter hit.typeIs (wpAny_pure (wpAny_bind (wpAny_fieldsOf k1 k3 ?_))))|refine wpAny_bind (wpAny_typeNameOf_keyiter hit.typeIs (wpAny_pure (wpAny_bind (wpAny_fieldsOf k1 k3 ?_))))
 simp only[show Builtin.Dict_items.ownsTuple "dict_keyiterator"=false by decide,Bool.false_eq_true,if_false]
 show wpAny _ _ (if(Value.ref d==Value.none)=true then _ else _) _ _ s;rw[if_neg (show¬((Value.ref d==Value.none)=true) from Bool.false_ne_true)]
 refine wpAny_bind (wpAny_pure (wpAny_bind (wpAny_dictEntries g1 g3 ?_)))
 rw[if_neg (by simp)]
 refine wpAny_bind (wpAny_pure (wpAny_bind (wpAny_dictEpoch g1 g3 ?_)))
 rw[if_neg (by simp)]
 refine wpAny_pure ?_
 simp only[show¬((es.size:Int)<0) from by omega,if_false,Int.toNat_natCast,Array.getElem?_eq_none (Nat.le_refl es.size)]
 refine wpAny_bind ?_
 first|refine wpAny_bind (wpAny_typeNameOfWhole_keyiter hit.typeIs (wpAny_pure ?_))|refine wpAny_bind (wpAny_typeNameOf_keyiter hit.typeIs (wpAny_pure ?_))
 show wpAny _ _ (setField (.ref it) 0 .none>>=_) _ _ s;refine wpAny_bind (wpAny_setField k1 k3 (by simp) ?_)
 show wpAny _ _ (newExc (.type "StopIteration") []>>=_) _ _ _;refine wpAny_bind ?_
 simp only[newExc,newTuple];refine wpAny_bind (wpAny_newObj_type (wpAny_bind (m:=firstArgMember _ _) (wpAny_of_eq (a:=Value.none) (by first|rfl|(simp only[firstArgMember];rfl)) (wpAny_newObj_type ?_ (by size_fits)))) (by size_fits))
 simp only[raiseNew];refine wpAny_bind (wpAny_handled ?_)
 rw[show A.in1.handled=none from calm];refine wpAny_bind (wpAny_pure (wpAny_throw ?_));refine wpAny_bind (wpAny_isInstance (T:="StopIteration") (b:=true) ⟨_,Heap.get?_push_size _ rfl,rfl⟩ isSubtype_stop ?_)
 exact wpAny_pure (q _ (((Heap.SameBut.update ..).extBut.push _).push _))
theorem uf {T:String}{r:Addr}{us:List Value}{P:Nat->Value->Prop}{OK:Heap->Prop}{Q:Value->Shared->Prop}{G:List Nat->Prop}(src:KdlSrc prog w T r d us.length P OK)(hP: ∀i v,i<us.length->P i v->us[i]? =some v)(calm:A.handled=none)(good:OK s.heap)(hz:us.length<64)
 (few:us.length<2->G (List.range us.length))
 (many:2<=us.length-> ∀(g:Heap) (tk:Nat),(∀c o,s.heap.get? c=some o->g.get? c=some o)->wpAny (model prog w) A.in1.in1 (keyKind' us.toArray) (λκ t=>t={s with heap:=g,toks:=tk}/\
   (kas_sort us.length).kasWp (kas_ask prog w A.in1.in1 κ us) (λp t'=>t'=t/\G p.toList) t) (λ_ _=>False) {s with heap:=g,toks:=tk})
 (fin: ∀(g:Heap) (tk a e:Nat) (ix:List Nat),(∀c o,s.heap.get? c=some o->g.get? c=some o)->s.heap.objs.size<=a->G ix->g.get? a=some (seqObj "list" (List.toArray (ix.map λi=>us.getD i Value.none)) e)->Q (.ref a) {s with heap:=g,toks:=tk}):
 wpAny (model prog w) A (call (.builtin "sorted") [.ref r]) Q E s:=by
 refine Calls.call_function_entry kind_sorted plain_sorted entry_sorted (args_sorted1 _) ?_
 unfold Builtin.«sorted»;refine wpAny_bind (m:=checkCount "sorted" 1 1 _) (wpAny_pure (wpAny_bind (vh (A:=A.in1) src calm good (by rw[sizeLine_eq];omega) λg tk acc kg sg0 hacc=>?_)))
 have hus:acc.toList=us:=List.ext_getElem? λi=>by
  by_cases hi:i<us.length
  ·have h1:i<acc.size:=by rw[hacc.1];exact hi
   have e3:acc[i]? =some acc[i]:=Array.getElem?_eq_getElem h1
   rw[Array.getElem?_toList,e3,hP i _ hi (hacc.2 i _ e3)]
  ·have h1: ¬i<acc.toList.length:=by rw[Array.length_toList,hacc.1];exact hi
   rw[List.getElem?_eq_none (by omega),List.getElem?_eq_none (by omega)]
 rw[hus];have sg:s.heap.objs.size<=g.objs.size:=Nat.le_of_lt sg0
 refine wpAny_bind (wpAny_newList ?_ (by rw[sizeLine_eq];omega))
 have hL:(g.push (seqObj "list" us.toArray 0)).get? g.objs.size=some (seqObj "list" us.toArray 0):=Heap.get?_push_size _ rfl
 show wpAny _ _ _ _ _ {s with heap:=g.push (seqObj "list" us.toArray 0),toks:=tk}
 have end_: ∀ix:List Nat,G ix->Q (.ref g.objs.size) {s with heap:=sortedHeap (g.push (seqObj "list" us.toArray 0)) g.objs.size us (List.toArray (ix.map λi=>us.getD i Value.none)),toks:=tk}:=λix hG=>by
  obtain⟨e,he⟩:=sortedHeap_at (out:=List.toArray (ix.map λi=>us.getD i Value.none)) hL
  refine fin _ tk g.objs.size e ix (λc u hu=>?_) sg hG he
  have lt:=Heap.lt_size (kg c u hu)
  rw[sortedHeap_old (Nat.ne_of_lt lt) (by rw[size_push'];exact Nat.lt_succ_of_lt lt)]
  exact Heap.get?_push_of_some _ (kg c u hu)
 refine wpAny_bind (wpAny_holding (wpAny_call_entry slot_list_sort ⟨_,hL,rfl⟩ entry_list_sort (oq (P:=λf t=> ∃v,f=.done (.ret v)/\wpAny (model prog w) A.in1 (pure (PySem.Fin.done (.ret (Value.ref g.objs.size)))) (λf t=> ∃v,f=.done (.ret v)/\Q v t) E t) hL (by omega) (λh=>?_) (λh g' kg'=>?_)) (args_list_sort _)))
 ·have e:=end_ (List.range us.length) (few h)
  rw[show(List.range us.length).map (λi=>us.getD i Value.none)=us from List.ext_getElem? λi=>by
   by_cases hi:i<us.length
   ·simp[hi]
   ·simp[hi]] at e
  exact⟨_,rfl,wpAny_pure ⟨_,rfl,e⟩⟩
 ·refine wpAny_mono (many h g' tk λc u hu=>kg' c u (Nat.ne_of_lt (Heap.lt_size (kg c u hu))) (Heap.get?_push_of_some _ (kg c u hu))) (λκ t ⟨et,ht⟩=>⟨et,?_⟩) λ_ _ x=>x
  rw[kat_ask_eq rfl] at ht⊢;exact kas_wp_mono ht λp t' ⟨e1,hG⟩=>⟨e1,_,rfl,wpAny_pure ⟨_,rfl,end_ _ hG⟩⟩
end
abbrev IF(H:Hp):List V->List (List Int)->Prop:=Paired λy ks=> ∃b,y=.ref b/\H b=some (.tup (ks.map V.int))
theorem zG {H:Hp}: ∀ {us:List (List bQ×V)} {xs:List (List bQ×Addr×Value)} {kss:List (List Int)},KTd H us xs->us.map (·.1)=kss.map iK->IF H (xs.map λx=>V.ref x.2.1) kss
 |_,_,[],r,e=>by
  cases r with
  |nil=>exact .nil
  |cons _ _=>cases e
 |_,_,ks::kss,r,e=>by
  cases r with
  |nil=>cases e
  | @cons p q ps qs h t=>
    rw[List.map_cons,List.map_cons] at e;injection e with e1 e2
    refine .cons ⟨q.2.1,rfl,?_⟩ (zG t e2)
    rw[h.2.1,e1];unfold iK;rw[List.map_map];rfl
theorem vq: ∀xs:List (List bQ×Addr×Value),Vals (xs.map λx=>V.ref x.2.1) (xs.map λx=>Value.ref x.2.1)
 | []=>.nil
 |_::xs=>.cons rfl (vq xs)
theorem Db: ∀ {ns:List Int} {us:List Value},Vals (ns.map V.int) us->qN us ns
 | [],_,h=>by cases h;exact .nil
 |_::_,_,h=>by cases h with|cons h1 h2=>exact .cons h1 (Db h2)
section
variable {X:Cx}
def intKs:List (List bQ×D)->Option (List (List Int))
 | []=>some []
 |(k,_)::r=>(intK k).bind λns=>(intKs r).map (ns:: ·)
where intK:List bQ->Option (List Int)
 | []=>some []
 | .inl i::r=>(intK r).map (i:: ·)
 |_=>none
theorem wk: ∀ {k:List bQ} {ns:List Int},intKs.intK k=some ns->k=iK ns
 | [],_,h=>by cases h;rfl
 | .inl i::r,ns,h=>by
   have h:(intKs.intK r).map (i:: ·)=some ns:=h
   obtain⟨t,e,rfl⟩:=Option.map_eq_some_iff.mp h
   rw[wk e];rfl
 | .inr _::_,_,h=>by cases h
theorem tQ: ∀ {kvs:List (List bQ×D)} {kss:List (List Int)},intKs kvs=some kss->kvs.map (·.1)=kss.map iK
 | [],_,h=>by cases h;rfl
 |(k,d)::r,kss,h=>by
  have h:((intKs.intK k).bind λns=>(intKs r).map (ns:: ·))=some kss:=h
  obtain⟨ns,e1,h⟩:=Option.bind_eq_some_iff.mp h
  obtain⟨t,e,rfl⟩:=Option.map_eq_some_iff.mp h
  rw[List.map_cons,List.map_cons,tQ e,<-wk e1]
theorem sR {K:W.Frag}{H:Hp}{hid:bK}(ht: ∀b xs,hid b=true->H b≠some (.tup xs)): ∀ {ys:List V} {kss:List (List Int)},IF H ys kss->Reps K (vw H hid) ys (kss.map cX)
 |_,[],h=>by cases h;exact .nil
 |_,ks::kss,h=>by
  cases h with
  |cons h1 h2=>
   obtain⟨b,rfl,hb⟩:=h1
   refine .cons (.tup (.inl (.inl (vw_some.mpr ⟨?_,hb⟩))) (pC ks)) (sR ht h2)
   cases e:hid b with
   |false=>rfl
   |true=>exact absurd hb (ht b _ e)
end
abbrev rK:=List (List bQ×D)
theorem wr {α:Type}(next:Nat->Nat): ∀(fuel k:Nat) (left:List α) (out:Array α),fuel=left.length->(pickOrder.go next fuel k left out).toList.Perm (out.toList++left)
 |0,k,left,out,h=>by
  obtain rfl:left=[]:=List.eq_nil_of_length_eq_zero h.symm
  rw[List.append_nil];exact List.Perm.refl _
 |fuel+1,k,left,out,h=>by
  have lt:next k % left.length<left.length:=Nat.mod_lt _ (by omega)
  have e:left[next k % left.length]? =some left[next k % left.length]:=List.getElem?_eq_getElem lt
  unfold pickOrder.go;rw[e];dsimp only;refine(wr next fuel (k+1) _ _ (by rw[List.length_eraseIdx,if_pos lt];omega)).trans ?_
  rw[Array.toList_push,List.append_assoc];refine List.Perm.append_left _ ?_
  have e2:left=left.take (next k % left.length)++left[next k % left.length]::left.drop (next k % left.length+1):=by
   conv=>lhs;rw[<-List.take_append_drop (next k % left.length) left,List.drop_eq_getElem_cons lt]
  rw[List.eraseIdx_eq_take_drop_succ]
  conv=>rhs;rw[e2]
  exact(List.perm_middle (l₁:=left.take (next k % left.length))).symm
theorem vg {α:Type}(next:Nat->Nat)(xs:Array α):(pickOrder next xs).toList.Perm xs.toList:=by
 have:=wr next xs.size 0 xs.toList #[] (by simp)
 unfold pickOrder;simpa using this
theorem yw {xs:Array Nat}(r:Ris xs){j p:Nat}(b:Bel xs j p):SetTable.below xs j=p:=by
 have b':=Gu r j
 rcases Nat.lt_trichotomy (SetTable.below xs j) p with c|c|c
 ·have lt:SetTable.below xs j<xs.size:=by have:=b.le;omega
  have e:xs[SetTable.below xs j]? =some xs[SetTable.below xs j]:=Array.getElem?_eq_getElem lt
  have h1:=b.lo _ _ c e
  have h2:=b'.hi _ _ (Nat.le_refl _) e
  omega
 ·exact c
 ·have lt:p<xs.size:=by have:=b'.le;omega
  have e:xs[p]? =some xs[p]:=Array.getElem?_eq_getElem lt
  have h1:=b'.lo _ _ c e
  have h2:=b.hi _ _ (Nat.le_refl _) e
  omega
theorem yg {xs:Array Nat}(r:Ris xs){i:Nat}(hi:i<=xs.size):SetTable.below xs (if i=0 then 0 else xs.getD (i-1) 0+1)=i:=by
 refine yw r ⟨hi,λx a hx ha=>?_,λx a hx ha=>?_⟩
 ·rw[if_neg (by omega)]
  have lt:i-1<xs.size:=by omega
  have e:xs[i-1]? =some xs[i-1]:=Array.getElem?_eq_getElem lt
  have eg:xs.getD (i-1) 0=xs[i-1]:=by simp[Array.getD,lt]
  rw[eg]
  by_cases c:x=i-1
  ·subst c;rw[e] at ha;cases ha;omega
  ·have:=r.lt (show x<i-1 by omega) ha e;omega
 ·by_cases c:i=0
  ·rw[if_pos c];omega
  ·rw[if_neg c]
   have lt:i-1<xs.size:=by omega
   have e:xs[i-1]? =some xs[i-1]:=Array.getElem?_eq_getElem lt
   have eg:xs.getD (i-1) 0=xs[i-1]:=by simp[Array.getD,lt]
   rw[eg];exact r.lt (show i-1<x by omega) e ha
def ja(w:World):Bool:=w.params.followText "set-order"
def jb(w:World)(a:Addr)(ep:Nat)(es:Array (Int×Value)):Array (Int×Value):=if ja w=true then pickOrder (w.params.setOrder a ep) es else es
theorem pP(w:World)(a:Addr)(ep:Nat)(es:Array (Int×Value)):(jb w a ep es).toList.Perm es.toList:=by
 unfold jb;split
 ·exact vg _ _
 ·exact List.Perm.refl _
theorem jU(w:World)(a:Addr)(ep:Nat)(es:Array (Int×Value)):(jb w a ep es).size=es.size:=by
 have:=(pP w a ep es).length_eq
 simpa using this
def rR(w:World)(t:SetTable)(i:Nat):Nat:=if ja w=true then 0 else if i=0 then 0 else t.place.getD (i-1) 0+1
def RawSet(w:World)(h:Heap)(d:Addr)(es:Array (Int×Value))(ep:Nat)(t:SetTable):Prop:= ∃o xs,h.get? d=some o/\SetAt w o es ep t xs
def IsSetIter(w:World)(t:SetTable)(h:Heap)(it d:Addr)(i n ep:Nat):Prop:= ∃o,h.get? it=some o/\o.cls=.type "set_iterator"/\o.data=.fields #[.int (rR w t i) 0,.int i 0,.ref d,.int n 0,.int ep 0]
theorem slot_si_next:Slot "set_iterator" "__next__" "set_iterator.__next__":=.of (owner:="set_iterator") (n:="__next__") (by rw[typeLookup_type,builtinLookup_eq_fast];kernel_rfl) (by decide+kernel) (by decide+kernel) (by decide+kernel) (by first|exact .inl (by decide+kernel)|exact .inr (by decide+kernel)) (by rw[isSubtype_type];kernel_rfl)
theorem ke:entryFor table "set_iterator.__next__"=some Builtin.«set_iterator.__next__»:=entryFor_of_tree (by kernel_rfl)
theorem sq:Manifest.owners.lookup (String.ofList ['r','o','t','a','r','e','t','i','_','t','e','s'].reverse)=some Manifest.sig_set_iterator:=by kernel_rfl
theorem kL(a:Value):argsOk "set_iterator.__next__" ⟨[a],[]⟩:=by unfold argsOk;rw[signature?_of (id:="set_iterator.__next__") (n:=['_','_','t','x','e','n','_','_']) (o:=['r','o','t','a','r','e','t','i','_','t','e','s']) (by kernel_rfl) sq];kernel_rfl
theorem kK:Slot "set_iterator" "__iter__" "set_iterator.__iter__":=.of (owner:="set_iterator") (n:="__iter__") (by rw[typeLookup_type,builtinLookup_eq_fast];kernel_rfl) (by decide+kernel) (by decide+kernel) (by decide+kernel) (by first|exact .inl (by decide+kernel)|exact .inr (by decide+kernel)) (by rw[isSubtype_type];kernel_rfl)
theorem oU:entryFor table "set_iterator.__iter__"=some Builtin.«dict_keyiterator.__iter__»:=entryFor_alias (id':="dict_keyiterator.__iter__") (by kernel_rfl) rfl (by decide+kernel) (by kernel_rfl)
theorem qf(a:Value):argsOk "set_iterator.__iter__" ⟨[a],[]⟩:=by unfold argsOk;rw[signature?_of (id:="set_iterator.__iter__") (n:=['_','_','r','e','t','i','_','_']) (o:=['r','o','t','a','r','e','t','i','_','t','e','s']) (by kernel_rfl) sq];kernel_rfl
section
variable {prog:Program}{w:World}{A:Around}{E:Value->Shared->Prop}{s:Shared}{d it:Addr}{es:Array (Int×Value)}{ep i:Nat}{t:SetTable}
theorem RawSet.ty(h:RawSet w s.heap d es ep t):s.TypeIs (.ref d) "set":=let⟨o,_,h1,h2⟩:=h;⟨o,h1,h2.ex.1⟩
theorem RawSet.lt {h:Heap}(x:RawSet w h d es ep t):d<h.objs.size:=let⟨_,_,h1,_⟩:=x;Heap.lt_size h1
theorem RawSet.to {h h':Heap}(x:RawSet w h d es ep t)(k: ∀o,h.get? d=some o->h'.get? d=some o):RawSet w h' d es ep t:=let⟨o,xs,h1,r⟩:=x;⟨o,xs,k o h1,r⟩
theorem IsSetIter.ty {n:Nat}(h:IsSetIter w t s.heap it d i n ep):s.TypeIs (.ref it) "set_iterator":=let⟨o,h1,h2,_⟩:=h;⟨o,h1,h2⟩
theorem mX:entryFor table "set.__iter__"=some Builtin.«frozenset.__iter__»:=entryFor_alias (id':="frozenset.__iter__") (by kernel_rfl) rfl (by decide+kernel) (by kernel_rfl)
theorem g6 {Q:Bool->Shared->Prop}(h:Q (ja w) s):wpAny (model prog w) A setsByText Q E s:=by
 unfold setsByText;exact wpAny_bind (wpAny_askSetting (wpAny_pure h))
theorem Al {Q:Value->Shared->Prop}(x:RawSet w s.heap d es ep t)(q:Q (.ref s.heap.objs.size) {s with heap:=s.heap.push {cls:=.type "set_iterator",data:=.fields #[.int (rR w t 0) 0,.int 0 0,.ref d,.int es.size 0,.int ep 0]}}):wpAny (model prog w) A (pyIter (.ref d)) Q E s:=by
 have ty:=x.ty
 obtain⟨o,xs,g1,S⟩:=x
 refine wpAny_pyIter_slot ty F.slot_set_iter (wpAny_call_entry F.slot_set_iter ty mX ?_ (F.args_set_iter_1 _))
 unfold Builtin.«frozenset.__iter__»;unfold Builtin.Frozenset.slot0 slotArgs;simp only[List.isEmpty_nil,Bool.not_true,Bool.false_eq_true, ↓reduceIte,bind_assoc,List.length_nil,bne_self_eq_false];unfold Builtin.Frozenset.addrOf Builtin.Frozenset.sizeOf setDrawn setEntries;refine wpAny_bind (wpAny_pure ?_)
 try dsimp only
 refine wpAny_bind (wpAny_pure ?_)
 refine wpAny_bind (wpAny_bind (wpAny_bind (wpAny_setState_of g1 S.hd S.fits (wpAny_pure (wpAny_pure ?_)))))
 refine wpAny_bind (wpAny_bind (wpAny_setState_of g1 S.hd S.fits ?_))
 dsimp only;refine wpAny_bind (g6 (wpAny_pure ?_))
 have e0:(!ja w&&(!t.plain&&decide (es.size>1)))=false:=by rw[S.pl];simp
 refine wpAny_ite_split (λhab=>absurd (show(!ja w&&(!t.plain&&decide (es.size>1)))=true from hab) (by rw[e0];decide)) λ_=>?_
 refine wpAny_bind (wpAny_pure (wpAny_bind (wpAny_setEpoch_of g1 S.hd S.fits ?_)))
 refine wpAny_bind (wpAny_newObj_type (wpAny_pure ⟨_,rfl,"set_iterator",_,⟨_,Heap.get?_push_size _ rfl,rfl⟩,slot_si_next.lookup,?_⟩))
 have:rR w t 0=0:=by unfold rR;split<;>rfl
 rw[this] at q;simpa [rawInt] using q
theorem AZ {Q:Array (Int×Value)->Shared->Prop}{o:Obj}{xs:lz}(g1:s.heap.get? d=some o)(S:SetAt w o es ep t xs)(h:Q (jb w d ep es) s):wpAny (model prog w) A (setWalk d) Q E s:=by
 unfold setWalk;refine wpAny_bind (wpAny_setState_of g1 S.hd S.fits ?_)
 dsimp only;refine wpAny_bind (g6 ?_)
 unfold jb at h
 by_cases c:ja w=true
 ·rw[if_pos c]
  rw[if_pos c] at h;exact wpAny_bind (wpAny_askSetting (wpAny_pure h))
 ·rw[if_neg c]
  rw[if_neg c] at h;have e0:(!t.plain&&decide (es.size>1))=false:=by rw[S.pl];rfl
  refine wpAny_ite_split (λhab=>absurd (show(!t.plain&&decide (es.size>1))=true from hab) (by rw[e0];decide)) λ_=>?_
  have e1:(!t.led&&decide (es.size>1))=false:=by
   have:=S.led
   unfold ja at c;rw[this,eq_false_of_ne_true c];rfl
  refine wpAny_bind ?_
  show wpAny _ _ (if(!t.led&&decide (es.size>1))=true then unsupported _ else pure PUnit.unit) _ _ _
  rw[if_neg (by rw[e1];decide)]
  exact wpAny_pure (wpAny_pure h)
theorem v9 {Q:Option (Value×Nat)->Shared->Prop}{o:Obj}{xs:lz}(g1:s.heap.get? d=some o)(S:SetAt w o es ep t xs)(hi:i<=es.size)(h:Q (((jb w d ep es)[i]?).map λe=>(e.2,rR w t (i+1))) s):wpAny (model prog w) A (setNext d (rR w t i) i ep) Q E s:=by
 unfold setNext;refine wpAny_bind (wpAny_setState_of g1 S.hd S.fits ?_)
 dsimp only;refine wpAny_bind (g6 ?_)
 by_cases c:ja w=true
 ·rw[if_pos c,bne_self_eq_false]
  simp only[Bool.false_eq_true,if_false];refine wpAny_bind (AZ g1 S (wpAny_pure ?_))
  have e: ∀i,rR w t i=0:=λi=>by unfold rR;rw[if_pos c]
  rw[e] at h⊢;exact h
 ·rw[if_neg c]
  have e0:(!t.plain&&decide (es.size>1))=false:=by rw[S.pl];rfl
  refine wpAny_ite_split (λhab=>absurd (show(!t.plain&&decide (es.size>1))=true from hab) (by rw[e0];decide)) λ_=>?_
  have e1:(!t.led&& !es.isEmpty)=false:=by
   have:=S.led
   unfold ja at c;rw[this,eq_false_of_ne_true c];rfl
  refine wpAny_bind ?_
  show wpAny _ _ (if(!t.led&& !es.isEmpty)=true then unsupported _ else pure PUnit.unit) _ _ _
  rw[if_neg (by rw[e1];decide)]
  refine wpAny_pure ?_
  have zz:=S.T.sz
  unfold sM at zz;rw[List.length_map,<-S.size] at zz;have sl:rR w t i=if i=0 then 0 else t.place.getD (i-1) 0+1:=by unfold rR;rw[if_neg c]
  have sl':rR w t (i+1)=t.place.getD i 0+1:=by unfold rR;rw[if_neg c,if_neg (by omega)];rfl
  rw[sl,yg S.T.sp (by omega)]
  refine wpAny_pure ?_
  have ew:jb w d ep es=es:=by unfold jb;rw[if_neg c]
  rw[ew,sl'] at h
  by_cases ci:i<es.size
  ·have p1:t.place[i]? =some (t.place[i]'(by omega)):=Array.getElem?_eq_getElem (by omega)
   have p2:t.place.getD i 0=t.place[i]'(by omega):=by simp[Array.getD,show i<t.place.size by omega]
   rw[p1];rw[p2] at h;cases ee:es[i]? with
   |none=>rw[Array.getElem?_eq_getElem ci] at ee;cases ee
   |some e=>rw[ee] at h;exact h
  ·rw[Array.getElem?_eq_none (by omega)] at h⊢
   exact h
theorem At {Q:Option Value->Shared->Prop}(hit:IsSetIter w t s.heap it d i es.size ep)(x:RawSet w s.heap d es ep t)(hi:i<es.size)
 (q: ∀h',IsSetIter w t h' it d (i+1) es.size ep->Heap.SameBut it s.heap h'->Q (some ((jb w d ep es)[i]'(by rw[jU];exact hi)).2) {s with heap:=h'}):wpAny (model prog w) A (pyNext (.ref it)) Q E s:=by
 have ty:=hit.ty
 obtain⟨o,k1,k2,k3⟩:=id hit
 obtain⟨od,xs,g1,S⟩:=id x
 unfold pyNext;refine wpAny_bind (wpAny_attempt (wpAny_callSpecial?_slot (name:=Str.ofString "__next__") ty slot_si_next (wpAny_call_entry slot_si_next ty ke ?_ (kL _))))
 unfold Builtin.«set_iterator.__next__» slotArgs;simp only[List.isEmpty_nil,Bool.not_true,Bool.false_eq_true, ↓reduceIte,bind_assoc,List.length_nil,bne_self_eq_false];refine wpAny_bind (wpAny_pure ?_)
 refine wpAny_bind (wpAny_fieldsOf k1 k3 ?_)
 dsimp only;refine wpAny_bind (wpAny_setEntries_of g1 S.hd S.fits ?_)
 rw[bne_self_eq_false];simp only[Bool.false_eq_true,if_false,Int.toNat_natCast];refine wpAny_bind (v9 g1 S (Nat.le_of_lt hi) ?_)
 have lt:i<(jb w d ep es).size:=by rw[jU];exact hi
 rw[Array.getElem?_eq_getElem lt];dsimp only[Option.map_some];refine wpAny_bind (wpAny_setField k1 k3 (by simp) ?_)
 have g2:(s.heap.update it (Obj.mapFields (·.setIfInBounds 0 (rawInt (rR w t (i+1):Nat))))).get? it=some _:=Heap.get?_update_self _ k1 (Obj.isFreed_of_fields (Obj.data_mapFields k3 _))
 refine wpAny_bind (wpAny_setField (s:={s with heap:=s.heap.update it (Obj.mapFields (·.setIfInBounds 0 (rawInt (rR w t (i+1):Nat))))}) g2 (Obj.data_mapFields k3 _) (by simp) ?_)
 have e4:(Obj.mapFields (·.setIfInBounds 1 (rawInt ((i:Int)+1))) (Obj.mapFields (·.setIfInBounds 0 (rawInt (rR w t (i+1):Nat))) o)).data=.fields #[.int (rR w t (i+1)) 0,.int ((i+1:Nat):Int) 0,.ref d,.int es.size 0,.int ep 0]:=by
  rw[Obj.data_mapFields (Obj.data_mapFields k3 _)];simp[rawInt]
 have nx:IsSetIter w t ((s.heap.update it (Obj.mapFields (·.setIfInBounds 0 (rawInt (rR w t (i+1):Nat))))).update it (Obj.mapFields (·.setIfInBounds 1 (rawInt ((i:Int)+1))))) it d (i+1) es.size ep:=
  ⟨_,Heap.get?_update_self _ g2 (Obj.isFreed_of_fields e4),(Obj.cls_mapFields ..).trans ((Obj.cls_mapFields ..).trans k2),e4⟩
 exact wpAny_pure ⟨_,rfl,wpAny_pure (q _ nx ((Heap.SameBut.update ..).trans (Heap.SameBut.update ..)))⟩
theorem Ce {Q:Option Value->Shared->Prop}(calm:A.handled=none)(hit:IsSetIter w t s.heap it d es.size es.size ep)(x:RawSet w s.heap d es ep t)
 (q: ∀h',Heap.ExtBut it s.heap h'->Q none {s with heap:=h'}):wpAny (model prog w) A (pyNext (.ref it)) Q E s:=by
 have ty:=hit.ty
 obtain⟨o,k1,k2,k3⟩:=id hit
 obtain⟨od,xs,g1,S⟩:=id x
 unfold pyNext;refine wpAny_bind (wpAny_attempt (wpAny_callSpecial?_slot (name:=Str.ofString "__next__") ty slot_si_next (wpAny_call_entry slot_si_next ty ke ?_ (kL _))))
 unfold Builtin.«set_iterator.__next__» slotArgs;simp only[List.isEmpty_nil,Bool.not_true,Bool.false_eq_true, ↓reduceIte,bind_assoc,List.length_nil,bne_self_eq_false];refine wpAny_bind (wpAny_pure ?_)
 refine wpAny_bind (wpAny_fieldsOf k1 k3 ?_)
 dsimp only;refine wpAny_bind (wpAny_setEntries_of g1 S.hd S.fits ?_)
 rw[bne_self_eq_false];simp only[Bool.false_eq_true,if_false,Int.toNat_natCast];refine wpAny_bind (v9 g1 S (Nat.le_refl _) ?_)
 rw[Array.getElem?_eq_none (by rw[jU];exact Nat.le_refl _)]
 dsimp only[Option.map_none];refine wpAny_bind (wpAny_setField k1 k3 (by simp) ?_)
 show wpAny _ _ (newExc (.type "StopIteration") []>>=_) _ _ _;refine wpAny_bind ?_
 simp only[newExc,newTuple];refine wpAny_bind (wpAny_newObj_type (wpAny_bind (m:=firstArgMember _ _) (wpAny_of_eq (a:=Value.none) (by first|rfl|(simp only[firstArgMember];rfl)) (wpAny_newObj_type ?_ (by size_fits)))) (by size_fits))
 simp only[raiseNew];refine wpAny_bind (wpAny_handled ?_)
 rw[show A.in1.handled=none from calm];refine wpAny_bind (wpAny_pure (wpAny_throw ?_));refine wpAny_bind (wpAny_isInstance (T:="StopIteration") (b:=true) ⟨_,Heap.get?_push_size _ rfl,rfl⟩ isSubtype_stop ?_)
 exact wpAny_pure (q _ (((Heap.SameBut.update ..).extBut.push _).push _))
theorem IsSetIter.to {h h':Heap}{n:Nat}(x:IsSetIter w t h it d i n ep)(k: ∀o,h.get? it=some o->h'.get? it=some o):IsSetIter w t h' it d i n ep:=let⟨o,h1,r⟩:=x;⟨o,k o h1,r⟩
theorem yB {n:Nat}{Q:Value->Shared->Prop}(hit:IsSetIter w t s.heap it d i n ep)(h:Q (.ref it) s):wpAny (model prog w) A (pyIter (.ref it)) Q E s:=by
 have ty:=hit.ty
 refine wpAny_pyIter_slot ty kK (wpAny_call_entry kK ty oU ?_ (qf _));show wpAny _ _ (ret (.ref it)) _ _ s
 exact wpAny_pure ⟨_,rfl,"set_iterator",_,ty,slot_si_next.lookup,h⟩
theorem xJ(calm:A.handled=none)(I:Addr)(ne:d≠I):Walks prog w A I [I,d] [I] es.size (λi v=> ∃e,(jb w d ep es)[i]? =some e/\v=e.2) (λi h=>IsSetIter w t h I d i es.size ep/\RawSet w h d es ep t) where
 sub:=λb hb=>by simp at hb;simp[hb]
 frame:=λ_ _ _ st hk=>⟨st.1.to λo e=>hk I (by simp) o e,st.2.to λo e=>hk d (by simp) o e⟩
 item:=λi s Q E hi st hQ=>At st.1 st.2 hi λh' it' sb=>hQ _ h' s.toks ⟨_,Array.getElem?_eq_getElem (by rw[jU];exact hi),rfl⟩ ⟨it',st.2.to λo e=>sb.extBut d o ne e⟩ λb o hb e=>sb.extBut b o (λh=>hb (by simp[h])) e
 done:=λs Q E st hQ=>Ce calm st.1 st.2 λh' he'=>hQ h' s.toks λb o hb e=>he' b o (λh=>hb (by simp[h])) e
 self:=λ_ _ _ _ st hQ=>yB st.1 hQ
theorem ye {r:Addr}{Q:Bool->Shared->Prop}(hT:s.TypeIs (.ref r) "set")(h:Q false s):wpAny (model prog w) A (Builtin.List.listLengthHint (.ref r)) Q E s:=by
 unfold Builtin.List.listLengthHint;refine wpAny_bind (wpAny_specialOf hT PySem.F.slot_set_len.lookup ?_)
 generalize hid:("set.__len__":String)=id0;wp_delta
 rw[show splitId id0=some ("set","__len__") from by subst hid;decide+kernel];subst hid
 refine wpAny_bind (wpAny_isInstance (T:="set") (b:=true) hT (by rw[isSubtype_type];kernel_rfl) ?_)
 refine wpAny_ite_split (λhab=>absurd hab (by decide)) (λ_=>?_)
 refine wpAny_ite_split (λ_=>?_) (λhab=>absurd (by decide+kernel) hab)
 refine wpAny_bind (wpAny_typeOf hT ?_)
 exact wpAny_pure h
theorem Cb:KdlSrc prog w "set" d d es.size (λi v=> ∃e,(jb w d ep es)[i]? =some e/\v=e.2) (λh=>RawSet w h d es ep t) where
 type:=λ_ h=>h.ty
 there:=λ_ h=>⟨h.lt,h.lt⟩
 keep:=λ_ _ h hk=>h.to λo e=>hk d (.inl rfl) o e
 notList:=by decide
 notTuple:=by decide
 hint:=λ_ _ _ _ h hq=>ye h.ty hq
 iter:=λ_ _ hh h=>⟨_,_,λ_ _ hq=>Al h hq,xJ hh _ (Nat.ne_of_lt h.lt),⟨_,Heap.get?_push_size _ rfl,rfl,rfl⟩,h.to λo e=>Heap.get?_push_of_some _ e⟩
end
set_option maxHeartbeats 4000000
def fT(w:World):Obj:={cls:=.type "set",dict:=none,data:=.set #[] 0 (.fresh 0 0 (!ja w))}
theorem xH(f m:Nat)(l:Bool):TOk (.fresh f m l) [] where
 pw:=⟨3,by omega,by omega,rfl⟩
 sz:=rfl
 sp:=List.Pairwise.nil
 sd:=List.Pairwise.nil
 lp:=λj h=>by cases h
 ld:=λj h=>by cases h
 dj:=λj h=>by cases h
 fl:=by show 0<=7;omega
 rc:=λx h=>by cases h
theorem yP(w:World):SetOk w (fT w) #[] 0 (.fresh 0 0 (!ja w)) []:=⟨⟨⟨rfl,rfl,rfl⟩,rfl,rfl,xH _ _ _,rfl,rfl,List.nodup_nil⟩,by show 0*5<7*3;omega⟩
section
variable {prog:Program}{w:World}{A:Around}{E:Value->Shared->Prop}{s:Shared}{a b:Addr}{o:Obj}{es:Array (Int×Value)}{ep:Nat}{t:SetTable}{xs:lz}{k:List Int}
theorem AJ {as:List Value}(hc:checkBuiltinCall "set.__new__" ⟨.type "set"::as,[]⟩=pure ()){Q₁:Value->Shared->Prop}(h:Q₁ (.ref s.heap.objs.size) {s with heap:=s.heap.push (fT w)}):codeAny (model prog w) A (.call (.builtin "set.__new__") ⟨.type "set"::as,[]⟩) (wants Q₁ E) s:=by
 refine codeAny_of_tree ?_;show wpAny _ A.in1 (do checkBuiltinCall "set.__new__" ⟨.type "set"::as,[]⟩;again (.builtin "set.__new__" ⟨.type "set"::as,[]⟩)) _ _ s
 refine wpAny_bind (wpAny_of_eq hc (wpAny_pure ⟨plainId_quiet F.plain_set_new _,codeAny_builtin F.entry_set_new ?_⟩));rw[Around.under_plainId F.plain_set_new _]
 unfold Builtin.«set.__new__» Builtin.Frozenset.newClass;have hsub:=sub_set_self
 obtain⟨hp,g,d,tk,os⟩:=s
 dsimp only
 wp_walk;refine wpAny_askSetting (wpAny_pure ?_)
 dsimp only;simp only[newObj];refine wpAny_bind (wpAny_alloc (wpAny_pure ?_))
 exact wpAny_pure h
theorem uW {Q:Value->Shared->Prop}(h:Q (.ref s.heap.objs.size) {s with heap:=s.heap.push (fT w)}):wpAny (model prog w) A (call (.type "set") []) Q E s:=by
 obtain⟨c,tl,hmro⟩:=F.called_set.mro
 have hmade:=F.called_set.made
 have hsub:=F.called_set.sub
 refine wpAny_call (codeAny_of_tree ?_);show wpAny _ _ (callAny (.type "set") _) _ _ _
 refine wpAny_pure ⟨Code.quiet_builtin _ (by decide+kernel),codeAny_builtin F.entry_type_call ?_⟩;rw[Around.under_plain (weight_type_call_type "set" [] []) rfl]
 have h1:=F.called_set.notType
 have h2:=F.called_set.canCreate
 have hct:=F.typeCall_set_0
 repeat (any_goals (first|assumption|wp_step))
 refine codeAny_mono (AJ (E:=E) F.newCall_set_0 (Q₁:=λobj s₁=>obj=.ref s.heap.objs.size/\s₁={s with heap:=s.heap.push (fT w)}) ⟨rfl,rfl⟩) λr s₁ hr=>?_
 cases r with
 |error e=>exact hr
 |ok fl=>
  cases fl with
  |ret obj=>
   obtain⟨rfl,rfl⟩:=hr
   have hS:(s.heap.push (fT w)).get? s.heap.objs.size=some (fT w):=Heap.get?_push_size _ rfl
   have hS:(s.heap.push (fT w)).get? s.heap.objs.size=some {cls:=.type "set",dict:=none,data:=.set #[] 0 (.fresh 0 0 (!ja w))}:=hS
   have hT:Shared.TypeIs {s with heap:=s.heap.push (fT w)} (.ref s.heap.objs.size) "set":=⟨_,hS,rfl⟩
   have hli:=F.called_set.init.lookup
   have hbi:=F.called_set.init.bind (.ref s.heap.objs.size)
   repeat (any_goals (first|assumption|wp_step))
   refine codeAny_mono (codeAny_call_builtin (R:=wants (λr s₂=>r=.none/\Q (.ref s.heap.objs.size) s₂) E) F.called_set.init.plain F.entry_set_init (check_set_init hT ?_)) λr₂ s₂ hr₂=>?_
   ·unfold Builtin.«set.__init__» noKeywords
    wp_walk
    exact⟨rfl,h⟩
   ·cases r₂ with
    |error e=>exact hr₂
    |ok fl₂=>
     cases fl₂ with
     |ret r=>
      obtain⟨rfl,hq⟩:=hr₂
      repeat (any_goals (first|assumption|wp_step))
     |_=>exact hr₂.elim
  |_=>exact hr.elim
theorem SetAt.ty(ho:s.heap.get? a=some o)(S:SetAt w o es ep t xs):s.TypeIs (.ref a) "set":=⟨o,ho,S.ex.1⟩
theorem BX(ho:s.heap.get? a=some o)(S:SetAt w o es ep t xs)(hE:Bw prog w s.heap xs)(hu:A.units+1<cLine)(hk:(KI prog w).is s.heap k b){Q:Value->Shared->Prop}
 (h:Q (.bool (decide (k∈xs.map (·.1)))) {s with toks:=s.toks+(KI prog w).draws k}):wpAny (model prog w) A (compareOp .In (.ref b) (.ref a)) Q E s:=by
 have hT:=SetAt.ty ho S
 show wpAny _ _ (do return .bool (<-contains (.ref a) (.ref b))) Q E s
 refine wpAny_bind ?_
 unfold contains
 try with_reducible refine wpAny_holding ?_
 refine wpAny_bind (wpAny_specialOf hT F.slot_set_contains.lookup ?_);show wpAny _ _ (if(some (Value.builtin "set.__contains__")==some Value.none)=true then _ else _) _ E s
 rw[if_neg (by rw[beq_builtin_none];exact Bool.false_ne_true)];refine wpAny_bind (wpAny_callSpecialUnlessNone?_slot (name:=Str.ofString "__contains__") hT F.slot_set_contains (wpAny_call_entry F.slot_set_contains hT entry_set_contains ?_ (F.args_set_contains_2 _ _)))
 unfold Builtin.«frozenset.__contains__» Builtin.Frozenset.oneOther;simp only[List.isEmpty_nil,bind_assoc];unfold Builtin.Frozenset.addrOf Builtin.Frozenset.withSetAsKey setContains;refine wpAny_bind (wpAny_pure ?_)
 try dsimp only
 refine wpAny_bind (wpAny_pure ?_)
 try dsimp only
 refine wpAny_bind (wpAny_tryCatch ?_)
 refine wpAny_holding ?_
 have hu1:(KI prog w).room A.in1:=tupleKind_room_in1 hu
 refine wpAny_bind ((KI prog w).pyHash hu1 hk ?_)
 rw[zC];refine wpAny_bind (tK (s:={s with toks:=s.toks+(KI prog w).draws k}) ho S hE hu1 hk (λi c hi=>?_) λnk=>?_)
 ·rw[decide_eq_true (List.mem_map.mpr ⟨(k,c),List.mem_of_getElem? hi,rfl⟩)] at h
  refine wpAny_pure ?_
  exact wpAny_pure ⟨_,rfl,wpAny_truthy_bool (wpAny_pure h)⟩
 ·rw[decide_eq_false nk] at h
  refine wpAny_pure ?_
  exact wpAny_pure ⟨_,rfl,wpAny_truthy_bool (wpAny_pure h)⟩
theorem yO(ho:s.heap.get? a=some o)(S:SetOk w o es ep t xs)(hE:Bw prog w s.heap xs)(hu:A.units+1<cLine)(hk:(KI prog w).is s.heap k b)(hlen:xs.length<=1000){Q:Value->Shared->Prop}
 (h: ∀h' o' es' ep' t' xs',Heap.SameBut a s.heap h'->h'.get? a=some o'->SetOk w o' es' ep' t' xs'->((k∈xs.map (·.1)/\xs'=xs)\/(k∉xs.map (·.1)/\xs'.Perm (xs++[(k,b)])))->Q .none {s with heap:=h',toks:=s.toks+(KI prog w).draws k}):
 wpAny (model prog w) A (call (.builtin "set.add") [.ref a,.ref b]) Q E s:=by
 have hT:=SetAt.ty ho S.toSetAt
 have hu1:(KI prog w).room A.in1:=tupleKind_room_in1 hu
 refine wpAny_call_entry F.slot_set_add hT F.entry_set_add ?_ (F.args_set_add_2 _ _)
 unfold Builtin.«set.add» Builtin.Frozenset.oneOther;simp only[List.isEmpty_nil,bind_assoc];unfold Builtin.Frozenset.addrOf setAdd;refine wpAny_bind (wpAny_pure ?_)
 try dsimp only
 refine wpAny_bind (wpAny_pure ?_)
 try dsimp only
 refine wpAny_bind ?_
 refine wpAny_holding (wpAny_bind ((KI prog w).pyHash hu1 hk ?_))
 rw[zC];refine Be (s:={s with toks:=s.toks+(KI prog w).draws k}) ho S hE hu1 hk hlen (λhm=>?_) λnm h' o' es' ep' t' xs' g1 g2 g3 g4=>?_
 ·exact wpAny_pure ⟨_,rfl,h s.heap o es ep t xs (Heap.SameBut.refl a s.heap) ho S (.inl ⟨hm,rfl⟩)⟩
 ·exact wpAny_pure ⟨_,rfl,h h' o' es' ep' t' xs' g1 g2 g3 (.inr ⟨nm,g4⟩)⟩
theorem qY(ho:s.heap.get? a=some o)(S:SetOk w o es ep t xs)(hE:Bw prog w s.heap xs)(hu:A.units+1<cLine)(hk:(KI prog w).is s.heap k b)(hlen:xs.length<=1000){Q:Value->Shared->Prop}
 (h: ∀h' o' es' ep' t' xs',Heap.SameBut a s.heap h'->h'.get? a=some o'->SetOk w o' es' ep' t' xs'->((k∉xs.map (·.1)/\xs'=xs)\/(∃i c,xs[i]? =some (k,c)/\xs'=xs.eraseIdx i))->Q .none {s with heap:=h',toks:=s.toks+(KI prog w).draws k}):
 wpAny (model prog w) A (call (.builtin "set.discard") [.ref a,.ref b]) Q E s:=by
 have hT:=SetAt.ty ho S.toSetAt
 have hu1:(KI prog w).room A.in1:=tupleKind_room_in1 hu
 refine wpAny_call_entry F.slot_set_discard hT F.entry_set_discard ?_ (F.args_set_discard_2 _ _)
 unfold Builtin.«set.discard» Builtin.Frozenset.oneOther;simp only[List.isEmpty_nil,bind_assoc];unfold Builtin.Frozenset.addrOf Builtin.Frozenset.withSetAsKey setDiscard;refine wpAny_bind (wpAny_pure ?_)
 try dsimp only
 refine wpAny_bind (wpAny_pure ?_)
 try dsimp only
 refine wpAny_bind (wpAny_tryCatch ?_)
 refine wpAny_holding (wpAny_bind ((KI prog w).pyHash hu1 hk ?_))
 rw[zC];refine su (s:={s with toks:=s.toks+(KI prog w).draws k}) ho S hE hu1 hk hlen (λnm=>?_) λhm h' o' es' ep' t' xs' g1 g2 g3 g4=>?_
 ·exact wpAny_pure ⟨_,rfl,h s.heap o es ep t xs (Heap.SameBut.refl a s.heap) ho S (.inl ⟨nm,rfl⟩)⟩
 ·exact wpAny_pure ⟨_,rfl,h h' o' es' ep' t' xs' g1 g2 g3 (.inr g4)⟩
end
def rS(i:Nat)(ρ:aF):Option (List (List Int)):=match ρ[i]? with
 |some (.ob (.tset ks))=>some ks
 |_=>none
theorem lI {i:Nat}{ρ:aF}{ks:List (List Int)}(h:rS i ρ=some ks):ρ[i]? =some (.ob (.tset ks)):=by
 unfold rS at h;split at h
 ·cases h;assumption
 ·cases h
abbrev mZ(xs:lz):List V:=xs.map λx=>V.ref x.2
abbrev Ak(xs:lz):List D:=xs.map λx=>D.tup (x.1.map D.int)
section
variable {K:W.Frag}{c:Ct}{hid:bK}{ρ:aF}{σ:St}{H:Hp}{a:Addr}
theorem SR.setT(h:SR K c hid ρ σ H){i:Nat}{ks:List (List Int)}(e:rS i ρ=some ks): ∃a xs,σ[i]? =some (some (.ref a))/\hid a=true/\c.H₀ a=none/\H a=some (.tst xs)/\(xs.map (·.1)).Perm ks/\Reps K (vw H hid) (mZ xs) (Ak xs):=by
 obtain⟨a,h1,⟨h2,h3⟩,us,h4,h5,h6⟩:=h.sl i _ (lI e)
 exact⟨a,us,h1,h2,h3,h4,h5,h6⟩
theorem SR.putS {i:Nat}{ks ks':List (List Int)}{xs':lz}(h:SR K c hid ρ σ H)(hg:rS i ρ=some ks)(ha:σ[i]? =some (some (.ref a)))(p:(xs'.map (·.1)).Perm ks')(r:Reps K (vw H hid) (mZ xs') (Ak xs')):SR K c hid (ρ.set i (.ob (.tset ks'))) σ (bM H a (.tst xs')):=by
 obtain⟨a1,us,h1,h2,h3,h4,h5,h6⟩:=h.setT hg
 rw[ha] at h1;cases h1;have lt:i<ρ.length:=(List.getElem?_eq_some_iff.mp (lI hg)).1
 have vv:vw (bM H a (.tst xs')) hid=vw H hid:=eD h2
 have tr': ∀b o,H b=some o-> ∃o2,(bM H a (.tst xs')) b=some o2:=λb o q=>by
  by_cases e:b=a
  ·subst e;exact⟨_,aK⟩
  ·exact⟨o,by rw[aH e];exact q⟩
 have owi:Ow ρ[i]? :=by rw[lI hg];trivial
 have ne: ∀(j:Nat) (s:Sl) (a':Addr),j≠i->ρ[j]? =some s->Ow (some s)->σ[j]? =some (some (.ref a'))->a'≠a:=λj s a' n e o q w=>by
  subst w;exact h.ap j i a' n (by rw[e];exact o) owi q ha
 have ows: ∀j:Nat,Ow (ρ.set i (.ob (.tset ks')))[j]? ->Ow ρ[j]? :=λj o=>by
  by_cases e:j=i
  ·subst e;exact owi
  ·rw[List.getElem?_set_ne (Ne.symm e)] at o;exact o
 refine⟨λb hb=>let⟨o,q⟩:=h.tr b hb;tr' b o q,λb xs hb q=>by
  by_cases e:b=a
  ·subst e;rw[aK] at q;cases q
  ·rw[aH e] at q;exact h.ht b xs hb q,h.h0,λb o q m=>?_,λb o q=>let⟨o2,q2⟩:=h.t0 b o q;tr' b o2 q2,h.c0,h.m0,by simp[h.len],λj s e=>?_,λj l z n o1 o2=>h.ap j l z n (ows j o1) (ows l o2)⟩
 ·rw[aH (bd q h3)];exact h.kp b o q m
 ·by_cases ej:j=i
  ·subst ej
   rw[List.getElem?_set_self lt] at e;cases e
   exact⟨a,ha,⟨h2,h3⟩,xs',aK,p,by rw[vv];exact r⟩
  ·rw[List.getElem?_set_ne (Ne.symm ej)] at e
   have z:=h.sl j s e
   cases s with
   |no=>trivial
   |v d=>obtain⟨x,h1,h2⟩:=z;exact⟨x,h1,by rw[vv];exact h2⟩
   |own ds=>obtain⟨a',xs,h1,h2,h3,h4,h5⟩:=z;exact⟨a',xs,h1,by rw[aH (ne j _ a' ej e trivial h1)];exact h2,h3,h4,by rw[vv];exact h5⟩
   |arg ds=>obtain⟨a',xs,h1,h2,h3,h4,h5⟩:=z;exact⟨a',xs,h1,by rw[aH (ne j _ a' ej e trivial h1)];exact h2,h3,h4,by rw[vv];exact h5⟩
   |ob b=>obtain⟨a',h1,h2⟩:=z;exact⟨a',h1,h2.mono (λow o q=>by rw[aH (ne j _ a' ej e ow h1)];exact q) (by rw[vv];exact Same.refl _) λ_ q=>q⟩
end
theorem items_int {prog:Program}{w:World}: ∀ {ns:List Int} {us:List Value},Vals (ns.map V.int) us->PySem.ItemsAre (intKind prog w) ns us
 | [],_,h=>by cases h;exact .nil
 |n::ns,_,h=>by
  cases h with
  |cons r rs=>
   obtain⟨t,rfl⟩:=r
   exact .cons (intKind_is _ _ _ _) (items_int rs)
section
variable {X:Cx}{ae:List (Addr×Obj)}{σ:St}{H:Hp}{s:Shared}{a b:Addr}{A:Around}{E:Value->Shared->Prop}
theorem nr {ks:List Int}(I:Inv X ae σ H s)(h:SqT X.K H b (ks.map V.int)):(KI X.prog X.w).is s.heap ks b:=by
 obtain⟨its,r,⟨o,h1,h2,n,h3⟩,_⟩:=I.tuple h
 exact⟨o,its.toArray,n,h1,h2,h3,by simpa using items_int r⟩
theorem uE {xs:lz}(I:Inv X ae σ H s)(h: ∀x∈xs,SqT X.K H x.2 (x.1.map V.int)):Bw X.prog X.w s.heap xs:=λx hx=>nr I (h x hx)
def GG:List V->Hp->VK->Prop:=λxs H Q=>xs=[]/\ ∀a,H a=none->Q (.ref a) (bM H a (.tst []))
theorem uV:dP X (.type "set") GG:=by
 intro ae s σ H xs us Q I r h;obtain⟨rfl,q⟩:=h
 cases r
 refine uW ?_
 exact⟨.ref s.heap.objs.size,_,I.laid (t':=s.toks) (λb o e=>Heap.get?_push_of_some _ e) (Nat.le_refl _) (show ObjOk X.prog X.w _ _ _ (.tst []) from⟨_,_,_,_,Heap.get?_push_size _ rfl,yP _⟩),rfl,q _ (I.hok.fresh (Nat.le_refl _))⟩
def Gx(zs:lz)(k:List Int)(b:Addr)(zs':lz):Prop:=(k∈zs.map (·.1)/\zs'=zs)\/(k∉zs.map (·.1)/\zs'.Perm (zs++[(k,b)]))
def GK(zs:lz)(k:List Int)(zs':lz):Prop:=(zs.map (·.1)).Nodup/\((k∉zs.map (·.1)/\zs'=zs)\/(∃(i:Nat) (c:Addr),zs[i]? =some (k,c)/\zs'=zs.eraseIdx i))
def GM(K:W.Frag):V->List V->Hp->VK->Prop:=λx xs H Q=> ∃a b zs k,x=.ref a/\xs=[.ref b]/\H a=some (.tst zs)/\SqT K H b (k.map V.int)/\(∀z∈zs,SqT K H z.2 (z.1.map V.int))/\zs.length<=1000/\ ∀zs',Gx zs k b zs'->Q .non (bM H a (.tst zs'))
def Ge(K:W.Frag):V->List V->Hp->VK->Prop:=λx xs H Q=> ∃a b zs k,x=.ref a/\xs=[.ref b]/\H a=some (.tst zs)/\SqT K H b (k.map V.int)/\(∀z∈zs,SqT K H z.2 (z.1.map V.int))/\zs.length<=1000/\ ∀zs',GK zs k zs'->Q .non (bM H a (.tst zs'))
theorem vU {h':Heap}{t':Nat}{o':Obj}{es':Array (Int×Value)}{ep':Nat}{tb':SetTable}{xs zs':lz}(I:Inv X ae σ H s)(e:H a=some (.tst xs))(hs:Heap.SameBut a s.heap h')(hg:h'.get? a=some o')(S:SetOk X.w o' es' ep' tb' zs'):
 Inv X ae σ (bM H a (.tst zs')) {s with heap:=h',toks:=t'}:=I.write (x:=a) (e:=a) (by rw[e];trivial) (.inl rfl) (λb u hb hu=>(hs.2 b hb).trans hu) ⟨_,hg⟩ ⟨_,_,_,_,hg,S⟩
theorem BE(hu:X.A.units+1<cLine):Ip X "set.add" (GM X.K):=by
 intro ae s σ H x xs v us Q I rx rv h;obtain⟨a,b,zs,k,rfl,rfl,hH,hb,hz,hl,q⟩:=h
 cases rx
 obtain⟨u,rfl,ru⟩:=rv.one
 cases ru
 obtain⟨o,es,ep,t,ho,S⟩:=(show ObjOk X.prog X.w H s.heap a (.tst zs) from I.hok a _ hH)
 refine yO ho S (uE I hz) hu (nr I hb) hl λh' o' es' ep' t' xs' g1 g2 g3 g4=>?_
 exact⟨.non,_,vU I hH g1 g2 g3,rfl,q _ g4⟩
theorem CD(hu:X.A.units+1<cLine):Ip X "set.discard" (Ge X.K):=by
 intro ae s σ H x xs v us Q I rx rv h;obtain⟨a,b,zs,k,rfl,rfl,hH,hb,hz,hl,q⟩:=h
 cases rx
 obtain⟨u,rfl,ru⟩:=rv.one
 cases ru
 obtain⟨o,es,ep,t,ho,S⟩:=(show ObjOk X.prog X.w H s.heap a (.tst zs) from I.hok a _ hH)
 refine qY ho S (uE I hz) hu (nr I hb) hl λh' o' es' ep' t' xs' g1 g2 g3 g4=>?_
 exact⟨.non,_,vU I hH g1 g2 g3,rfl,q _ ⟨S.nd,g4⟩⟩
end
section
variable {X:Cx}{o i:Expr}{pos:Pos}{td ty:TE}
def Ib(K:W.Frag)(ty td:TE):TE:=λσ H Q=>ty σ H λy H1=>td σ H1 λx H2=> ∃a b zs k,x=.ref a/\y=.ref b/\H2 a=some (.tst zs)/\SqT K H2 b (k.map V.int)/\(∀z∈zs,SqT K H2 z.2 (z.1.map V.int))/\Q (.bl (decide (k∈zs.map (·.1)))) H2
theorem DH(hu:X.A.units+1<cLine)(hi:PE X i ty)(ho:PE X o td):PC X .In i o (Ib X.K ty td):=by
 intro ae s σ H Q I h;refine bI (hi ae s σ H _ I h) λiv s1 ⟨y,H1,I1,ry,q1⟩=>bI (ho ae s1 σ H1 _ I1 q1) λu s2 hq_=>?_
 obtain⟨x,H2,I2,rx,a,b,zs,k,ex,ey,g1,g2,g3,q2⟩:=hq_
 subst ex ey;obtain rfl:u=Value.ref a:=rx
 obtain rfl:iv=Value.ref b:=ry
 obtain⟨o,es,ep,t,ho,S⟩:=(show ObjOk X.prog X.w H2 s2.heap a (.tst zs) from I2.hok a _ g1)
 refine BX ho S.toSetAt (uE I2 g3) hu (nr I2 g2) ?_
 have q2:Q (.bl (decide (k∈List.map (λx:List Int×Addr=>x.1) zs))) H2:=q2
 generalize decide (k∈List.map (λx:List Int×Addr=>x.1) zs)=bb at q2⊢
 exact⟨.bl bb,H2,I2.tok _,rfl,q2⟩
end
abbrev Iy(K:W.Frag)(H:Hp):List V->List (List Int)->Prop:=Paired λy ks=> ∃b,y=.ref b/\SqT K H b (ks.map V.int)
theorem zM {K:W.Frag}{H:Hp}: ∀ {zs:lz},(∀z∈zs,SqT K H z.2 (z.1.map V.int))->Iy K H (mZ zs) (zs.map (·.1))
 | [],_=>.nil
 |z::zs,h=>.cons ⟨z.2,rfl,h z List.mem_cons_self⟩ (zM λy hy=>h y (List.mem_cons_of_mem _ hy))
theorem wt {K:W.Frag}{H:Hp}: ∀ {ys:List V} {kss:List (List Int)} {i:Nat},Iy K H ys kss->i<kss.length-> ∃b,ys.getD i .non=.ref b/\SqT K H b ((kss.getD i []).map V.int)
 |_,_,_,.nil,e=>by simp at e
 |_,_,0,.cons h _,e=>by obtain⟨b,h1,h2⟩:=h;exact⟨b,by simpa using h1,by simpa using h2⟩
 |_,_,i+1,.cons _ r,e=>by
  obtain⟨b,h1,h2⟩:=wt (i:=i) r (by simpa using e)
  exact⟨b,by simpa using h1,by simpa using h2⟩
theorem sL: ∀zs:lz,Vals (mZ zs) (zs.map λx=>Value.ref x.2)
 | []=>.nil
 |_::zs=>.cons rfl (sL zs)
theorem nC {α β:Type}(f:α->β){l m:List β}(p:l.Perm m): ∀zs:List α,m=zs.map f-> ∃zs':List α,zs'.Perm zs/\l=zs'.map f:=by
 induction p with
 |nil=>intro zs e;exact⟨zs,List.Perm.refl _,e⟩
 |cons x p ih=>
  intro zs e;cases zs with
  |nil=>cases e
  |cons z zs=>
   rw[List.map_cons] at e;injection e with e1 e2
   obtain⟨zs',h1,h2⟩:=ih zs e2
   exact⟨z::zs',h1.cons z,by rw[e1,h2];rfl⟩
 |swap x y l=>
  intro zs e;cases zs with
  |nil=>cases e
  |cons z zs=>
   cases zs with
   |nil=>cases e
   |cons z2 zs=>
    rw[List.map_cons,List.map_cons] at e;injection e with e1 e2
    injection e2 with e2 e3
    exact⟨z2::z::zs,List.Perm.swap z z2 zs,by rw[e1,e2,e3];rfl⟩
 |trans p1 p2 ih1 ih2=>
  intro zs e;obtain⟨zs1,h1,h2⟩:=ih2 zs e
  obtain⟨zs2,h3,h4⟩:=ih1 zs1 h2
  exact⟨zs2,h3.trans h1,h4⟩
theorem mw {k l:List (List Int)}(h:k.Perm l):bP cm k=bP cm l:=mJ xD ((dq k).trans h) (jS xD k)
section
variable {X:Cx}
open PySem.W
theorem rG(hc:X.calm=true):dP X (.builtin "sorted") (λxs H Q=> ∃a zs,xs=[.ref a]/\H a=some (.tst zs)/\(∀z∈zs,SqT X.K H z.2 (z.1.map V.int))/\zs.length<64/\(∀z∈zs,z.1≠[])/\
 ∀l (zs':lz),H l=none->(∀z∈zs',z∈zs)->zs'.map (·.1)=bP cm (zs.map (·.1))->Q (.ref l) (bM H l (.lst (mZ zs')))):=by
 intro ae s σ H xs vs Q I r h;obtain⟨a,zs0,rfl,ha,hsq0,hz0,hne0,q⟩:=h
 obtain⟨u,rfl,rx⟩:=kc r
 cases rx
 obtain⟨o,es,ep,t,ho,S⟩:=(show ObjOk X.prog X.w H s.heap a (.tst zs0) from I.hok a _ ha)
 obtain⟨zs,pz,ez⟩:=nC BG (pP X.w a ep es) zs0 S.he
 have hsq: ∀z∈zs,SqT X.K H z.2 (z.1.map V.int):=λz hz=>hsq0 z (pz.mem_iff.mp hz)
 have hne: ∀k∈zs.map (·.1),k≠[]:=λk hk=>by
  obtain⟨z,hz,rfl⟩:=List.mem_map.mp hk
  exact hne0 z (pz.mem_iff.mp hz)
 have hz:zs.length<64:=by rw[pz.length_eq];exact hz0
 have ky:=zM hsq
 obtain⟨kss,hkss⟩: ∃kss,kss=zs.map (·.1):=⟨_,rfl⟩
 rw[<-hkss] at ky hne;have lk:kss.length=zs.length:=by rw[hkss,List.length_map]
 obtain⟨its,hits⟩: ∃its,its=zs.map λx=>Value.ref x.2:=⟨_,rfl⟩
 have li:its.length=kss.length:=by rw[hits,List.length_map,lk]
 have rv:Vals (mZ zs) its:=by rw[hits];exact sL zs
 have sz:es.size=its.length:=by rw[S.toSetAt.size,<-pz.length_eq,li,lk]
 have raw:RawSet X.w s.heap a es ep t:=⟨o,zs0,ho,S.toSetAt⟩
 have gi: ∀i,i<kss.length-> ∃(b:Addr) (o:Obj) (ts:List Value) (n:Nat),its.getD i Value.none=.ref b/\s.heap.get? b=some o/\o.cls=.type "tuple"/\o.data=.seq ts.toArray n/\qN ts (kss.getD i []):=λi hi=>by
  obtain⟨b,h1,h2⟩:=wt ky hi
  have r1:=mB rv i
  rw[h1] at r1;obtain⟨ts,r',⟨o,ho,hc,n,hd⟩,_⟩:=I.tuple h2
  exact⟨b,o,ts,n,r1,ho,hc,hd,Db r'⟩
 have kt: ∀(g:Heap),(∀c o,s.heap.get? c=some o->g.get? c=some o)-> ∀(l:List Value) (ms:List (List Int)),l.length=ms.length->(∀i,i<ms.length-> ∃(b:Addr) (o:Obj) (ts:List Value) (n:Nat),l.getD i Value.none=.ref b/\s.heap.get? b=some o/\o.cls=.type "tuple"/\o.data=.seq ts.toArray n/\qN ts (ms.getD i []))->(∀k∈ms,k≠[])->
  ∃fs,KatTups g l fs/\fs.length=l.length/\ ∀v∈fs,∃i t,v=Value.int i t:=by
  intro g kg l
  induction l with
  |nil=>intro ms _ _ _;exact⟨[],.nil,rfl,λ_ h=>nomatch h⟩
  |cons v l ih=>
   intro ms hl hg hk;cases ms with
   |nil=>cases hl
   |cons m ms=>
    obtain⟨fs,f1,f2,f3⟩:=ih ms (by simpa using hl) (λi hi=>by simpa using hg (i+1) (by simpa using hi)) λk hk'=>hk k (by simp[hk'])
    obtain⟨b,o,ts,n,g1,g2,g3,g4,g5⟩:=hg 0 (by simp)
    simp[List.getD] at g1 g5;subst g1;cases m with
    |nil=>exact absurd rfl (hk [] (by simp))
    |cons x xs=>
     cases g5 with
     |cons y1 y2=>
      obtain⟨t,rfl⟩:=y1
      refine⟨_,KatTups.cons (kg _ _ g2) g3 g4 (by simp;rfl) f1,by simp[f2],λv hv=>?_⟩
      rcases List.mem_cons.mp hv with rfl|hv
      ·exact⟨_,_,rfl⟩
      ·exact f3 v hv
 refine uf (us:=its) (G:=λix=>(∀i∈ix,i<kss.length)/\ix.map (λi=>kss.getD i [])=bP cm kss) (sz▸Cb (es:=es) (ep:=ep) (t:=t)) (λi v hi hv=>?_) (I.ok.hd hc) raw (by omega) (λfew=>⟨λi hi=>?_,?_⟩) (λh2 g tk kg=>?_) (λg tk p e ix kg hp hG hg=>?_)
 ·obtain⟨e,h1,rfl⟩:=hv
  rw[<-Array.getElem?_toList,ez,List.getElem?_map] at h1;obtain⟨x,h2,rfl⟩:=Option.map_eq_some_iff.mp h1
  rw[hits,List.getElem?_map,h2];rfl
 ·rw[List.mem_range] at hi;omega
 ·rw[li,kq,iX (by omega)]
 ·obtain⟨fs,f1,f2,f3⟩:=kt g kg its kss li gi hne
  refine kat_kind (T:=.type "int") f1 (by omega) (λv hv=>?_) (by rfl) ⟨rfl,?_⟩
  ·obtain⟨i,t,rfl⟩:=f3 v hv;exact Looks.now
  ·rw[li]
   refine qB (b:=λi j=>cm (kss.getD i []) (kss.getD j [])) (Af xD _) (by omega) (λi j C hi hj hC=>?_) λp P S=>⟨rfl,?_,?_⟩
   ·obtain⟨b1,o1,ts1,n1,x1,x2,x3,x4,x5⟩:=gi i hi
    obtain⟨b2,o2,ts2,n2,y1,y2,y3,y4,y5⟩:=gi j hj
    unfold kas_ask;rw[x1,y1];refine kat_lt (kg _ _ x2) x4 (kg _ _ y2) y4 ?_
    refine rH 0 x5 y5 ?_ hC
    have z1:=Paired.length x5
    have z2:=Paired.length y5
    simp[z1,z2]
   ·intro i hi
    have:=P.perm.mem_iff.mp (Array.mem_toList_iff.mp hi)
    simpa using this
   ·exact jr xD P S
 ·have lt: ∀i∈ix,i<zs.length:=λi hi=>by have:=hG.1 i hi;omega
  have e1:(ix.map λi=>zs.getD i ([],0)).map (·.1)=bP cm (zs0.map (·.1)):=by
   rw[<-mw (pz.map (·.1)),<-hkss,<-hG.2,List.map_map]
   refine List.map_congr_left λi hi=>?_
   have:=lt i hi
   rw[hkss];simp[List.getD,this]
  have e2:mZ (ix.map λi=>zs.getD i ([],0))=ix.map λi=>(mZ zs).getD i .non:=by
   show(ix.map λi=>zs.getD i ([],0)).map (λx=>V.ref x.2)=_
   rw[List.map_map];refine List.map_congr_left λi hi=>?_
   have:=lt i hi
   simp[mZ,List.getD,this]
  have ll:ix.length=zs0.length:=by
   have:=congrArg List.length e1
   rw[List.length_map,List.length_map,(dq (lt:=cm) (zs0.map (·.1))).length_eq,List.length_map] at this
   exact this
  have qq:=q p (ix.map λi=>zs.getD i ([],0)) (I.hok.fresh hp) (λz hz=>by
   obtain⟨i,hi,rfl⟩:=List.mem_map.mp hz
   have:=lt i hi
   refine pz.mem_iff.mp ?_
   simp[List.getD,this]) e1
  rw[e2] at qq;refine⟨.ref p,_,I.laid (t':=tk) kg hp (show ObjOk X.prog X.w _ g _ (.lst (ix.map λi=>(mZ zs).getD i .non)) from⟨?_,_,e,lY rv ix,hg⟩),rfl,qq⟩
  rw[List.length_map,ll,sizeLine_eq];omega
end
theorem fO {K:W.Frag}{F:Hp}: ∀ {xs:lz},Reps K F (mZ xs) (Ak xs)-> ∀x∈xs,Rep K F (.ref x.2) (.tup (x.1.map D.int))
 | [],_,x,h=>by cases h
 |y::xs,r,x,h=>by
  cases r with
  |cons r rs=>
   rcases List.mem_cons.mp h with rfl|h
   ·exact r
   ·exact fO rs x h
theorem kN {K:W.Frag}{F:Hp}: ∀ {xs:lz},(∀x∈xs,Rep K F (.ref x.2) (.tup (x.1.map D.int)))->Reps K F (mZ xs) (Ak xs)
 | [],_=>.nil
 |x::xs,h=>.cons (h x List.mem_cons_self) (kN λy hy=>h y (List.mem_cons_of_mem _ hy))
theorem qd {K:W.Frag}{H:Hp}{hid:bK}{b:Addr}{ns:List Int}(h:Rep K (vw H hid) (.ref b) (.tup (ns.map D.int))):SqT K H b (ns.map V.int):=by
 obtain⟨b',z,e,_,h2,h3⟩:=(show Rep1 K H (vw H hid) (.ref b) (.tup (ns.map D.int)) from .inl h).tup
 cases e
 rw[nX h3,List.map_map] at h2;exact h2
section
variable {X:Cx}{c:Ct}{k k1 k2:Kd}{e f ev:Expr}{es:List Expr}{fe ff fk fv:FE}{fs:FA}{pos pos' py apos cpos p:Pos}{x y:Str}{x1:_}
def yG(i:Nat):FS:=λρ=>.nx (ρ.set i (.ob (.tset [])))
theorem B6(i:Nat)(hn:X.N.Nodup)(hm:X.mg "set"=none)(hi:X.N[i]? =some x:=by rfl)(hx:yc X.env.scope x:=by first|exact Or.inl rfl|exact Or.inr rfl)(hs:swapsWith (.Call (.Name "set" p) [] [] cpos) (some (.Name x pos')) pos.line X.env=pure false:=by rfl)
 (hf:X.fn x=true\/X.env.scope.names.lookup x=some .local:=by first|exact .inl rfl|exact .inr rfl|assumption) (hg:Gl X "set":=by rfl) (hv:bootBuiltins "set"=some (.type "set"):=by kernel_rfl):DS X c k (.Assign [.Name x pos'] (.Call (.Name "set" p) [] [] cpos) pos) (yG i):=λρ=>PS.imp (oC hn hi hx (uH uV hg hm hv) hs hf) λD σ H hq_=>by
 obtain⟨hid,sr,q⟩:=hq_
 refine⟨rfl,λa ha=>?_⟩
 have sm:=aW ha (.tst [])
 have nf:=sr.fresh ha
 refine q _ _ (aZ hid a) (SR.setD (a:=a) (b:=.tset []) (sr.hide sm ha aK) ⟨⟨eU,sr.fresh0 ha⟩,[],aK,List.Perm.refl _,.nil⟩ (sr.notOw nf) i) λb o w=>?_
 obtain⟨w1,w2⟩:=vw_some.mp w
 refine vw_some.mpr ⟨?_,sm b o w2⟩
 unfold aZ;rw[w1];have:b≠a:=bd w2 ha
 simp[this]
def wL(i:Nat)(fk:FE):FT:=λρ=>(rS i ρ).bind λks=>((fk ρ).bind rV).map λk=>decide (k∈ks)
theorem CC(i:Nat)(hu:X.A.units+1<cLine)(he:DP X c k1 e fe)(hN:X.N[i]? =some y:=by rfl)(hv':qI X.env.scope y:=by first|exact Or.inl rfl|exact Or.inr (Or.inl rfl)|exact Or.inr (Or.inr rfl))(hd:(y==("__debug__":Str))=false:=by decide)
 (hcd:(y==("__classdict__":Str))=false:=by decide) (hm:behindInMarks .In (.Name y py)=false:=by rfl):DT X c (.Compare e [.In] [.Name y py] pos) (wL i fe):=λhid ρ=>
 PT.imp (Et (DH hu (he hid ρ) (pv i hN hv' hd hcd)) hm) λσ H Q hq_=>by
  obtain⟨sr,d,hd,q⟩:=hq_
  obtain⟨ks,e0,hd⟩:=Option.bind_eq_some_iff.mp hd
  obtain⟨kk,e1,rfl⟩:=Option.map_eq_some_iff.mp hd
  obtain⟨dk,e3,e4⟩:=Option.bind_eq_some_iff.mp e1
  have e5:=jP e4
  subst e5;obtain⟨a,xs,a1,a2,a3,a4,a5,a6⟩:=sr.setT e0
  refine⟨sr,_,e3,λz H2 s2 r2=>⟨.ref a,a1,?_⟩⟩
  obtain⟨b,rfl,hb⟩:=rA (RK.b k1 r2 λa n=>sr.fresh n)
  have hb:SqT X.K H2 b (kk.map V.int):=by unfold iK at hb;rw[List.map_map] at hb;exact hb
  refine⟨a,b,xs,kk,rfl,rfl,s2 _ _ a4,hb,λz hz=>qd ((fO a6 z hz).mono (aQ s2)),_,rfl,?_⟩
  rw[show decide (kk∈xs.map (·.1))=decide (kk∈ks) from decide_eq_decide.mpr a5.mem_iff]
  exact q H2 s2
def j7(ks:List (List Int))(k:List Int):List (List Int):=if k∈ks then ks else ks++[k]
def lq(ks:List (List Int))(k:List Int):List (List Int):=ks.filter λx=>decide (x≠k)
def oT(op:List (List Int)->List Int->List (List Int))(i:Nat)(fk:FE):GE:=λρ=>(rS i ρ).bind λks=>((fk ρ).bind rV).bind λk=>if ks.length<=1000 then some (.non,ρ.set i (.ob (.tset (op ks k)))) else none
theorem yR {zs zs':lz}{ks:List (List Int)}{k:List Int}{b:Addr}(h:Gx zs k b zs')(p:(zs.map (·.1)).Perm ks):(zs'.map (·.1)).Perm (j7 ks k)/\ ∀z∈zs',z∈zs\/z=(k,b):=by
 unfold j7;rcases h with⟨h1,rfl⟩|⟨h1,h2⟩
 ·rw[if_pos (p.mem_iff.mp h1)]
  exact⟨p,λz hz=>.inl hz⟩
 ·rw[if_neg λw=>h1 (p.mem_iff.mpr w)]
  refine⟨(h2.map (·.1)).trans ?_,λz hz=>?_⟩
  ·rw[List.map_append]
   exact p.append (List.Perm.refl _)
  ·rcases List.mem_append.mp (h2.mem_iff.mp hz) with q|q
   ·exact .inl q
   ·exact .inr (by simpa using q)
theorem AX {zs zs':lz}{ks:List (List Int)}{k:List Int}(h:GK zs k zs')(p:(zs.map (·.1)).Perm ks):(zs'.map (·.1)).Perm (lq ks k)/\ ∀z∈zs',z∈zs:=by
 obtain⟨nd,h⟩:=h
 unfold lq;have pf:=p.filter λx=>decide (x≠k)
 rcases h with⟨h1,rfl⟩|⟨i,c,h1,rfl⟩
 ·refine⟨?_,λz hz=>hz⟩
  have:(zs'.map (·.1)).filter (λx=>decide (x≠k))=zs'.map (·.1):=List.filter_eq_self.mpr λx hx=>decide_eq_true λw=>h1 (w▸hx)
  rw[this] at pf;exact pf
 ·refine⟨?_,λz hz=>List.mem_of_mem_eraseIdx hz⟩
  refine List.Perm.trans ?_ pf
  have e1:(zs.map (·.1))[i]? =some k:=by rw[List.getElem?_map,h1];rfl
  rw[<-oj]
  generalize zs.map (·.1)=l at e1 nd
  refine(List.perm_ext_iff_of_nodup (List.Nodup.sublist (List.eraseIdx_sublist _ _) nd) (List.Nodup.sublist List.filter_sublist nd)).mpr λx=>?_
  rw[List.mem_eraseIdx_iff_getElem?,List.mem_filter,decide_eq_true_eq];constructor
  ·rintro⟨j,ne,e⟩
   refine⟨List.mem_of_getElem? e,λw=>ne ?_⟩
   subst w;exact(List.getElem?_inj (List.getElem?_eq_some_iff.mp e).1 nd).mp (e.trans e1.symm)
  ·rintro⟨h,ne⟩
   obtain⟨j,hj⟩:=List.mem_iff_getElem?.mp h
   exact⟨j,λw=>by subst w;rw[e1] at hj;cases hj;exact ne rfl,hj⟩
theorem Cv(i:Nat)(hu:X.A.units+1<cLine)(he:DP X c .s e fe)
 (hN:X.N[i]? =some y:=by rfl) (hv:qI X.env.scope y:=by first|exact Or.inl rfl|exact Or.inr (Or.inl rfl)|exact Or.inr (Or.inr rfl)) (hd:(y==("__debug__":Str))=false:=by decide) (hcd:(y==("__classdict__":Str))=false:=by decide)
 (hbase:attributeBase (.Name y py) "add" X.env (eval (.Name y py) X.env)=eval (.Name y py) X.env:=by rfl)
 (hfew:((backTo pos (starEach [e] X.env)).all (λx=> !x.1)&&(backToKw pos (keywordEach [] X.env)).all (λx=>x.1.isSome)&&decide ([e].length+([]:List Keyword).length+(if([]:List Keyword).isEmpty then 0 else 1)<30))=true:=by rfl)
 (hline:(apos.endLine==pos.line)=true:=by rfl) (hs:starEach [e] X.env=(false,eval e X.env)::starEach [] X.env:=by rfl) (hplain:(backTo pos (starEach [] X.env)).any (·.1)=false:=by rfl):
 DE X c .s (.Call (.Attribute (.Name y py) "add" apos) [e] [] pos) (oT j7 i fe):=λhid ρ=>
 PE.imp (zU PySem.F.plainAttrs_set PySem.F.slot_set_add PySem.F.type_set_add (BE hu) (pv i hN hv hd hcd) (dZ (he hid ρ) iH hs) hbase hfew hline hs hplain) λσ H Q hq_=>by
  obtain⟨sr,d,ρ',hd',q⟩:=hq_
  obtain⟨ks,e0,hd'⟩:=Option.bind_eq_some_iff.mp hd'
  obtain⟨kk,e1,hd'⟩:=Option.bind_eq_some_iff.mp hd'
  obtain⟨dk,e3,e4⟩:=Option.bind_eq_some_iff.mp e1
  split at hd'
  ·rename_i hz
   cases hd'
   have e5:=jP e4
   subst e5;obtain⟨a,xs,a1,a2,a3,a4,a5,a6⟩:=sr.setT e0
   refine⟨.ref a,a1,.inr (.inr (.inr (.inr ⟨rfl,xs,a4⟩))),sr,_,e3,λz H2 s2 r2=>?_⟩
   have r2:Rep X.K (vw H2 hid) z (.tup (kk.map D.int)):=r2
   obtain⟨b,rfl,hb⟩:=rA (.inl r2)
   have hb:=qd r2
   refine⟨a,b,xs,kk,rfl,rfl,s2 _ _ a4,hb,λz hz=>qd ((fO a6 z hz).mono (aQ s2)),by have:=a5.length_eq;rw[List.length_map] at this;omega,λzs' hzs=>?_⟩
   obtain⟨g1,g2⟩:=yR hzs a5
   refine q _ _ ⟨λb' o w hb'=>?_,(sr.ext s2).putS e0 a1 g1 (kN λz hz=>?_),.non⟩
   ·rw[aH λw'=>by subst w';rw[a2] at hb';cases hb'];exact s2 _ _ w
   ·rcases g2 z hz with h|rfl
    ·exact(fO a6 z h).mono (aQ s2)
    ·exact r2
  ·cases hd'
theorem CT(i:Nat)(hu:X.A.units+1<cLine)(he:DP X c .s e fe)
 (hN:X.N[i]? =some y:=by rfl) (hv:qI X.env.scope y:=by first|exact Or.inl rfl|exact Or.inr (Or.inl rfl)|exact Or.inr (Or.inr rfl)) (hd:(y==("__debug__":Str))=false:=by decide) (hcd:(y==("__classdict__":Str))=false:=by decide)
 (hbase:attributeBase (.Name y py) "discard" X.env (eval (.Name y py) X.env)=eval (.Name y py) X.env:=by rfl)
 (hfew:((backTo pos (starEach [e] X.env)).all (λx=> !x.1)&&(backToKw pos (keywordEach [] X.env)).all (λx=>x.1.isSome)&&decide ([e].length+([]:List Keyword).length+(if([]:List Keyword).isEmpty then 0 else 1)<30))=true:=by rfl)
 (hline:(apos.endLine==pos.line)=true:=by rfl) (hs:starEach [e] X.env=(false,eval e X.env)::starEach [] X.env:=by rfl) (hplain:(backTo pos (starEach [] X.env)).any (·.1)=false:=by rfl):
 DE X c .s (.Call (.Attribute (.Name y py) "discard" apos) [e] [] pos) (oT lq i fe):=λhid ρ=>
 PE.imp (zU PySem.F.plainAttrs_set PySem.F.slot_set_discard PySem.F.type_set_discard (CD hu) (pv i hN hv hd hcd) (dZ (he hid ρ) iH hs) hbase hfew hline hs hplain) λσ H Q hq_=>by
  obtain⟨sr,d,ρ',hd',q⟩:=hq_
  obtain⟨ks,e0,hd'⟩:=Option.bind_eq_some_iff.mp hd'
  obtain⟨kk,e1,hd'⟩:=Option.bind_eq_some_iff.mp hd'
  obtain⟨dk,e3,e4⟩:=Option.bind_eq_some_iff.mp e1
  split at hd'
  ·rename_i hz
   cases hd'
   have e5:=jP e4
   subst e5;obtain⟨a,xs,a1,a2,a3,a4,a5,a6⟩:=sr.setT e0
   refine⟨.ref a,a1,.inr (.inr (.inr (.inr ⟨rfl,xs,a4⟩))),sr,_,e3,λz H2 s2 r2=>?_⟩
   have r2:Rep X.K (vw H2 hid) z (.tup (kk.map D.int)):=r2
   obtain⟨b,rfl,hb⟩:=rA (.inl r2)
   have hb:=qd r2
   refine⟨a,b,xs,kk,rfl,rfl,s2 _ _ a4,hb,λz hz=>qd ((fO a6 z hz).mono (aQ s2)),by have:=a5.length_eq;rw[List.length_map] at this;omega,λzs' hzs=>?_⟩
   obtain⟨g1,g2⟩:=AX hzs a5
   refine q _ _ ⟨λb' o w hb'=>?_,(sr.ext s2).putS e0 a1 g1 (kN λz hz=>?_),.non⟩
   ·rw[aH λw'=>by subst w';rw[a2] at hb';cases hb'];exact s2 _ _ w
   ·exact(fO a6 z (g2 z hz)).mono (aQ s2)
  ·cases hd'
def vR(i:Nat):FE:=λρ=>(rS i ρ).bind λks=>if ks.length<64/\ ∀k∈ks,k≠[] then some (.lst ((bP cm ks).map cX)) else none
theorem B8(i:Nat)(hcm:X.calm=true)(hm:X.mg "sorted"=none)(hN:X.N[i]? =some y:=by rfl)(hv':qI X.env.scope y:=by first|exact Or.inl rfl|exact Or.inr (Or.inl rfl)|exact Or.inr (Or.inr rfl))(hd:(y==("__debug__":Str))=false:=by decide)
 (hcd:(y==("__classdict__":Str))=false:=by decide) (hg:Gl X "sorted":=by rfl) (hv:bootBuiltins "sorted"=some (.builtin "sorted"):=by kernel_rfl)
 (he:starEach [.Name y py] X.env=(false,eval (.Name y py) X.env)::starEach [] X.env:=by rfl) (hpl:(backTo pos (starEach [] X.env)).any (·.1)=false:=by rfl):DP X c .n (.Call (.Name "sorted" p) [.Name y py] [] pos) (vR i):=λhid ρ=>
 PE.imp (lv (rG hcm) hg hm hv (dZ (pv i hN hv' hd hcd) iH he) (by decide) (by decide) he hpl) λσ H Q hq_=>by
  obtain⟨sr,d,hd,q⟩:=hq_
  obtain⟨ks,e0,hd⟩:=Option.bind_eq_some_iff.mp hd
  split at hd
  ·rename_i hz
   cases hd
   obtain⟨a,xs,a1,a2,a3,a4,a5,a6⟩:=sr.setT e0
   have ll:=a5.length_eq
   rw[List.length_map] at ll;refine⟨.ref a,a1,a,xs,rfl,a4,λz hz=>qd (fO a6 z hz),by omega,λz hz'=>hz.2 _ (a5.mem_iff.mp (List.mem_map_of_mem hz')),λl zs' hl hm hk=>q _ _ (aW hl _) (gx hl (Same.refl _) ?_)⟩
   have:(bP cm ks).map cX=Ak zs':=by
    rw[<-mw a5,<-hk,List.map_map];rfl
   rw[this];exact kN λz hz=>fO a6 z (hm z hz)
  ·cases hd
end
theorem SR.putO {K:W.Frag}{c:Ct}{hid:bK}{ρ:aF}{σ:St}{H:Hp}{a:Addr}{i:Nat}{b b':Ob}{o':HO}(h:SR K c hid ρ σ H)(hg:ρ[i]? =some (.ob b))(ow:wK b)(ow':wK b')(ha:σ[i]? =some (some (.ref a)))(h2:hid a=true)(h3:c.H₀ a=none)
 (nt: ∀xs,o'≠ .tup xs) (new:ObOk K c hid (bM H a o') a b'):SR K c hid (ρ.set i (.ob b')) σ (bM H a o'):=by
 have lt:i<ρ.length:=(List.getElem?_eq_some_iff.mp hg).1
 have vv:vw (bM H a o') hid=vw H hid:=eD h2
 have tr': ∀b o,H b=some o-> ∃o2,(bM H a o') b=some o2:=λb o q=>by
  by_cases e:b=a
  ·subst e;exact⟨_,aK⟩
  ·exact⟨o,by rw[aH e];exact q⟩
 have owi:Ow ρ[i]? :=by rw[hg];exact ow
 have ne: ∀(j:Nat) (s:Sl) (a':Addr),j≠i->ρ[j]? =some s->Ow (some s)->σ[j]? =some (some (.ref a'))->a'≠a:=λj s a' n e o q w=>by
  subst w;exact h.ap j i a' n (by rw[e];exact o) owi q ha
 have ows: ∀j:Nat,Ow (ρ.set i (.ob b'))[j]? ->Ow ρ[j]? :=λj o=>by
  by_cases e:j=i
  ·subst e;exact owi
  ·rw[List.getElem?_set_ne (Ne.symm e)] at o;exact o
 refine⟨λb hb=>let⟨o,q⟩:=h.tr b hb;tr' b o q,λb xs hb q=>by
  by_cases e:b=a
  ·subst e;rw[aK] at q;exact nt xs (Option.some.inj q)
  ·rw[aH e] at q;exact h.ht b xs hb q,h.h0,λb o q m=>?_,λb o q=>let⟨o2,q2⟩:=h.t0 b o q;tr' b o2 q2,h.c0,h.m0,by simp[h.len],λj s e=>?_,λj l z n o1 o2=>h.ap j l z n (ows j o1) (ows l o2)⟩
 ·rw[aH (bd q h3)];exact h.kp b o q m
 ·by_cases ej:j=i
  ·subst ej
   rw[List.getElem?_set_self lt] at e;cases e
   exact⟨a,ha,new⟩
  ·rw[List.getElem?_set_ne (Ne.symm ej)] at e
   have z:=h.sl j s e
   cases s with
   |no=>trivial
   |v d=>obtain⟨x,h1,h2⟩:=z;exact⟨x,h1,by rw[vv];exact h2⟩
   |own ds=>obtain⟨a',xs,h1,h2,h3,h4,h5⟩:=z;exact⟨a',xs,h1,by rw[aH (ne j _ a' ej e trivial h1)];exact h2,h3,h4,by rw[vv];exact h5⟩
   |arg ds=>obtain⟨a',xs,h1,h2,h3,h4,h5⟩:=z;exact⟨a',xs,h1,by rw[aH (ne j _ a' ej e trivial h1)];exact h2,h3,h4,by rw[vv];exact h5⟩
   |ob b=>obtain⟨a',h1,h2⟩:=z;exact⟨a',h1,h2.mono (λow o q=>by rw[aH (ne j _ a' ej e ow h1)];exact q) (by rw[vv];exact Same.refl _) λ_ q=>q⟩
def zh(i:Nat)(ρ:aF):Option rK:=match ρ[i]? with
 |some (.ob (.dF kvs))=>some kvs
 |_=>none
theorem xv {i:Nat}{ρ:aF}{kvs:rK}(h:zh i ρ=some kvs):ρ[i]? =some (.ob (.dF kvs)):=by
 unfold zh at h;split at h
 ·cases h;assumption
 ·cases h
theorem SR.dictF {K:W.Frag}{c:Ct}{hid:bK}{ρ:aF}{σ:St}{H:Hp}(h:SR K c hid ρ σ H){i:Nat}{kvs:rK}(e:zh i ρ=some kvs): ∃a o us,σ[i]? =some (some (.ref a))/\hid a=true/\c.H₀ a=none/\H a=some (.frz o (.dT us))/\KRt K (vw H hid) us kvs:=by
 obtain⟨a,h1,⟨h2,h3⟩,o,us,h4,h5,h6⟩:=h.sl i _ (xv e)
 exact⟨a,o,us,h1,h2,h3,h4,h5,h6⟩
def Bp(i:Nat)(ρ:aF):aF:=match rZ i ρ with
 |some kvs=>ρ.set i (.ob (.dF kvs))
 |none=>ρ
section
variable {X:Cx}{c:Ct}{k k1 k2:Kd}{st:Stmt}{t:FS}
theorem Bi(i:Nat)(h:DS X c k st t):DS X c k st (λρ=>t (Bp i ρ)):=λρ ae s σ H D I hq_=>by
 obtain⟨hid,sr,q⟩:=hq_
 have q:EndOk X.K c k D (vw H hid) (t (Bp i ρ)):=q
 unfold Bp at q;split at q
 ·rename_i kvs e
  obtain⟨a,us,a1,a2,a3,a4,a5⟩:=sr.dictT e
  obtain⟨z,y,xs,r,o,es,ep,g1,g2⟩:=(show ObjOk X.prog X.w H s.heap a (.dT us) from I.hok a _ a4)
  have na: ∀b xs,H b=some (.tup xs)->b≠a:=λb xs w e=>by subst e;rw[a4] at w;cases w
  have new:ObjOk X.prog X.w (bM H a (.frz o (.dT us))) s.heap a (.frz o (.dT us)):=⟨g1,z,y,xs,Paired.mapP r λp q z=>⟨z.1,by rw[aH (na _ _ z.2.1)];exact z.2.1,z.2.2⟩,o,es,ep,g1,g2⟩
  have I2:Inv X ae σ (bM H a (.frz o (.dT us))) {s with heap:=s.heap,toks:=s.toks}:=I.write (x:=a) (e:=a) (by rw[a4];trivial) (.inl rfl) (λb u _ hu=>hu) ⟨o,g1⟩ new
  have vv:vw (bM H a (.frz o (.dT us))) hid=vw H hid:=eD a2
  refine h (ρ.set i (.ob (.dF kvs))) ae s σ (bM H a (.frz o (.dT us))) D I2 ⟨hid,sr.putO (jT e) trivial trivial a1 a2 a3 (λ_ e=>by cases e) ⟨⟨a2,a3⟩,o,us,aK,a5.1,by rw[vv];exact a5.2⟩,?_⟩
  rw[vv];exact q
 ·exact h ρ ae s σ H D I ⟨hid,sr,q⟩
end
def Iw(a:Addr)(o:Obj)(us:List (List bQ×V))(ys:List V):It:=⟨λi H=>H a=some (.frz o (.dT us))/\i<ys.length,λi H x H'=>H'=H/\ys[i]? =some x,λi H=>H a=some (.frz o (.dT us))/\i=ys.length⟩
theorem wW {P:Program}{w:World}{K:W.Frag}{tg:Expr}(a it:Addr){o:Obj}{us:List (List bQ×V)}{es:Array DictEntry}{ep:Nat}{ys:List V}(hex:o.ExactDict)(hd:o.data=.dict es ep)(rv:Vals ys (es.toList.map (·.key))):
 Turn P w K tg (Iw a o us ys) [it] it (λi h=>h.IsKeyIter it a i es.size ep) where
 mem:=by simp
 obj:=λi h st b hb=>by
  have e:b=it:=by simpa using hb
  subst e;obtain⟨o,e,c,d⟩:=st
  exact⟨o,e,λv z=>by rw[d] at z;cases z⟩
 keep:=λi h h' st k=>st.at λo e=>k it (by simp) o e
 item:=by
  intro X hP hw hK hc i ae s σ H E I hf st hg;subst hP hw hK;obtain⟨hH,hlt⟩:=hg
  have hl:=rv.length
  rw[List.length_map,Array.length_toList (xs:=es)] at hl;have hi:i<es.size:=by omega
  obtain⟨ho,_⟩:=(show ObjOk X.prog X.w H s.heap a (.frz o (.dT us)) from I.hok a _ hH)
  obtain⟨f0,f1,f2,f3,f4,f5⟩:=hf it (by simp)
  obtain⟨u,hu,ru⟩:=rv.get (i:=i) (x:=ys[i]) (List.getElem?_eq_getElem hlt)
  have hu':u=es[i].key:=by
   rw[List.getElem?_map,Array.getElem?_toList,Array.getElem?_eq_getElem hi] at hu;exact(Option.some.inj hu).symm
  refine yj st ⟨o,ho,hex,hd⟩ hi λh' st' sb=>?_
  have I1:Inv X ae σ H {s with heap:=h'}:=I.turned (t':=s.toks) (λb o hb e=>(sb.2 b hb).trans e) f0 f1 f3 f4 f5
  obtain⟨o',e,c,d⟩:=id st'
  exact⟨_,rfl,vF (s:={s with heap:=h'}) e c d (by decide) ⟨ys[i],H,I1,by rw[<-hu'];exact ru,⟨rfl,List.getElem?_eq_getElem hlt⟩,st',λb hb=>(hf b hb).1⟩⟩
 done:=by
  intro X hP hw hK hc i ae s σ H E I hf st hg;subst hP hw hK;obtain⟨hH,rfl⟩:=hg
  obtain⟨ho,_⟩:=(show ObjOk X.prog X.w H s.heap a (.frz o (.dT us)) from I.hok a _ hH)
  obtain⟨f0,f1,f2,f3,f4,f5⟩:=hf it (by simp)
  have hl:=rv.length
  rw[List.length_map,Array.length_toList (xs:=es)] at hl;rw[hl] at st;exact CI (I.ok.hd hc) st ⟨o,ho,hex,hd⟩ λh' eb=>⟨rfl,I.turned (t':=s.toks) (λb o hb e=>eb b o hb e) f0 f1 f3 f4 f5⟩
 self:=λ_ _ _ _ _ st h=>wpAny_pyIter_keyiter st h
def HW(td:TE):TI:=λσ H R=>td σ H λx H1=> ∃a o us,x=.ref a/\H1 a=some (.frz o (.dT us))/\ ∀xs,KTd H1 us xs->R (Iw a o us (xs.map λx=>V.ref x.2.1)) H1
theorem DN {X:Cx}{tg l:Expr}{tl:TE}(hl:PE X l tl):PI X tg l (HW tl):=by
 intro ae s σ H R I h;refine bI (hl ae s σ H _ I h) λv s1 hq_=>?_
 obtain⟨x,H1,I1,r1,q1⟩:=hq_
 obtain⟨a,o,us,e,hq,q⟩:=q1
 subst e;cases r1
 obtain⟨g0,z,lo,xs,r,o',es,ep,g1,g2,g3,g4,g5⟩:=(show ObjOk X.prog X.w H1 s1.heap a (.frz o (.dT us)) from I1.hok a _ hq)
 rw[g0] at g1;cases g1
 have rv:Vals (xs.map λx=>V.ref x.2.1) (es.toList.map (·.key)):=by
  rw[g4,List.map_map];exact vq xs
 refine Ay lo ⟨o,g0,g2,g3⟩ ?_
 refine⟨s1.heap.objs.size,[s1.heap.objs.size],_,_,H1,rfl,I1.kept (t':=s1.toks) λb o e=>Heap.get?_push_of_some _ e,wW a _ g2 g3 rv,⟨_,Heap.get?_push_size _ rfl,rfl,rfl⟩,λb hb=>?_,q xs r⟩
 have e:b=s1.heap.objs.size:=by simpa using hb
 subst e;exact I1.fpOk (Nat.le_refl _) (I1.hok.fresh (Nat.le_refl _))
def we(i:Nat):FA:=λρ=>(zh i ρ).bind λkvs=>(intKs kvs).map λkss=>kss.map cX
section
variable {X:Cx}{c:Ct}{k k1 k2:Kd}{e f ev:Expr}{es:List Expr}{fe ff fk fv:FE}{fs:FA}{pos pos' py apos cpos p:Pos}{x y:Str}{x1:_}{tg:Expr}
theorem Bv(i:Nat)(hN:X.N[i]? =some y:=by rfl)(hv':qI X.env.scope y:=by first|exact Or.inl rfl|exact Or.inr (Or.inl rfl)|exact Or.inr (Or.inr rfl))(hd:(y==("__debug__":Str))=false:=by decide)(hcd:(y==("__classdict__":Str))=false:=by decide):
 Es X c tg (.Name y py) (we i):=λhid ρ=>PI.imp (DN (pv i hN hv' hd hcd)) λσ H R hq_=>by
 obtain⟨sr,ds,e,q⟩:=hq_
 obtain⟨kvs,e0,e⟩:=Option.bind_eq_some_iff.mp e
 obtain⟨kss,e1,rfl⟩:=Option.map_eq_some_iff.mp e
 obtain⟨a,o,us,a1,a2,a3,a4,a5⟩:=sr.dictF e0
 refine⟨.ref a,a1,a,o,us,rfl,a4,λxs kt=>?_⟩
 have ky:=zG kt (by rw[a5.1];exact tQ e1)
 have rr:=sR (K:=X.K) sr.ht ky
 have ll:=rr.length
 refine q _ H (Same.refl _) ⟨λj d H2 hj s w=>?_,λH2 s w=>⟨s _ _ a4,ll.symm⟩⟩
 obtain⟨v,h1,h2⟩:=rr.get hj
 have hlt:j<(xs.map λx=>V.ref x.2.1).length:=(List.getElem?_eq_some_iff.mp h1).1
 refine⟨⟨s _ _ a4,hlt⟩,λx H' ⟨g1,g2⟩=>?_⟩
 subst g1;rw[h1] at g2;cases g2;exact⟨Same.refl _,λhid' _ sw=>h2.mono sw⟩
end
section
variable {X:Cx}{ae:List (Addr×Obj)}{σ:St}{H:Hp}{s:Shared}{a b:Addr}{A:Around}{E:Value->Shared->Prop}
theorem En {kvs:List (List bQ×V)}{k:List bQ}{v:V}{Q:Value->Shared->Prop}(hu:A.units+1<cLine)(I:Inv X ae σ H s)(e:Rd H a (.dT kvs))(eb:SqT X.K H b (k.map kV))(l:jj kvs k=some v)
 (h: ∀w' s',Inv X ae σ H s'->RelV v w'->Q w' s'):wpAny (model X.prog X.w) A (getItem (.ref a) (.ref b)) Q E s:=by
 obtain⟨z,hd,xs,rel,dd⟩:=tE I.hok e
 obtain⟨w',hw,rw'⟩:=RelO.some_of (v:=v) (o:=(atKey xs k).map (·.2)) (by rw[<-l];exact rel.val k)
 obtain⟨p,hp,hp2⟩:=Option.map_eq_some_iff.mp hw
 refine wpAny_getItem_heap (tupleKind_room_in1 hu) (EQ I eb) dd hp ?_
 rw[hp2];exact h w' _ (I.tok _) rw'
end
section
variable {X:Cx}{o i:Expr}{pos:Pos}{td ty:TE}
def Hi(K:W.Frag)(td ty:TE):TE:=λσ H Q=>td σ H λx H1=>ty σ H1 λy H2=> ∃a b kvs k v,x=.ref a/\y=.ref b/\Rd H2 a (.dT kvs)/\SqT K H2 b (k.map kV)/\jj kvs k=some v/\Q v H2
theorem Ea(hu:X.A.units+1<cLine)(ho:PE X o td)(hi:PE X i ty)(hs:Dx i):PE X (.Subscript o i pos) (Hi X.K td ty):=by
 intro ae s σ H Q I h;refine CH PySem.F.slot_dict_getitem.lookup hs (bI (ho ae s σ H _ I h) λu s1 ⟨x,H1,I1,rx,q1⟩=>bI (hi ae s1 σ H1 _ I1 q1) λiv s2 hq_=>?_)
 obtain⟨y,H2,I2,ry,a,b,kvs,k,v,ex,ey,g1,g2,g3,q2⟩:=hq_
 subst ex ey;obtain rfl:u=Value.ref a:=rx
 obtain rfl:iv=Value.ref b:=ry
 refine⟨?_,En hu I2 g1 g2 g3 λw' s3 I3 rw'=>⟨v,H2,I3,rw',q2⟩⟩
 obtain⟨_,_,xs,_,dd⟩:=tE I2.hok g1
 exact dd.typeIs
end
section
variable {X:Cx}{c:Ct}{k k1 k2:Kd}{e f ev:Expr}{es:List Expr}{fe ff fk fv:FE}{fs:FA}{pos pos' py apos cpos p:Pos}{x y:Str}{x1:_}{tg:Expr}
def CW(i:Nat)(fk:FE):FE:=λρ=>(zh i ρ).bind λkvs=>((fk ρ).bind rV).bind λk=>fP kvs (iK k)
theorem BW(i:Nat)(hu:X.A.units+1<cLine)(he:DP X c k1 e fe)(hs:Dx e)(hN:X.N[i]? =some y:=by rfl)(hv':qI X.env.scope y:=by first|exact Or.inl rfl|exact Or.inr (Or.inl rfl)|exact Or.inr (Or.inr rfl))(hd:(y==("__debug__":Str))=false:=by decide)
 (hcd:(y==("__classdict__":Str))=false:=by decide):DP X c .s (.Subscript (.Name y py) e pos) (CW i fe):=λhid ρ=>
 PE.imp (Ea hu (pv i hN hv' hd hcd) (he hid ρ) hs) λσ H Q hq_=>by
  obtain⟨sr,d,hd,q⟩:=hq_
  obtain⟨kvs,e0,hd⟩:=Option.bind_eq_some_iff.mp hd
  obtain⟨kk,e1,hd⟩:=Option.bind_eq_some_iff.mp hd
  obtain⟨dk,e3,e4⟩:=Option.bind_eq_some_iff.mp e1
  have e5:=jP e4
  subst e5;obtain⟨a,o,us,a1,a2,a3,a4,a5⟩:=sr.dictF e0
  refine⟨.ref a,a1,sr,_,e3,λz H2 s2 r2=>?_⟩
  obtain⟨b,rfl,hb⟩:=rA (RK.b k1 r2 λa n=>sr.fresh n)
  have hh:Rd H2 a (.dT us):=.inr ⟨o,s2 _ _ a4⟩
  have rr:KRt X.K (vw H2 hid) us kvs:=⟨a5.1,a5.2.mono (aQ s2)⟩
  rcases rr.val (iK kk) with⟨v1,v2⟩|⟨v,d',v1,v2,v3⟩
  ·rw[v2] at hd;cases hd
  ·rw[v2] at hd;cases hd
   exact⟨a,b,us,iK kk,v,rfl,rfl,hh,hb,v1,q _ H2 s2 v3⟩
def IS(K:W.Frag)(c:Ct)(hid:bK)(fk:aF->Option (List Int))(ρ:aF):TE:=λσ H Q=>SR K c hid ρ σ H/\ ∃ns,fk ρ=some ns/\ ∀b H',Same H H'->H' b=some (.tup (ns.map V.int))->Q (.ref b) H'
def DK(X:Cx)(c:Ct)(e:Expr)(fk:aF->Option (List Int)):Prop:= ∀hid ρ,PE X e (IS X.K c hid fk ρ)
theorem v8 {K:W.Frag}{F:Hp}: ∀ {xs:List V} {ns:List Int},Reps K F xs (ns.map D.int)->xs=ns.map V.int
 |_,[],h=>by cases h;rfl
 |_,n::ns,h=>by
  cases h with
  |cons r rs=>cases r;rw[v8 rs];rfl
def hJ(f:FE):aF->Option (List Int):=λρ=>(f ρ).bind λd=>match d with
 | .lst ds=>gQ ds
 |_=>none
theorem rT(he:DP X c k1 e fe)(hm:X.mg "tuple"=none)(hg:Gl X "tuple":=by rfl)(hv:bootBuiltins "tuple"=some (.type "tuple"):=by kernel_rfl)
 (hs:starEach [e] X.env=(false,eval e X.env)::starEach [] X.env:=by rfl) (hpl:(backTo pos (starEach [] X.env)).any (·.1)=false:=by rfl):DK X c (.Call (.Name "tuple" p) [e] [] pos) (hJ fe):=λhid ρ=>
 PE.imp (ii cO hg hm hv (dZ (he hid ρ) iH hs) (by decide) (by decide) hs hpl) λσ H Q hq_=>by
  obtain⟨sr,ns,e,q⟩:=hq_
  obtain⟨d,e1,e⟩:=Option.bind_eq_some_iff.mp e
  cases d with
  |lst ds=>
   have e5:=iC e
   subst e5;refine⟨sr,_,e1,λv H2 s2 r2=>?_⟩
   obtain⟨a,xs,rfl,h1,h2⟩:=Rep1.lst (RK.b k1 r2 λa n=>sr.fresh n)
   rw[v8 h2] at h1;exact⟨a,_,rfl,.inl ⟨h1,λl hl=>q l _ (s2.trans (aW hl _)) aK⟩⟩
  |_=>cases e
def pk(i:Nat)(fk:aF->Option (List Int))(fv:FE):FS:=λρ=>match rZ i ρ with
 |some kvs=>(match fv ρ with
  |some d=>(match fk ρ with
   |some ns=>if kvs.length<=1000 then .nx (ρ.set i (.ob (.dT (oV kvs (iK ns) d)))) else .no
   |none=>.no)
  |none=>.no)
 |none=>.no
theorem zu(i:Nat)(hu:X.A.units+1<cLine){fk:aF->Option (List Int)}(hk:DK X c e fk)(hv:DP X c .s ev fv)(hN:X.N[i]? =some y:=by rfl)(hv':qI X.env.scope y:=by first|exact Or.inl rfl|exact Or.inr (Or.inl rfl)|exact Or.inr (Or.inr rfl))(hd:(y==("__debug__":Str))=false:=by decide)
 (hcd:(y==("__classdict__":Str))=false:=by decide) (hs:swapsWith ev (some (.Subscript (.Name y py) e pos')) pos.line X.env=pure false:=by rfl):
 DS X c k (.Assign [.Subscript (.Name y py) e pos'] ev pos) (pk i fk fv):=λρ=>PS.imp (BM hu (pv i hN hv' hd hcd) (oB λhid=>hk hid ρ) (oB λhid=>hv hid ρ) hs) λD σ H hq_=>by
 obtain⟨hid,sr,q⟩:=hq_
 unfold pk at q;split at q
 ·rename_i kvs e0
  split at q
  ·rename_i d e1
   split at q
   ·rename_i ns e2
    split at q
    ·rename_i hz
     obtain⟨a,us,a1,a2,a3,a4,a5⟩:=sr.dictT e0
     refine⟨hid,sr,d,e1,λv H1 s1 r1=>⟨.ref a,a1,hid,sr.ext s1,ns,e2,λb H2 s2 hb=>?_⟩⟩
     have s13:=s1.trans s2
     have hb':H2 b=some (.tup ((iK ns).map kV)):=by rw[hb];unfold iK;rw[List.map_map];rfl
     refine⟨a,_,rfl,DPut.t (k:=iK ns) (s13 _ _ a4) hb' (by rw[a5.len];exact Nat.lt_of_le_of_lt hz (by decide)),?_⟩
     have r1':Rep X.K (vw H1 hid) v d:=r1
     refine q _ _ hid ((sr.ext s13).putDT e0 a1 (KRt.put (iK ns) (r1'.mono (aQ s2)) ⟨a5.1,a5.2.mono (aQ s13)⟩)) ?_
     rw[eD a2];exact aQ s13
    ·exact q.elim
   ·exact q.elim
  ·exact q.elim
 ·exact q.elim
def oa(i:Nat)(fk:aF->Option (List Int))(fd:FE):FE:=λρ=>(rZ i ρ).bind λkvs=>(fk ρ).bind λns=>(fd ρ).map λd=>(fP kvs (iK ns)).getD d
theorem z6(i:Nat)(hu:X.A.units+1<cLine){fk:aF->Option (List Int)}(he:DK X c e fk)(hf:DP X c .s f ff)(m:M2 X (.Name y py) "get" apos e f cpos)(hN:X.N[i]? =some y:=by rfl)(hv':qI X.env.scope y:=by first|exact Or.inl rfl|exact Or.inr (Or.inl rfl)|exact Or.inr (Or.inr rfl))(hd:(y==("__debug__":Str))=false:=by decide)
 (hcd:(y==("__classdict__":Str))=false:=by decide):DP X c .s (.Call (.Attribute (.Name y py) "get" apos) [e,f] [] cpos) (oa i fk ff):=λhid ρ=>
 PE.imp (Ab hu (pv i hN hv' hd hcd) (he hid ρ) (hf hid ρ) m) λσ H Q hq_=>by
  obtain⟨sr,d,hd,q⟩:=hq_
  obtain⟨kvs,e0,hd⟩:=Option.bind_eq_some_iff.mp hd
  obtain⟨ns,e1,hd⟩:=Option.bind_eq_some_iff.mp hd
  obtain⟨dd,e2,rfl⟩:=Option.map_eq_some_iff.mp hd
  obtain⟨a,us,a1,a2,a3,a4,a5⟩:=sr.dictT e0
  refine⟨.ref a,a1,a,rfl,.inr ⟨us,.inl a4⟩,sr,ns,e1,λb H2 s2 hb=>⟨sr.ext s2,_,e2,λw H3 s3 r3=>?_⟩⟩
  have s23:=s2.trans s3
  have rr:KRt X.K (vw H3 hid) us kvs:=⟨a5.1,a5.2.mono (aQ s23)⟩
  have hb':H3 b=some (.tup ((iK ns).map kV)):=by rw[s3 _ _ hb];unfold iK;rw[List.map_map];rfl
  refine⟨_,DGet.t (k:=iK ns) (s23 _ _ a4) hb',q _ H3 s23 ?_⟩
  rcases rr.val (iK ns) with⟨v1,v2⟩|⟨v,d,v1,v2,v3⟩
  ·rw[v1,v2];exact r3
  ·rw[v1,v2];exact v3
end
def zl:FS:=λ_=>.no
theorem yC {X:Cx}{c:Ct}{k:Kd}{st:Stmt}:DS X c k st zl:=λρ ae s σ H D I ⟨hid,sr,q⟩=>q.elim
def kG(i:Nat):Stmt:=PySem.Challenge.pw_rookborders_k48_led_crowds.main.body.getD i (.Pass ⟨0,0,0,0⟩)
structure Bt(mg:Str->Option Value):Prop where
 b_abs:mg "abs"=none
 b_all:mg "all"=none
 b_any:mg "any"=none
 b_isinstance:mg "isinstance"=none
 b_len:mg "len"=none
 b_list:mg "list"=none
 b_max:mg "max"=none
 b_min:mg "min"=none
 b_range:mg "range"=none
 b_set:mg "set"=none
 b_sorted:mg "sorted"=none
 b_tuple:mg "tuple"=none
theorem Hu:(["size","start","end","further"]:List Str).Nodup:=by decide+kernel
theorem Hn:(["stand","a","b","bars","heights","bar"]:List Str).Nodup:=by decide+kernel
theorem Hh:(["square","c","rings","crosses","one","other","between","row"]:List Str).Nodup:=by decide+kernel
theorem GY:(["square","columns","rows","column","row"]:List Str).Nodup:=by decide+kernel
theorem Ho:(["square","stand","a","b","column","bend","sides","turns","rows","straight","row"]:List Str).Nodup:=by decide+kernel
theorem HL:(["square","stand","a","b","column","bend","sides","turns","rows","straight","other"]:List Str).Nodup:=by decide+kernel
theorem Fx:(["square","c","crowd","other","turns","right","left","stand","end"]:List Str).Nodup:=by decide+kernel
theorem HQ:(["_law_bag_here","_law_n","_law_c","_law_ways","_law_four","_law_pairs_of_rows","_law_left","_law_right_here","_law_rest_rings","_law_rest_crosses","?_law_k","_law_d","_law_rings","_law_crosses","_law_k"]:List Str).Nodup:=by decide+kernel
theorem FJ:(["_law_bag_here","_law_n","_law_c","_law_ways","_law_four","_law_pairs_of_rows","_law_left","_law_right_here","_law_rest_rings","_law_rest_crosses","_law_k","_law_d","_law_rings","_law_crosses","_law_row"]:List Str).Nodup:=by decide+kernel
theorem Hj:(["_law_square","_law_c","_law_crowd_here","_law_other","_law_odd","?_law_stand","_law_j","_law_a","_law_b","_law_heights","_law_stand"]:List Str).Nodup:=by decide+kernel
theorem Fz:(["_law_square","_law_c","_law_crowd_here","_law_handed","_law_due_here","_law_found","_law_stand"]:List Str).Nodup:=by decide+kernel
section
variable {P:Program}{w:World}{K:W.Frag}{mg:Str->Option Value}{base:Heap}
abbrev bv:Stmt:=kG 1
abbrev cf:Stmt:=kG 3
abbrev cI:Stmt:=kG 4
abbrev fJ:Stmt:=kG 5
abbrev gu:Stmt:=kG 6
abbrev fH:Stmt:=kG 7
abbrev cj:Stmt:=kG 9
abbrev bY:Stmt:=kG 14
abbrev cA:Stmt:=kG 16
abbrev bx:Stmt:=kG 17
abbrev fI:Stmt:=kG 19
abbrev eJ:Stmt:=kG 20
abbrev bO:Stmt:=kG 21
abbrev cE:Stmt:=kG 22
abbrev fx:Stmt:=kG 23
abbrev du:Stmt:=kG 24
abbrev oy:Stmt:=kG 25
abbrev eB:Stmt:=kG 27
abbrev fC:Stmt:=kG 28
abbrev eC:Stmt:=kG 29
abbrev dv:Stmt:=kG 30
abbrev bH:Stmt:=kG 31
abbrev di:Stmt:=kG 32
abbrev ck:Stmt:=kG 33
abbrev eE:Stmt:=kG 34
abbrev cF:Stmt:=kG 35
abbrev eN:Stmt:=kG 36
abbrev fD:Stmt:=kG 37
abbrev dm:Stmt:=kG 38
abbrev j2:Stmt:=kG 39
theorem sc_order_exchanged:FnScope ["order","one","other","numbers"] ["order","one","other"] (am bv):=⟨rfl,rfl,rfl,by decide+kernel,rfl,by decide+kernel,by decide+kernel⟩
def ln:FS:=
 aB (ga 3 (ao mP (aa (ag 0) (ai))))
 (aB (cv (gT 2 (eV (bW 3 (ag 1)) (eV (bW 3 (ag 2)) (jI)))) (pu (cw (aa (ak aP (ag 0) (ag 2)) (aa (ak aP (ag 0) (ag 1)) (ai))))))
 (ba (ao gW (aa (cV 3) (ai)))))
def bw:List D->Option D:=gF .s 4 ln
theorem lD(B:Bt mg)(F:Df K mg "order_exchanged" bv ["order","one","other"]):Cl P w K mg base 1 "order_exchanged" ["order","one","other"] (dU K .s 3 bw):=by
 refine bn (k:=0) F sc_order_exchanged (by decide) rfl λ_ cdv A outer s H hid E hr=>?_
 exact(aj (gl 3 sc_order_exchanged.nd (fG iZ qx B.b_list (aY (af 0) bB) (hv:=by kernel_rfl)))
  (aj (lJ (DP.ef (cR (ah (aL aD aI (af 0) (af 2) (λ_ _=>rfl)) (ah (aL aD aI (af 0) (af 1) (λ_ _=>rfl)) aw)))) (qo (n:=2) rfl (iu (gg 3 (af 1)) (iu (gg 3 (af 2)) rj))))
  (az (aV (fG cO js B.b_tuple (aY (cZ 3) bB) (hv:=by kernel_rfl))))))
theorem nU:FnScope ["size","start","end"] ["size","start","end"] (am cf):=⟨rfl,rfl,rfl,by decide+kernel,rfl,by decide+kernel,by decide+kernel⟩
def pi:FS:=
 ba (cy 1 (cS (aa (ak bo (ak fz (ag 2) (ag 1)) (ag 0)) (ai))) (gN 3) (ft) (ak bo (ak aO (ag 1) (ag 3)) (ag 0)))
def dQ:List D->Option D:=gF .n 3 pi
theorem o7(B:Bt mg)(F:Df K mg "places_from" cf ["size","start","end"]):Cl P w K mg base 1 "places_from" ["size","start","end"] (dU K .n 3 dQ):=by
 refine bn (k:=0) F nU (by decide) rfl λ_ cdv A outer s H hid E hr=>?_
 exact(az (aV (kJ (N':=["size","start","end","further"]) rfl (fm (Nat.le_of_ble_eq_true rfl)) (DIp.b (cB B.b_range (ah (cQ (iS (af 2) (af 1)) (af 0)) aw))) (λ_ _ _ _=>(aC 3 Hu)) (λ_ _ _ _=>gJ) (λ_ _ _ _=>(cQ (bC (af 1) (af 3)) (af 0))))))
theorem o3:FnScope ["stand","a","b"] ["stand","a","b"] (am cI):=⟨rfl,rfl,rfl,by decide+kernel,rfl,by decide+kernel,by decide+kernel⟩
def qi:FS:=
 ba (ao (nF 3 dQ) (aa (ao cW (aa (ag 0) (ai))) (aa (ag 1) (aa (ag 2) (ai)))))
def dz:List D->Option D:=gF .n 3 qi
theorem qG(B:Bt mg)(F:Df K mg "columns_of" cI ["stand","a","b"])(cN:Cl P w K mg base 1 "places_from" ["size","start","end"] (dU K .n 3 dQ)):Cl P w K mg base 2 "columns_of" ["stand","a","b"] (dU K .n 3 dz):=by
 refine bn (k:=1) F o3 (by decide) rfl λ_ cdv A outer s H hid E hr=>?_
 exact(az (aV (bN cN (hr.mono (by decide)) (ah (bi bz gC B.b_len (aY (af 0) bB) (hv:=by kernel_rfl)) (ah (af 1) (ah (af 2) aw))))))
theorem uu:FnScope ["stand","a","b"] ["stand","a","b"] (am fJ):=⟨rfl,rfl,rfl,by decide+kernel,rfl,by decide+kernel,by decide+kernel⟩
def x6:FS:=
 ba (ao (nF 3 dQ) (aa (ao cW (aa (ag 0) (ai))) (aa (ak aP (ag 0) (ag 1)) (aa (ak aP (ag 0) (ag 2)) (ai)))))
def gn:List D->Option D:=gF .n 3 x6
theorem xj(B:Bt mg)(F:Df K mg "rows_of" fJ ["stand","a","b"])(cN:Cl P w K mg base 1 "places_from" ["size","start","end"] (dU K .n 3 dQ)):Cl P w K mg base 2 "rows_of" ["stand","a","b"] (dU K .n 3 gn):=by
 refine bn (k:=1) F uu (by decide) rfl λ_ cdv A outer s H hid E hr=>?_
 exact(az (aV (bN cN (hr.mono (by decide)) (ah (bi bz gC B.b_len (aY (af 0) bB) (hv:=by kernel_rfl)) (ah (aL aD aI (af 0) (af 1) (λ_ _=>rfl)) (ah (aL aD aI (af 0) (af 2) (λ_ _=>rfl)) aw))))))
theorem wQ:FnScope ["stand","a","b"] ["stand","a","b"] (am gu):=⟨rfl,rfl,rfl,by decide+kernel,rfl,by decide+kernel,by decide+kernel⟩
def yX:FS:=
 ba (ao (nF 3 bw) (aa (ag 0) (aa (ag 1) (aa (ag 2) (ai)))))
def dR:List D->Option D:=gF .s 3 yX
theorem AM(B:Bt mg)(F:Df K mg "behind" gu ["stand","a","b"])(bA:Cl P w K mg base 1 "order_exchanged" ["order","one","other"] (dU K .s 3 bw)):Cl P w K mg base 2 "behind" ["stand","a","b"] (dU K .s 3 dR):=by
 refine bn (k:=1) F wQ (by decide) rfl λ_ cdv A outer s H hid E hr=>?_
 exact(az (aV (bN bA (hr.mono (by decide)) (ah (af 0) (ah (af 1) (ah (af 2) aw))))))
theorem sc_is_bare:FnScope ["stand","a","b","bars","heights"] ["stand","a","b"] (am fH):=⟨rfl,rfl,rfl,by decide+kernel,rfl,by decide+kernel,by decide+kernel⟩
def xS:FS:=
 aB (aT 3 (fu (ao (nF 3 dz) (aa (ag 0) (aa (ag 1) (aa (ag 2) (ai))))) (gG (aA (.int 1))) jg))
 (aB (aT 4 (fu (ao (nF 3 gn) (aa (ag 0) (aa (ag 1) (aa (ag 2) (ai))))) (gG (aA (.int 1))) jg))
 (ba (rN (gI (aX (ao xl (aa (cy 1 (m9 (ag 3)) (gN 5) (ft) (ak (gd false) (ak aP (ag 0) (ag 5)) (ag 4))) (ai))))))))
def jO:List D->Option D:=gF .s 5 xS
theorem xb(B:Bt mg)(F:Df K mg "is_bare" fH ["stand","a","b"])(dG:Cl P w K mg base 2 "columns_of" ["stand","a","b"] (dU K .n 3 dz))(gq:Cl P w K mg base 2 "rows_of" ["stand","a","b"] (dU K .n 3 gn)):Cl P w K mg base 3 "is_bare" ["stand","a","b"] (dU K .s 3 jO):=by
 refine bn (k:=2) F sc_is_bare (by decide) rfl λ_ cdv A outer s H hid E hr=>?_
 exact(aj (aU 3 sc_is_bare.nd (DP.toS (gV (bN dG (hr.mono (by decide)) (ah (af 0) (ah (af 1) (ah (af 2) aw)))) (cn ar) dA)))
  (aj (aU 4 sc_is_bare.nd (DP.toS (gV (bN gq (hr.mono (by decide)) (ah (af 0) (ah (af 1) (ah (af 2) aw)))) (cn ar) dA)))
  (az (aV (uR (bi (rY rfl) zA B.b_any (aY (kJ (N':=["stand","a","b","bars","heights","bar"]) rfl (fm (Nat.le_of_ble_eq_true rfl)) (DIp.b (sU (af 3))) (λ_ _ _ _=>(aC 5 Hn)) (λ_ _ _ _=>gJ) (λ_ _ _ _=>(kr (jC hr.units) (jE false) (aL aD aI (af 0) (af 5) (λ_ _=>rfl)) (af 4) (by with_unfolding_all rfl)))) bB) (hv:=by kernel_rfl)))))))
theorem sc_oddly_often:FnScope ["stands","odd","stand"] ["stands"] (am cj):=⟨rfl,rfl,rfl,by decide+kernel,rfl,by decide+kernel,by decide+kernel⟩
def oQ:FS:=
 aB (yG 1)
 (aB (dI (bL (df (ag 0))) (gN 2) (cP (wL 1 (ag 2)) (ca (oT lq 1 (ag 2))) (ca (oT j7 1 (ag 2)))))
 (ba (vR 1)))
def fL:List D->Option D:=gF .n 3 oQ
theorem o0(B:Bt mg)(F:Df K mg "oddly_often" cj ["stands"]):Cl P w K mg base 1 "oddly_often" ["stands"] (dU K .n 1 fL):=by
 refine bn (k:=0) F sc_oddly_often (by decide) rfl λ_ cdv A outer s H hid E hr=>?_
 exact(aj (B6 1 sc_oddly_often.nd B.b_set)
  (aj (eO PassesOwn.never rfl (DIp.e (dH (af 0))) (aC 2 sc_oddly_often.nd) (az (cJ (CC 1 (pj hr) (af 2)) (az (gK (CT 1 (pj hr) (af 2)))) (az (gK (Cv 1 (pj hr) (af 2)))))))
  (az (aV (B8 1 rfl B.b_sorted)))))
theorem m6:FnScope ["at","one","other"] ["at","one","other"] (am bY):=⟨rfl,rfl,rfl,by decide+kernel,rfl,by decide+kernel,by decide+kernel⟩
def gE:FS:=
 ba (z8 ya ya (ao ka (aa (ag 1) (aa (ag 2) (ai)))) (ag 0) (ao r6 (aa (ag 1) (aa (ag 2) (ai)))))
def bU:List D->Option D:=gF .s 3 gE
theorem nz(B:Bt mg)(F:Df K mg "lies_between" bY ["at","one","other"]):Cl P w K mg base 1 "lies_between" ["at","one","other"] (dU K .s 3 bU):=by
 refine bn (k:=0) F m6 (by decide) rfl λ_ cdv A outer s H hid E hr=>?_
 exact(az (aV (GD wa wa jp jp (bi (pH rfl) wC B.b_min (aY (af 1) (aY (af 2) bB)) (hv:=by kernel_rfl)) (af 0) (bi (wT rfl) Bz B.b_max (aY (af 1) (aY (af 2) bB)) (hv:=by kernel_rfl)))))
theorem sc_may_change:FnScope ["square","c","rings","crosses","one","other","between"] ["square","c"] (am cA):=⟨rfl,rfl,rfl,by decide+kernel,rfl,by decide+kernel,by decide+kernel⟩
def qT:FS:=
 aB (cv (gT 2 (eV (gN 2) (eV (gN 3) (jI)))) (pu (ag 0)))
 (aB (cP (gI (aX (z8 yd yd (aA (.int 0)) (ag 1) (ak fz (ao cW (aa (ag 2) (ai))) (aA (.int 2)))))) (ba (aA (.bl false))) (skip))
 (aB (aT 4 (cw (aa (ak aP (ag 2) (ag 1)) (aa (ak aP (ag 3) (ag 1)) (ai)))))
 (aB (aT 5 (cw (aa (ak aP (ag 2) (ak aO (ag 1) (aA (.int 1)))) (aa (ak aP (ag 3) (ak aO (ag 1) (aA (.int 1)))) (ai)))))
 (aB (cP (p8 (aX (ak (gd false) (ak aP (ag 4) (aA (.int 0))) (ag 5))) (aX (ak (gd false) (ak aP (ag 4) (aA (.int 1))) (ag 5)))) (ba (aA (.bl false))) (skip))
 (aB (aT 6 (cy 1 (df (ag 5)) (gN 7) (dD (ao (nF 3 bU) (aa (ag 7) (aa (ak aP (ag 4) (aA (.int 0))) (aa (ak aP (ag 4) (aA (.int 1))) (ai)))))) (ag 7)))
 (ba (ak lh (ao cW (aa (ag 6) (ai))) (aA (.int 1)))))))))
def gj:List D->Option D:=gF .s 7 qT
theorem ql(B:Bt mg)(F:Df K mg "may_change" cA ["square","c"])(cq:Cl P w K mg base 1 "lies_between" ["at","one","other"] (dU K .s 3 bU)):Cl P w K mg base 2 "may_change" ["square","c"] (dU K .s 2 gj):=by
 refine bn (k:=1) F sc_may_change (by decide) rfl λ_ cdv A outer s H hid E hr=>?_
 exact(aj (g8 (DP.ef (af 0)) (gh (n:=2) rfl (be (aC 2 sc_may_change.nd) (be (aC 3 sc_may_change.nd) eY))))
  (aj (cJ (n6 (Gy yf yf jp jp ar (af 1) (iS (bi bz gC B.b_len (aY (af 2) bB) (hv:=by kernel_rfl)) ar))) (az (aV iG)) bm)
  (aj (aU 4 sc_may_change.nd (cR (ah (aL aD aI (af 2) (af 1) (λ_ _=>rfl)) (ah (aL aD aI (af 3) (af 1) (λ_ _=>rfl)) aw))))
  (aj (aU 5 sc_may_change.nd (cR (ah (aL aD aI (af 2) (bC (af 1) ar) (λ_ _=>rfl)) (ah (aL aD aI (af 3) (bC (af 1) ar) (λ_ _=>rfl)) aw))))
  (aj (cJ (DW.dt (sN (bj (jC hr.units) (jE false) (aL aD aI (af 4) ar (λ_ _=>rfl)) (af 5) (by with_unfolding_all rfl)) (qL (bj (jC hr.units) (jE false) (aL aD aI (af 4) ar (λ_ _=>rfl)) (af 5) (by with_unfolding_all rfl))))) (az (aV iG)) bm)
  (aj (vy 6 (N':=["square","c","rings","crosses","one","other","between","row"]) rfl sc_may_change.nd (fm (Nat.le_of_ble_eq_true rfl)) (DIp.b (dH (af 5))) (λ_ _ _ _=>(aC 7 Hh)) (λ_ _ _ _=>(jY (gc (bN cq (hr.mono (by decide)) (ah (af 7) (ah (aL aD aI (af 4) ar (λ_ _=>rfl)) (ah (aL aD aI (af 4) ar (λ_ _=>rfl)) aw))))))) (λ_ _ _ _=>(af 7)))
  (az (aV (kr (jD hr.units) mQ (bi bz gC B.b_len (aY (af 6) bB) (hv:=by kernel_rfl)) ar (bD _))))))))))
theorem sc_columns_changed:FnScope ["square","c","rings","crosses"] ["square","c"] (am bx):=⟨rfl,rfl,rfl,by decide+kernel,rfl,by decide+kernel,by decide+kernel⟩
def eX:FS:=
 aB (cP (gI (dD (ao (nF 2 gj) (aa (ag 0) (aa (ag 1) (ai)))))) (zl) (skip))
 (aB (cv (gT 2 (eV (gN 2) (eV (gN 3) (jI)))) (pu (ag 0)))
 (ba (cw (aa (ao (nF 3 bw) (aa (ag 2) (aa (ag 1) (aa (ak aO (ag 1) (aA (.int 1))) (ai))))) (aa (ao (nF 3 bw) (aa (ag 3) (aa (ag 1) (aa (ak aO (ag 1) (aA (.int 1))) (ai))))) (ai))))))
def cT:List D->Option D:=gF .s 4 eX
theorem lw(B:Bt mg)(F:Df K mg "columns_changed" bx ["square","c"])(iT:Cl P w K mg base 2 "may_change" ["square","c"] (dU K .s 2 gj))(bA:Cl P w K mg base 1 "order_exchanged" ["order","one","other"] (dU K .s 3 bw)):Cl P w K mg base 3 "columns_changed" ["square","c"] (dU K .s 2 cT):=by
 refine bn (k:=2) F sc_columns_changed (by decide) rfl λ_ cdv A outer s H hid E hr=>?_
 exact(aj (cJ (n6 (gc (bN iT (hr.mono (by decide)) (ah (af 0) (ah (af 1) aw))))) (az yC) bm)
  (aj (g8 (DP.ef (af 0)) (gh (n:=2) rfl (be (aC 2 sc_columns_changed.nd) (be (aC 3 sc_columns_changed.nd) eY))))
  (az (aV (cR (ah (bN bA (hr.mono (by decide)) (ah (af 2) (ah (af 1) (ah (bC (af 1) ar) aw)))) (ah (bN bA (hr.mono (by decide)) (ah (af 3) (ah (af 1) (ah (bC (af 1) ar) aw)))) aw)))))))
theorem sc_turn_of:FnScope ["square","c","rings","crosses","low","high"] ["square","c"] (am fI):=⟨rfl,rfl,rfl,by decide+kernel,rfl,by decide+kernel,by decide+kernel⟩
def lK:FS:=
 aB (cv (gT 2 (eV (gN 2) (eV (gN 3) (jI)))) (pu (ag 0)))
 (aB (cv (gL 2 (eV (gN 4) (eV (gN 5) (jI)))) (pu (ao eA (aa (cw (aa (ak aP (ag 2) (ag 1)) (aa (ak aP (ag 3) (ag 1)) (ai)))) (ai)))))
 (ba (C2 (dD (ao (nF 3 bU) (aa (ak aP (ag 2) (ak aO (ag 1) (aA (.int 1)))) (aa (ag 4) (aa (ag 5) (ai)))))) (ag 4) (ag 5))))
def jX:List D->Option D:=gF .s 6 lK
theorem xL(B:Bt mg)(F:Df K mg "turn_of" fI ["square","c"])(cq:Cl P w K mg base 1 "lies_between" ["at","one","other"] (dU K .s 3 bU)):Cl P w K mg base 2 "turn_of" ["square","c"] (dU K .s 2 jX):=by
 refine bn (k:=1) F sc_turn_of (by decide) rfl λ_ cdv A outer s H hid E hr=>?_
 exact(aj (g8 (DP.ef (af 0)) (gh (n:=2) rfl (be (aC 2 sc_turn_of.nd) (be (aC 3 sc_turn_of.nd) eY))))
  (aj (g8 (DE.toS (DP.ef (bi gR jJ B.b_sorted (aY (cR (ah (aL aD aI (af 2) (af 1) (λ_ _=>rfl)) (ah (aL aD aI (af 3) (af 1) (λ_ _=>rfl)) aw))) bB) (hv:=by kernel_rfl)))) (v4 (n:=2) rfl (be (aC 4 sc_turn_of.nd) (be (aC 5 sc_turn_of.nd) eY))))
  (az (aV (FC (by decide) (gc (bN cq (hr.mono (by decide)) (ah (aL aD aI (af 2) (bC (af 1) ar) (λ_ _=>rfl)) (ah (af 4) (ah (af 5) aw))))) (af 4) (af 5))))))
theorem sc_has_mark:FnScope ["square","column","row","rings","crosses"] ["square","column","row"] (am eJ):=⟨rfl,rfl,rfl,by decide+kernel,rfl,by decide+kernel,by decide+kernel⟩
def km:FS:=
 aB (cv (gT 2 (eV (gN 3) (eV (gN 4) (jI)))) (pu (ag 0)))
 (ba (ak (gd false) (ag 2) (cw (aa (ak aP (ag 3) (ag 1)) (aa (ak aP (ag 4) (ag 1)) (ai))))))
def cC:List D->Option D:=gF .s 5 km
theorem vd(B:Bt mg)(F:Df K mg "has_mark" eJ ["square","column","row"]):Cl P w K mg base 1 "has_mark" ["square","column","row"] (dU K .s 3 cC):=by
 refine bn (k:=0) F sc_has_mark (by decide) rfl λ_ cdv A outer s H hid E hr=>?_
 exact(aj (g8 (DP.ef (af 0)) (gh (n:=2) rfl (be (aC 3 sc_has_mark.nd) (be (aC 4 sc_has_mark.nd) eY))))
  (az (aV (kr (jC hr.units) (jE false) (af 2) (cR (ah (aL aD aI (af 3) (af 1) (λ_ _=>rfl)) (ah (aL aD aI (af 4) (af 1) (λ_ _=>rfl)) aw))) (by with_unfolding_all rfl)))))
theorem ml:FnScope ["square","columns","rows"] ["square","columns","rows"] (am bO):=⟨rfl,rfl,rfl,by decide+kernel,rfl,by decide+kernel,by decide+kernel⟩
def fV:FS:=
 ba (rN (gI (aX (ao xl (aa (pc 2 (df (ag 1)) (gN 3) (ft) (df (ag 2)) (gN 4) (ft) (ao (nF 3 cC) (aa (ag 0) (aa (ag 3) (aa (ag 4) (ai)))))) (ai))))))
def cL:List D->Option D:=gF .s 3 fV
theorem mW(B:Bt mg)(F:Df K mg "columns_clear" bO ["square","columns","rows"])(fB:Cl P w K mg base 1 "has_mark" ["square","column","row"] (dU K .s 3 cC)):Cl P w K mg base 2 "columns_clear" ["square","columns","rows"] (dU K .s 3 cL):=by
 refine bn (k:=1) F ml (by decide) rfl λ_ cdv A outer s H hid E hr=>?_
 exact(az (aV (uR (bi (rY rfl) zA B.b_any (aY (tN (N':=["square","columns","rows","column","row"]) rfl 4 (fm (Nat.le_of_ble_eq_true rfl)) (Gj (Nat.le_of_ble_eq_true rfl)) (fm (Nat.le_of_ble_eq_true rfl)) (DIp.b (dH (af 1))) (λ_ _ _ _=>(aC 3 GY)) (λ_ _ _ _=>gJ) (λ_ _ _ _=>(dH (af 2))) (λ_ _ _ _=>(aC 4 GY)) (λ_ _ _ _=>gJ) (λ_ _ _ _=>(bN fB (hr.mono (by decide)) (ah (af 0) (ah (af 3) (ah (af 4) aw)))))) bB) (hv:=by kernel_rfl)))))
theorem sc_bend_clear:FnScope ["column","rows","bend","sides","turns","at","row"] ["column","rows","bend"] (am cE):=⟨rfl,rfl,rfl,by decide+kernel,rfl,by decide+kernel,by decide+kernel⟩
def iJ:FS:=
 aB (cv (gT 2 (eV (gN 3) (eV (gN 4) (jI)))) (pu (ag 2)))
 (aB (aT 5 (aA (.int 0)))
 (aB (dI (bL (df (ag 1))) (gN 6) (aB (cP (dD (ao (nF 3 cC) (aa (ak aP (ag 3) (ag 5)) (aa (ag 0) (aa (ag 6) (ai)))))) (ba (aA (.bl false))) (skip))
 (cP (aX (ak (gd false) (ag 6) (ag 4))) (zk aO 5 (aA (.int 1))) (skip))))
 (ba (aA (.bl true)))))
def fj:List D->Option D:=gF .s 7 iJ
theorem qC(B:Bt mg)(F:Df K mg "bend_clear" cE ["column","rows","bend"])(fB:Cl P w K mg base 1 "has_mark" ["square","column","row"] (dU K .s 3 cC)):Cl P w K mg base 2 "bend_clear" ["column","rows","bend"] (dU K .s 3 fj):=by
 refine bn (k:=1) F sc_bend_clear (by decide) rfl λ_ cdv A outer s H hid E hr=>?_
 exact(aj (g8 (DP.ef (af 2)) (gh (n:=2) rfl (be (aC 3 sc_bend_clear.nd) (be (aC 4 sc_bend_clear.nd) eY))))
  (aj (aU 5 sc_bend_clear.nd ar)
  (aj (eO PassesOwn.never rfl (DIp.e (dH (af 1))) (aC 6 sc_bend_clear.nd) (aj (cJ (gc (bN fB (hr.mono (by decide)) (ah (aL aD aI (af 3) (af 5) (λ_ _=>rfl)) (ah (af 0) (ah (af 6) aw))))) (az (aV iG)) bm)
  (az (cJ (bj (jC hr.units) (jE false) (af 6) (af 4) (by with_unfolding_all rfl)) (az (xB 5 sc_bend_clear.nd ar EJ)) bm))))
  (az (aV iG)))))
theorem sc_is_bent:FnScope ["square","stand","a","b","column","bend","sides","turns","rows","straight"] ["square","stand","a","b","column","bend"] (am fx):=⟨rfl,rfl,rfl,by decide+kernel,rfl,by decide+kernel,by decide+kernel⟩
def lN:FS:=
 aB (cv (gT 2 (eV (gN 6) (eV (gN 7) (jI)))) (pu (ag 5)))
 (aB (aT 8 (ao (nF 3 gn) (aa (ag 1) (aa (ag 2) (aa (ag 3) (ai))))))
 (aB (cP (p8 (aX (ak lh (cy 1 (df (ag 8)) (gN 10) (aX (ak (gd false) (ag 10) (ag 7))) (ag 10)) (ag 7))) (gI (dD (ao (nF 3 jO) (aa (ag 1) (aa (ag 2) (aa (ag 3) (ai)))))))) (ba (aA (.bl false))) (skip))
 (aB (aT 9 (cy 1 (df (ao (nF 3 dz) (aa (ag 1) (aa (ag 2) (aa (ag 3) (ai)))))) (gN 10) (aX (ak lh (ag 10) (ag 4))) (ag 10)))
 (ba (rN (cx (aX (ao (nF 3 cL) (aa (ag 0) (aa (ag 9) (aa (ag 8) (ai)))))) (aX (ao (nF 3 fj) (aa (ag 4) (aa (ag 8) (aa (ag 5) (ai))))))))))))
def cs:List D->Option D:=gF .s 10 lN
theorem xU(B:Bt mg)(F:Df K mg "is_bent" fx ["square","stand","a","b","column","bend"])(gq:Cl P w K mg base 2 "rows_of" ["stand","a","b"] (dU K .n 3 gn))(fU:Cl P w K mg base 2 "columns_clear" ["square","columns","rows"] (dU K .s 3 cL))(iQ:Cl P w K mg base 2 "bend_clear" ["column","rows","bend"] (dU K .s 3 fj))(me:Cl P w K mg base 3 "is_bare" ["stand","a","b"] (dU K .s 3 jO))(dG:Cl P w K mg base 2 "columns_of" ["stand","a","b"] (dU K .n 3 dz)):Cl P w K mg base 4 "is_bent" ["square","stand","a","b","column","bend"] (dU K .s 6 cs):=by
 refine bn (k:=3) F sc_is_bent (by decide) rfl λ_ cdv A outer s H hid E hr=>?_
 exact(aj (g8 (DP.ef (af 5)) (gh (n:=2) rfl (be (aC 6 sc_is_bent.nd) (be (aC 7 sc_is_bent.nd) eY))))
  (aj (aU 8 sc_is_bent.nd (DP.toS (bN gq (hr.mono (by decide)) (ah (af 1) (ah (af 2) (ah (af 3) aw))))))
  (aj (cJ (DW.dt (sN (bj (jD hr.units) mQ (kJ (N':=["square","stand","a","b","column","bend","sides","turns","rows","straight","row"]) rfl (fm (Nat.le_of_ble_eq_true rfl)) (DIp.b (dH (af 8))) (λ_ _ _ _=>(aC 10 Ho)) (λ_ _ _ _=>(jY (bj (jC hr.units) (jE false) (af 10) (af 7) (by with_unfolding_all rfl)))) (λ_ _ _ _=>(af 10))) (af 7) (bD _)) (qL (n6 (gc (bN me (hr.mono (by decide)) (ah (af 1) (ah (af 2) (ah (af 3) aw))))))))) (az (aV iG)) bm)
  (aj (vy 9 (N':=["square","stand","a","b","column","bend","sides","turns","rows","straight","other"]) rfl sc_is_bent.nd (fm (Nat.le_of_ble_eq_true rfl)) (DIp.b (dH (DP.toS (bN dG (hr.mono (by decide)) (ah (af 1) (ah (af 2) (ah (af 3) aw))))))) (λ_ _ _ _=>(aC 10 HL)) (λ_ _ _ _=>(jY (bj (jD hr.units) mQ (af 10) (af 4) (bD _)))) (λ_ _ _ _=>(af 10)))
  (az (aV (AA (bN fU (hr.mono (by decide)) (ah (af 0) (ah (af 9) (ah (af 8) aw)))) (uv (bN iQ (hr.mono (by decide)) (ah (af 4) (ah (af 8) (ah (af 5) aw))))))))))))
theorem sc_ends_from:FnScope ["square","c","stand","right","left","i","ends","j"] ["square","c","stand","right","left"] (am du):=⟨rfl,rfl,rfl,by decide+kernel,rfl,by decide+kernel,by decide+kernel⟩
def jz:FS:=
 aB (aT 5 (ak aO (ag 1) (aA (.int 1))))
 (aB (ga 6 (cg (ai)))
 (aB (dI (bL (cS (aa (ao cW (aa (ag 2) (ai))) (ai)))) (gN 7) (aB (cP (cx (aX (ak lh (ag 7) (ag 5))) (dD (ao (nF 6 cs) (aa (ag 0) (aa (ag 2) (aa (ag 5) (aa (ag 7) (aa (ag 5) (aa (ag 3) (ai)))))))))) (ca (aN 6 1 gH (bL (aa (ao (nF 3 dR) (aa (ag 2) (aa (ag 5) (aa (ag 7) (ai))))) (ai))))) (skip))
 (cP (cx (aX (ak lh (ag 7) (ag 5))) (dD (ao (nF 6 cs) (aa (ag 0) (aa (ag 2) (aa (ag 7) (aa (ag 5) (aa (ag 1) (aa (ag 4) (ai)))))))))) (ca (aN 6 1 gH (bL (aa (ao (nF 3 dR) (aa (ag 2) (aa (ag 7) (aa (ag 5) (ai))))) (ai))))) (skip))))
 (x8 6)))
def eS:List D->Option D:=gF .n 8 jz
theorem tu(B:Bt mg)(F:Df K mg "ends_from" du ["square","c","stand","right","left"])(jM:Cl P w K mg base 4 "is_bent" ["square","stand","a","b","column","bend"] (dU K .s 6 cs))(lc:Cl P w K mg base 2 "behind" ["stand","a","b"] (dU K .s 3 dR)):Cl P w K mg base 5 "ends_from" ["square","c","stand","right","left"] (dU K .n 5 eS):=by
 refine bn (k:=4) F sc_ends_from (by decide) rfl λ_ cdv A outer s H hid E hr=>?_
 exact(aj (aU 5 sc_ends_from.nd (bC (af 1) ar))
  (aj (gl 6 sc_ends_from.nd (da aw))
  (aj (eO PassesOwn.never rfl (DIp.e (cB B.b_range (ah (bi bz gC B.b_len (aY (af 2) bB) (hv:=by kernel_rfl)) aw))) (aC 7 sc_ends_from.nd) (aj (cJ (DW.dt (jB (bj (jD hr.units) mQ (af 7) (af 5) (bD _)) (jK (gc (bN jM (hr.mono (by decide)) (ah (af 0) (ah (af 2) (ah (af 5) (ah (af 7) (ah (af 5) (ah (af 3) aw))))))))))) (az (gK (iV 6 gm dB PySem.F.slot_list_append PySem.F.type_list_append (DA.gf (ah (bN lc (hr.mono (by decide)) (ah (af 2) (ah (af 5) (ah (af 7) aw)))) aw))))) bm)
  (az (cJ (DW.dt (jB (bj (jD hr.units) mQ (af 7) (af 5) (bD _)) (jK (gc (bN jM (hr.mono (by decide)) (ah (af 0) (ah (af 2) (ah (af 7) (ah (af 5) (ah (af 1) (ah (af 4) aw))))))))))) (az (gK (iV 6 gm dB PySem.F.slot_list_append PySem.F.type_list_append (DA.gf (ah (bN lc (hr.mono (by decide)) (ah (af 2) (ah (af 7) (ah (af 5) aw)))) aw))))) bm))))
  (az (wo 6)))))
theorem sc_led:FnScope ["square","c","crowd","other","turns","right","left"] ["square","c","crowd"] (am oy):=⟨rfl,rfl,rfl,by decide+kernel,rfl,by decide+kernel,by decide+kernel⟩
def AV:FS:=
 aB (aT 3 (ao (nF 2 cT) (aa (ag 0) (aa (ag 1) (ai)))))
 (aB (aT 4 (cg (aa (ao (nF 2 jX) (aa (ag 0) (aa (ag 1) (ai)))) (ai))))
 (aB (cv (gT 2 (eV (gN 5) (eV (gN 6) (jI)))) (pu (cw (aa (cw (aa (cg (aa (ag 0) (aa (ag 3) (ai)))) (aa (ag 4) (ai)))) (aa (cw (aa (cg (aa (ag 3) (aa (ag 0) (ai)))) (aa (ag 4) (ai)))) (ai))))))
 (ba (ao (nF 1 fL) (aa (pc 2 (df (ag 2)) (gN 7) (ft) (df (ao (nF 5 eS) (aa (ag 0) (aa (ag 1) (aa (ag 7) (aa (ag 5) (aa (ag 6) (ai)))))))) (gN 8) (ft) (ag 8)) (ai))))))
def so:List D->Option D:=gF .n 7 AV
theorem Gz(B:Bt mg)(F:Df K mg "led" oy ["square","c","crowd"])(eW:Cl P w K mg base 3 "columns_changed" ["square","c"] (dU K .s 2 cT))(gY:Cl P w K mg base 1 "oddly_often" ["stands"] (dU K .n 1 fL))(mq:Cl P w K mg base 2 "turn_of" ["square","c"] (dU K .s 2 jX))(jv:Cl P w K mg base 5 "ends_from" ["square","c","stand","right","left"] (dU K .n 5 eS)):Cl P w K mg base 6 "led" ["square","c","crowd"] (dU K .n 3 so):=by
 refine bn (k:=5) F sc_led (by decide) rfl λ_ cdv A outer s H hid E hr=>?_
 exact(QSs.to (nY (QS.of (aU 3 sc_led.nd (bN eW (hr.mono (by decide)) (ah (af 0) (ah (af 1) aw)))))
  (nY (QS.of (aU 4 sc_led.nd (DP.toS (da (ah (bN mq (hr.mono (by decide)) (ah (af 0) (ah (af 1) aw))) aw)))))
  (nY (QS.of (g8 (DP.ef (cR (ah (cR (ah (DP.toS (da (ah (af 0) (ah (af 3) aw)))) (ah (af 4) aw))) (ah (cR (ah (DP.toS (da (ah (af 3) (ah (af 0) aw)))) (ah (af 4) aw))) aw oM) oM))) (gh (n:=2) rfl (be (aC 5 sc_led.nd) (be (aC 6 sc_led.nd) eY)))))
  (CK (QS.of (aV (bN gY (hr.mono (by decide)) (ah (DP.toS (tN (N':=["square","c","crowd","other","turns","right","left","stand","end"]) rfl 8 (fm (Nat.le_of_ble_eq_true rfl)) (Gj (Nat.le_of_ble_eq_true rfl)) (fm (Nat.le_of_ble_eq_true rfl)) (DIp.b (dH (af 2))) (λ_ _ _ _=>(aC 7 Fx)) (λ_ _ _ _=>gJ) (λ_ _ _ _=>(dH (DP.toS (bN jv (hr.mono (by decide)) (ah (af 0) (ah (af 1) (ah (af 7) (ah (af 5) (ah (af 6) aw))))))))) (λ_ _ _ _=>(aC 8 Fx)) (λ_ _ _ _=>gJ) (λ_ _ _ _=>(af 8)))) aw)))))))))
theorem sH:FnScope ["_law_script","_law_k"] ["_law_script","_law_k"] (am eB):=⟨rfl,rfl,rfl,by decide+kernel,rfl,by decide+kernel,by decide+kernel⟩
def vc:FS:=
 aB (cP (aX (ak ya (ag 1) (ao cW (aa (ag 0) (ai))))) (ba (ak aP (ag 0) (ag 1))) (skip))
 (ba (aA (.int 0)))
def kA:List D->Option D:=gF .s 2 vc
theorem up(B:Bt mg)(F:Df K mg "_law_cell" eB ["_law_script","_law_k"]):Cl P w K mg base 1 "_law_cell" ["_law_script","_law_k"] (dU K .s 2 kA):=by
 refine bn (k:=0) F sH (by decide) rfl λ_ cdv A outer s H hid E hr=>?_
 exact(aj (cJ (bj wa jp (af 1) (bi bz gC B.b_len (aY (af 0) bB) (hv:=by kernel_rfl)) (bD _)) (az (aV (aL aD aI (af 0) (af 1) (λ_ _=>rfl)))) bm)
  (az (aV ar)))
theorem sc_law_bag:FnScope ["_law_script","_law_at","_law_cell_here","_law_mix","_law_k"] ["_law_script","_law_at"] (am fC):=⟨rfl,rfl,rfl,by decide+kernel,rfl,by decide+kernel,by decide+kernel⟩
def xA:FS:=
 aB (aT 2 (ak bo (ao tp (aa (ao (nF 2 kA) (aa (ag 0) (aa (ag 1) (ai)))) (ai))) (ak fq (ak fq (ak fb (aA (.int 10)) (aA (.int 60))) (ak fb (aA (.int 10)) (aA (.int 60)))) (ak fb (aA (.int 10)) (aA (.int 60))))))
 (aB (cP (aX (ak ER (ag 2) (ak fb (aA (.int 10)) (aA (.int 18))))) (ba (cg (aa (ag 2) (aa (aA (.int 0)) (ai))))) (skip))
 (aB (aT 3 (ak bo (ak aO (ak aO (ag 2) (ak fq (aA (.int 7919)) (ag 1))) (aA (.int 17))) (aA (.int 2147483647))))
 (aB (dI (bL (cS (aa (ao ka (aa (ao cW (aa (ag 0) (ai))) (aa (aA (.int 9)) (ai)))) (ai)))) (gN 4) (aT 3 (ak bo (ak aO (ak aO (ak fb (ag 3) (aA (.int 5))) (ak bo (ak aP (ag 0) (ag 4)) (aA (.int 2147483629)))) (ak fq (aA (.int 31)) (ag 4))) (aA (.int 2147483647)))))
 (ba (cg (aa (ag 3) (aa (aA (.int 1)) (ai))))))))
def jV:List D->Option D:=gF .n 5 xA
theorem xP(B:Bt mg)(F:Df K mg "_law_bag" fC ["_law_script","_law_at"])(kz:Cl P w K mg base 1 "_law_cell" ["_law_script","_law_k"] (dU K .s 2 kA)):Cl P w K mg base 2 "_law_bag" ["_law_script","_law_at"] (dU K .n 2 jV):=by
 refine bn (k:=1) F sc_law_bag (by decide) rfl λ_ cdv A outer s H hid E hr=>?_
 exact(aj (aU 2 sc_law_bag.nd (cQ (bi z0 EA B.b_abs (aY (bN kz (hr.mono (by decide)) (ah (af 0) (ah (af 1) aw))) bB) (hv:=by kernel_rfl)) (lT (lT (lM ar ar) (lM ar ar)) (lM ar ar))))
  (aj (cJ (bj C4 jp (af 2) (lM ar ar) (bD _)) (az (aV (da (ah (af 2) (ah ar aw))))) bm)
  (aj (aU 3 sc_law_bag.nd (cQ (bC (bC (af 2) (lT ar (af 1))) ar) ar))
  (aj (eO PassesOwn.never rfl (DIp.e (cB B.b_range (ah (bi (pH rfl) wC B.b_min (aY (bi bz gC B.b_len (aY (af 0) bB) (hv:=by kernel_rfl)) (aY ar bB)) (hv:=by kernel_rfl)) aw))) (aC 4 sc_law_bag.nd) (az (aU 3 sc_law_bag.nd (cQ (bC (bC (lM (af 3) ar) (cQ (aL aD aI (af 0) (af 4) (λ_ _=>rfl)) ar)) (lT ar (af 4))) ar))))
  (az (aV (da (ah (af 3) (ah ar aw)))))))))
theorem sc_law_take:FnScope ["_law_bag_here","_law_many","_law_digit"] ["_law_bag_here","_law_many"] (am eC):=⟨rfl,rfl,rfl,by decide+kernel,rfl,by decide+kernel,by decide+kernel⟩
def u3:FS:=
 aB (cP (aX (ak iE (ak aP (cV 0) (aA (.int 1))) (aA (.int 0)))) (aB (aT 2 (ak bo (ak aP (cV 0) (aA (.int 0))) (ag 1)))
 (aB (cv (bW 0 (aA (.int 0))) (pu (ak kO (ak aP (cV 0) (aA (.int 0))) (ag 1))))
 (ba (ag 2)))) (skip))
 (aB (cv (bW 0 (aA (.int 0))) (pu (ak bo (ak aO (ak aO (ak fb (ak aP (cV 0) (aA (.int 0))) (aA (.int 5))) (ak fq (aA (.int 48271)) (ak aP (cV 0) (aA (.int 1))))) (aA (.int 11))) (aA (.int 2147483647)))))
 (aB (cv (bW 0 (aA (.int 1))) (pu (ak aO (ak aP (cV 0) (aA (.int 1))) (aA (.int 1)))))
 (ba (ak bo (ak kO (ak bo (ak fq (ak aP (cV 0) (aA (.int 0))) (aA (.int 69621))) (aA (.int 2147483629))) (aA (.int 8))) (ag 1)))))
def aS:List D->List D->Option (D×List D):=uY .s 3 u3
theorem u0(B:Bt mg)(F:Df K mg "_law_take" eC ["_law_bag_here","_law_many"]):Cl P w K mg base 1 "_law_take" ["_law_bag_here","_law_many"] (si K .s 1 aS):=by
 refine rB (k:=0) F sc_law_take (by decide) rfl λ_ cdv A outer s H hid a E hr=>?_
 exact(aj (cJ (bj (fE hr.units) hZ (aL aD aI (cZ 0) ar (λ_ _=>rfl)) ar (bD _)) (aj (aU 2 sc_law_take.nd (cQ (aL aD aI (cZ 0) ar (λ_ _=>rfl)) (af 1)))
  (aj (lJ (DP.ef (vx (aL aD aI (cZ 0) ar (λ_ _=>rfl)) (af 1))) (gg 0 ar))
  (az (aV (af 2))))) bm)
  (aj (lJ (DP.ef (cQ (bC (bC (lM (aL aD aI (cZ 0) ar (λ_ _=>rfl)) ar) (lT ar (aL aD aI (cZ 0) ar (λ_ _=>rfl)))) ar) ar)) (gg 0 ar))
  (aj (lJ (DP.ef (bC (aL aD aI (cZ 0) ar (λ_ _=>rfl)) ar)) (gg 0 ar))
  (az (aV (cQ (vx (cQ (lT (aL aD aI (cZ 0) ar (λ_ _=>rfl)) ar) ar) ar) (af 1)))))))
theorem sc_law_order:FnScope ["_law_bag_here","_law_n","_law_left","_law_found"] ["_law_bag_here","_law_n"] (am dv):=⟨rfl,rfl,rfl,by decide+kernel,rfl,by decide+kernel,by decide+kernel⟩
def tw:FS:=
 aB (ga 2 (ET (ag 1)))
 (aB (ga 3 (cg (ai)))
 (aB (yb (aX (ak lh (cV 2) (cg (ai)))) (ca (aN 3 1 gH (dc (aN 2 1 pd (dc (aN 0 1 aS (bL (aa (ao cW (aa (cV 2) (ai))) (ai)))) (bL (ai)))) (bL (ai))))) 16)
 (x8 3)))
def bh:List D->List D->Option (D×List D):=uY .n 4 tw
theorem tI(B:Bt mg)(F:Df K mg "_law_order" dv ["_law_bag_here","_law_n"])(bG:Cl P w K mg base 1 "_law_take" ["_law_bag_here","_law_many"] (si K .s 1 aS)):Cl P w K mg base 2 "_law_order" ["_law_bag_here","_law_n"] (si K .n 1 bh):=by
 refine rB (k:=1) F sc_law_order (by decide) rfl λ_ cdv A outer s H hid a E hr=>?_
 exact(aj (gl 2 sc_law_order.nd (oW rfl B.b_list B.b_range (af 1)))
  (aj (gl 3 sc_law_order.nd (da aw))
  (aj (A0 16 PassesOwn.never (bj (jD hr.units) mQ (cZ 2) (da aw) (bD _)) (az (gK (iV 3 gm dB PySem.F.slot_list_append PySem.F.type_list_append (gS (iV 2 Ex Aa PySem.F.slot_list_pop PySem.F.type_list_pop (gS (jn 0 bG (hr.mono (by decide)) (DA.gf (ah (bi bz gC B.b_len (aY (cZ 2) bB) (hv:=by kernel_rfl)) aw))) (DA.gf aw))) (DA.gf aw))))))
  (az (wo 3)))))
theorem sc_law_neighbours:FnScope ["_law_bag_here","_law_n","_law_c","_law_ways","_law_four","_law_pairs_of_rows","_law_left","_law_right_here","_law_rest_rings","_law_rest_crosses","_law_k","_law_d","_law_rings","_law_crosses"] ["_law_bag_here","_law_n"] (am bH):=⟨rfl,rfl,rfl,by decide+kernel,rfl,by decide+kernel,by decide+kernel⟩
def ie:FS:=
 aB (je 2 (aN 0 1 aS (bL (aa (ak fz (ag 1) (aA (.int 1))) (ai)))))
 (aB (je 3 (fc 1 (bL (cS (aa (aA (.int 4)) (ai)))) (gN 14) (ft) (aN 0 1 aS (bL (aa (aA (.int 2)) (ai))))))
 (aB (je 4 (gt eA (dc (yM (aN 0 1 bh (bL (aa (ag 1) (ai)))) jg (gG (aA (.int 4)))) (bL (ai)))))
 (aB (aT 4 (ak gA (fu (ag 4) (gG (ak aP (ag 3) (aA (.int 0)))) jg) (fu (ag 4) jg (gG (ak aP (ag 3) (aA (.int 0)))))))
 (aB (aT 5 (cg (aa (fu (ag 4) jg (gG (aA (.int 2)))) (aa (fu (ag 4) (gG (aA (.int 2))) jg) (ai)))))
 (aB (cP (aX (ak iE (ak aP (ag 3) (aA (.int 1))) (aA (.int 1)))) (aT 5 (o5 (ag 5) (gG (o4 (aA (.int 1)))))) (skip))
 (aB (cv (gL 2 (eV (gN 6) (eV (gN 7) (jI)))) (pu (ag 5)))
 (aB (cP (aX (ak iE (ak aP (ag 3) (aA (.int 2))) (aA (.int 1)))) (aT 6 (o5 (ag 6) (gG (o4 (aA (.int 1)))))) (skip))
 (aB (cP (aX (ak iE (ak aP (ag 3) (aA (.int 3))) (aA (.int 1)))) (aT 7 (o5 (ag 7) (gG (o4 (aA (.int 1)))))) (skip))
 (aB (je 8 (fc 1 (u4 (aN 0 1 bh (bL (aa (ag 1) (ai))))) (gN 14) (aX (ak (gd true) (ag 14) (cw (aa (ak aP (ag 6) (aA (.int 0))) (aa (ak aP (ag 7) (aA (.int 0))) (ai)))))) (pu (ag 14))))
 (aB (zo 9 (fc 1 (u4 (aN 0 1 bh (bL (aa (ag 1) (ai))))) (gN 14) (aX (ak (gd true) (ag 14) (cw (aa (ak aP (ag 6) (aA (.int 1))) (aa (ak aP (ag 7) (aA (.int 1))) (ai)))))) (pu (ag 14))))
 (aB (dI (bL (cS (aa (ak fz (ag 1) (aA (.int 2))) (ai)))) (gN 10) (aB (aT 11 (ak bo (ak aO (ag 10) (aA (.int 1))) (ak fz (ag 1) (aA (.int 2)))))
 (cP (aX (ak iE (ak aP (cV 9) (ag 10)) (ak aP (ag 8) (ag 10)))) (cv (gT 2 (eV (bW 9 (ag 10)) (eV (bW 9 (ag 11)) (jI)))) (pu (cw (aa (ak aP (cV 9) (ag 11)) (aa (ak aP (cV 9) (ag 10)) (ai)))))) (skip))))
 (aB (aT 12 (ak gA (ak gA (fu (ag 8) jg (gG (ag 2))) (cg (aa (ak aP (ag 6) (aA (.int 0))) (aa (ak aP (ag 7) (aA (.int 0))) (ai))))) (fu (ag 8) (gG (ag 2)) jg)))
 (aB (aT 13 (ak gA (ak gA (fu (cV 9) jg (gG (ag 2))) (cg (aa (ak aP (ag 6) (aA (.int 1))) (aa (ak aP (ag 7) (aA (.int 1))) (ai))))) (fu (cV 9) (gG (ag 2)) jg)))
 (ba (cw (aa (cw (aa (ao gW (aa (ag 12) (ai))) (aa (ao gW (aa (ag 13) (ai))) (ai)))) (aa (ag 2) (ai))))))))))))))))))
def bR:List D->List D->Option (D×List D):=uY .s 14 ie
theorem mD(B:Bt mg)(F:Df K mg "_law_neighbours" bH ["_law_bag_here","_law_n"])(bG:Cl P w K mg base 1 "_law_take" ["_law_bag_here","_law_many"] (si K .s 1 aS))(cz:Cl P w K mg base 2 "_law_order" ["_law_bag_here","_law_n"] (si K .n 1 bh)):Cl P w K mg base 3 "_law_neighbours" ["_law_bag_here","_law_n"] (si K .s 1 bR):=by
 refine rB (k:=2) F sc_law_neighbours (by decide) rfl λ_ cdv A outer s H hid a E hr=>?_
 exact(aj (nq 2 sc_law_neighbours.nd (jn 0 bG (hr.mono (by decide)) (DA.gf (ah (iS (af 1) ar) aw))))
  (aj (tq 3 (N':=["_law_bag_here","_law_n","_law_c","_law_ways","_law_four","_law_pairs_of_rows","_law_left","_law_right_here","_law_rest_rings","_law_rest_crosses","?_law_k","_law_d","_law_rings","_law_crosses","_law_k"]) rfl sc_law_neighbours.nd (fm (Nat.le_of_ble_eq_true rfl)) (DIp.e (cB B.b_range (ah ar aw))) (λ_ _ _ _=>(aC 14 HQ)) (λ_ _ _ _=>gJ) (λ_ _ _ _=>(jn 0 bG (hr.mono (by decide)) (DA.gf (ah ar aw)))))
  (aj (nq 4 sc_law_neighbours.nd (DE.toS (zE gR jJ B.b_sorted (gS (DE.toS (EZ (DE.toS (jn 0 cz (hr.mono (by decide)) (DA.gf (ah (af 1) aw)))) dA (cn ar))) (DA.gf aw)) (hv:=by kernel_rfl))))
  (aj (aU 4 sc_law_neighbours.nd (DP.toS (kR (gV (af 4) (cn (aL aD aI (af 3) ar (λ_ _=>rfl))) dA) (gV (af 4) dA (cn (aL aD aI (af 3) ar (λ_ _=>rfl)))))))
  (aj (aU 5 sc_law_neighbours.nd (DP.toS (da (ah (DP.toS (gV (af 4) dA (cn ar))) (ah (DP.toS (gV (af 4) (cn ar) dA)) aw)))))
  (aj (cJ (bj (fE hr.units) hZ (aL aD aI (af 3) ar (λ_ _=>rfl)) ar (bD _)) (az (aU 5 sc_law_neighbours.nd (DP.toS (uI (af 5) (cn (rE ar)))))) bm)
  (aj (g8 (DP.ef (af 5)) (v4 (n:=2) rfl (be (aC 6 sc_law_neighbours.nd) (be (aC 7 sc_law_neighbours.nd) eY))))
  (aj (cJ (bj (fE hr.units) hZ (aL aD aI (af 3) ar (λ_ _=>rfl)) ar (bD _)) (az (aU 6 sc_law_neighbours.nd (DP.toS (uI (af 6) (cn (rE ar)))))) bm)
  (aj (cJ (bj (fE hr.units) hZ (aL aD aI (af 3) ar (λ_ _=>rfl)) ar (bD _)) (az (aU 7 sc_law_neighbours.nd (DP.toS (uI (af 7) (cn (rE ar)))))) bm)
  (aj (tq 8 (N':=["_law_bag_here","_law_n","_law_c","_law_ways","_law_four","_law_pairs_of_rows","_law_left","_law_right_here","_law_rest_rings","_law_rest_crosses","_law_k","_law_d","_law_rings","_law_crosses","_law_row"]) rfl sc_law_neighbours.nd (fm (Nat.le_of_ble_eq_true rfl)) (wg (DE.toS (jn 0 cz (hr.mono (by decide)) (DA.gf (ah (af 1) aw))))) (λ_ _ _ _=>(aC 14 FJ)) (λ_ _ _ _=>(jY (bj (lZ hr.units) (jE true) (af 14) (cR (ah (aL aD aI (af 6) ar (λ_ _=>rfl)) (ah (aL aD aI (af 7) ar (λ_ _=>rfl)) aw))) (by with_unfolding_all rfl)))) (λ_ _ _ _=>(DP.ef (af 14))))
  (aj (zZ 9 (N':=["_law_bag_here","_law_n","_law_c","_law_ways","_law_four","_law_pairs_of_rows","_law_left","_law_right_here","_law_rest_rings","_law_rest_crosses","_law_k","_law_d","_law_rings","_law_crosses","_law_row"]) rfl sc_law_neighbours.nd (fm (Nat.le_of_ble_eq_true rfl)) (wg (DE.toS (jn 0 cz (hr.mono (by decide)) (DA.gf (ah (af 1) aw))))) (λ_ _ _ _=>(aC 14 FJ)) (λ_ _ _ _=>(jY (bj (lZ hr.units) (jE true) (af 14) (cR (ah (aL aD aI (af 6) ar (λ_ _=>rfl)) (ah (aL aD aI (af 7) ar (λ_ _=>rfl)) aw))) (by with_unfolding_all rfl)))) (λ_ _ _ _=>(DP.ef (af 14))))
  (aj (eO PassesOwn.never rfl (DIp.e (cB B.b_range (ah (iS (af 1) ar) aw))) (aC 10 sc_law_neighbours.nd) (aj (aU 11 sc_law_neighbours.nd (cQ (bC (af 10) ar) (iS (af 1) ar)))
  (az (cJ (bj (fE hr.units) hZ (aL aD aI (cZ 9) (af 10) (λ_ _=>rfl)) (aL aD aI (af 8) (af 10) (λ_ _=>rfl)) (bD _)) (az (lJ (DP.ef (cR (ah (aL aD aI (cZ 9) (af 11) (λ_ _=>rfl)) (ah (aL aD aI (cZ 9) (af 10) (λ_ _=>rfl)) aw)))) (qo (n:=2) rfl (iu (gg 9 (af 10)) (iu (gg 9 (af 11)) rj))))) bm))))
  (aj (aU 12 sc_law_neighbours.nd (DP.toS (kR (kR (gV (af 8) dA (cn (af 2))) (da (ah (aL aD aI (af 6) ar (λ_ _=>rfl)) (ah (aL aD aI (af 7) ar (λ_ _=>rfl)) aw)))) (gV (af 8) (cn (af 2)) dA))))
  (aj (aU 13 sc_law_neighbours.nd (DP.toS (kR (kR (gV (cZ 9) dA (cn (af 2))) (da (ah (aL aD aI (af 6) ar (λ_ _=>rfl)) (ah (aL aD aI (af 7) ar (λ_ _=>rfl)) aw)))) (gV (cZ 9) (cn (af 2)) dA))))
  (az (aV (cR (ah (cR (ah (fG cO js B.b_tuple (aY (af 12) bB) (hv:=by kernel_rfl)) (ah (fG cO js B.b_tuple (aY (af 13) bB) (hv:=by kernel_rfl)) aw))) (ah (af 2) aw) oM))))))))))))))))))
theorem sc_law_crowd:FnScope ["_law_bag_here","_law_n","_law_found","_law_turn_here","_law_stand"] ["_law_bag_here","_law_n"] (am di):=⟨rfl,rfl,rfl,by decide+kernel,rfl,by decide+kernel,by decide+kernel⟩
def jh:FS:=
 aB (ga 2 (cg (ai)))
 (aB (dI (zO (dc (aN 0 1 aS (bL (aa (aA (.int 9)) (ai)))) (bL (ai)))) (gN 3) (aB (je 4 (gt gW (dc (aN 0 1 bh (bL (aa (ag 1) (ai)))) (bL (ai)))))
 (cP (aX (ak (gd true) (ag 4) (cV 2))) (ca (aN 2 1 gH (bL (aa (ag 4) (ai))))) (skip))))
 (ba (ao eA (aa (cV 2) (ai)))))
def gM:List D->List D->Option (D×List D):=uY .n 5 jh
theorem tM(B:Bt mg)(F:Df K mg "_law_crowd" di ["_law_bag_here","_law_n"])(bG:Cl P w K mg base 1 "_law_take" ["_law_bag_here","_law_many"] (si K .s 1 aS))(cz:Cl P w K mg base 2 "_law_order" ["_law_bag_here","_law_n"] (si K .n 1 bh)):Cl P w K mg base 3 "_law_crowd" ["_law_bag_here","_law_n"] (si K .n 1 gM):=by
 refine rB (k:=2) F sc_law_crowd (by decide) rfl λ_ cdv A outer s H hid a E hr=>?_
 exact(aj (gl 2 sc_law_crowd.nd (da aw))
  (aj (eO PassesOwn.never rfl (xn B.b_range (gS (jn 0 bG (hr.mono (by decide)) (DA.gf (ah ar aw))) (DA.gf aw))) (aC 3 sc_law_crowd.nd) (aj (nq 4 sc_law_crowd.nd (xG cO js B.b_tuple (gS (DE.toS (jn 0 cz (hr.mono (by decide)) (DA.gf (ah (af 1) aw)))) (DA.gf aw)) (hv:=by kernel_rfl)))
  (az (cJ (bj (lZ hr.units) (jE true) (af 4) (cZ 2) (by with_unfolding_all rfl)) (az (gK (iV 2 gm dB PySem.F.slot_list_append PySem.F.type_list_append (DA.gf (ah (af 4) aw))))) bm))))
  (az (aV (bi gR jJ B.b_sorted (aY (cZ 2) bB) (hv:=by kernel_rfl))))))
theorem sc_law_swapped:FnScope ["_law_square","_law_c","_law_found","_law_rows"] ["_law_square","_law_c"] (am ck):=⟨rfl,rfl,rfl,by decide+kernel,rfl,by decide+kernel,by decide+kernel⟩
def gZ:FS:=
 aB (ga 2 (cg (ai)))
 (aB (dI (bL (df (ag 0))) (gN 3) (ca (aN 2 1 gH (bL (aa (ak j6 (ak j6 (mY (ag 3) jg (gG (ag 1))) (cw (aa (ak aP (ag 3) (ak aO (ag 1) (aA (.int 1)))) (aa (ak aP (ag 3) (ag 1)) (ai))))) (mY (ag 3) (gG (ak aO (ag 1) (aA (.int 2)))) jg)) (ai))))))
 (ba (ao gW (aa (cV 2) (ai)))))
def dS:List D->Option D:=gF .s 4 gZ
theorem oS(B:Bt mg)(F:Df K mg "_law_swapped" ck ["_law_square","_law_c"]):Cl P w K mg base 1 "_law_swapped" ["_law_square","_law_c"] (dU K .s 2 dS):=by
 refine bn (k:=0) F sc_law_swapped (by decide) rfl λ_ cdv A outer s H hid E hr=>?_
 exact(aj (gl 2 sc_law_swapped.nd (da aw))
  (aj (eO PassesOwn.never rfl (DIp.e (dH (af 0))) (aC 3 sc_law_swapped.nd) (az (gK (iV 2 gm dB PySem.F.slot_list_append PySem.F.type_list_append (DA.gf (ah (wI (wI (AF (af 3) dA (cn (af 1))) (cR (ah (aL aD aI (af 3) (bC (af 1) ar) (λ_ _=>rfl)) (ah (aL aD aI (af 3) (af 1) (λ_ _=>rfl)) aw)))) (AF (af 3) (cn (bC (af 1) ar)) dA)) aw))))))
  (az (aV (fG cO js B.b_tuple (aY (cZ 2) bB) (hv:=by kernel_rfl))))))
theorem sc_law_turn:FnScope ["_law_square","_law_c","_law_n","_law_own","_law_others","_law_row","_law_k","_law_at"] ["_law_square","_law_c"] (am eE):=⟨rfl,rfl,rfl,by decide+kernel,rfl,by decide+kernel,by decide+kernel⟩
def kw:FS:=
 aB (aT 2 (ao cW (aa (ak aP (ag 0) (aA (.int 0))) (ai))))
 (aB (aT 3 (cg (aa (ak aP (ak aP (ag 0) (aA (.int 0))) (ag 1)) (aa (ak aP (ak aP (ag 0) (aA (.int 1))) (ag 1)) (ai)))))
 (aB (aT 4 (cg (aa (ak aP (ak aP (ag 0) (aA (.int 0))) (ak aO (ag 1) (aA (.int 1)))) (aa (ak aP (ak aP (ag 0) (aA (.int 1))) (ak aO (ag 1) (aA (.int 1)))) (ai)))))
 (aB (dI (bL (df (ag 3))) (gN 5) (dI (bL (oD (aa (aA (.int 1)) (aa (ag 2) (ai))))) (gN 6) (aB (aT 7 (ak bo (ak aO (ag 5) (ag 6)) (ag 2)))
 (aB (cP (aX (ak (gd false) (ag 7) (ag 3))) (uk) (skip))
 (cP (aX (ak (gd false) (ag 7) (ag 4))) (ba (ag 5)) (skip))))))
 (ba (aA .non)))))
def fA:List D->Option D:=gF .s 8 kw
theorem uP(B:Bt mg)(F:Df K mg "_law_turn" eE ["_law_square","_law_c"]):Cl P w K mg base 1 "_law_turn" ["_law_square","_law_c"] (dU K .s 2 fA):=by
 refine bn (k:=0) F sc_law_turn (by decide) rfl λ_ cdv A outer s H hid E hr=>?_
 exact(aj (aU 2 sc_law_turn.nd (bi bz gC B.b_len (aY (aL aD aI (af 0) ar (λ_ _=>rfl)) bB) (hv:=by kernel_rfl)))
  (aj (aU 3 sc_law_turn.nd (DP.toS (da (ah (aL aD aI (aL aD aI (af 0) ar (λ_ _=>rfl)) (af 1) (λ_ _=>rfl)) (ah (aL aD aI (aL aD aI (af 0) ar (λ_ _=>rfl)) (af 1) (λ_ _=>rfl)) aw)))))
  (aj (aU 4 sc_law_turn.nd (DP.toS (da (ah (aL aD aI (aL aD aI (af 0) ar (λ_ _=>rfl)) (bC (af 1) ar) (λ_ _=>rfl)) (ah (aL aD aI (aL aD aI (af 0) ar (λ_ _=>rfl)) (bC (af 1) ar) (λ_ _=>rfl)) aw)))))
  (aj (eO PassesOwn.never rfl (DIp.e (dH (af 3))) (aC 5 sc_law_turn.nd) (az (eO PassesOwn.never rfl (DIp.e (ug B.b_range (ah ar (ah (af 2) aw)))) (aC 6 sc_law_turn.nd) (aj (aU 7 sc_law_turn.nd (cQ (bC (af 5) (af 6)) (af 2)))
  (aj (cJ (bj (jC hr.units) (jE false) (af 7) (af 3) (by with_unfolding_all rfl)) (az yh) bm)
  (az (cJ (bj (jC hr.units) (jE false) (af 7) (af 4) (by with_unfolding_all rfl)) (az (aV (af 5))) bm)))))))
  (az (aV Ah))))))
theorem o9:FnScope ["_law_square","_law_column","_law_row"] ["_law_square","_law_column","_law_row"] (am cF):=⟨rfl,rfl,rfl,by decide+kernel,rfl,by decide+kernel,by decide+kernel⟩
def iU:FS:=
 ba (rN (p8 (aX (ak iE (ak aP (ak aP (ag 0) (aA (.int 0))) (ag 1)) (ag 2))) (aX (ak iE (ak aP (ak aP (ag 0) (aA (.int 1))) (ag 1)) (ag 2)))))
def dL:List D->Option D:=gF .s 3 iU
theorem qg(B:Bt mg)(F:Df K mg "_law_marked" cF ["_law_square","_law_column","_law_row"]):Cl P w K mg base 1 "_law_marked" ["_law_square","_law_column","_law_row"] (dU K .s 3 dL):=by
 refine bn (k:=0) F o9 (by decide) rfl λ_ cdv A outer s H hid E hr=>?_
 exact(az (aV (Gf (kr (fE hr.units) hZ (aL aD aI (aL aD aI (af 0) ar (λ_ _=>rfl)) (af 1) (λ_ _=>rfl)) (af 2) (bD _)) (uv (kr (fE hr.units) hZ (aL aD aI (aL aD aI (af 0) ar (λ_ _=>rfl)) (af 1) (λ_ _=>rfl)) (af 2) (bD _))))))
theorem sc_law_bent:FnScope ["_law_square","_law_other","_law_c","_law_stand","_law_a","_law_b","_law_n","_law_high","_law_turn_here","_law_k","_law_column","_law_h","_law_here"] ["_law_square","_law_other","_law_c","_law_stand","_law_a","_law_b"] (am eN):=⟨rfl,rfl,rfl,by decide+kernel,rfl,by decide+kernel,by decide+kernel⟩
def ko:FS:=
 aB (aT 6 (ao cW (aa (ag 3) (ai))))
 (aB (aT 7 (ak bo (ak fz (ak aP (ag 3) (ag 5)) (ak aP (ag 3) (ag 4))) (ag 6)))
 (aB (aT 8 (ak bo (ak fz (ao (nF 2 fA) (aa (ag 0) (aa (ag 2) (ai)))) (ak aP (ag 3) (ag 4))) (ag 6)))
 (aB (cP (aX (ak ER (ag 8) (ag 7))) (ba (aA (.bl false))) (skip))
 (aB (dI (bL (cS (aa (ak bo (ak fz (ag 5) (ag 4)) (ag 6)) (ai)))) (gN 9) (aB (aT 10 (ak bo (ak aO (ag 4) (ag 9)) (ag 6)))
 (aB (cP (cx (aX (ak Cu (ag 9) (aA (.int 0)))) (aX (ak ya (ak bo (ak fz (ak aP (ag 3) (ag 10)) (ak aP (ag 3) (ag 4))) (ag 6)) (ag 7)))) (ba (aA (.bl false))) (skip))
 (dI (bL (cS (aa (ag 7) (ai)))) (gN 11) (aB (aT 12 (ag 0))
 (aB (cP (p8 (cx (aX (ak iE (ag 4) (ak aO (ag 2) (aA (.int 1))))) (cx (aX (ak iE (ag 10) (ak aO (ag 2) (aA (.int 1))))) (aX (ak Cu (ag 11) (ag 8))))) (cx (aX (ak iE (ag 5) (ak aO (ag 2) (aA (.int 1))))) (cx (aX (ak iE (ag 10) (ag 2))) (aX (ak yd (ag 11) (ag 8)))))) (aT 12 (ag 1)) (skip))
 (cP (dD (ao (nF 3 dL) (aa (ag 12) (aa (ag 10) (aa (ak bo (ak aO (ak aP (ag 3) (ag 4)) (ag 11)) (ag 6)) (ai)))))) (ba (aA (.bl false))) (skip))))))))
 (ba (aA (.bl true)))))))
def bX:List D->Option D:=gF .s 13 ko
theorem uz(B:Bt mg)(F:Df K mg "_law_bent" eN ["_law_square","_law_other","_law_c","_law_stand","_law_a","_law_b"])(kF:Cl P w K mg base 1 "_law_turn" ["_law_square","_law_c"] (dU K .s 2 fA))(iP:Cl P w K mg base 1 "_law_marked" ["_law_square","_law_column","_law_row"] (dU K .s 3 dL)):Cl P w K mg base 2 "_law_bent" ["_law_square","_law_other","_law_c","_law_stand","_law_a","_law_b"] (dU K .s 6 bX):=by
 refine bn (k:=1) F sc_law_bent (by decide) rfl λ_ cdv A outer s H hid E hr=>?_
 exact(aj (aU 6 sc_law_bent.nd (bi bz gC B.b_len (aY (af 3) bB) (hv:=by kernel_rfl)))
  (aj (aU 7 sc_law_bent.nd (cQ (iS (aL aD aI (af 3) (af 5) (λ_ _=>rfl)) (aL aD aI (af 3) (af 4) (λ_ _=>rfl))) (af 6)))
  (aj (aU 8 sc_law_bent.nd (cQ (iS (bN kF (hr.mono (by decide)) (ah (af 0) (ah (af 2) aw))) (aL aD aI (af 3) (af 4) (λ_ _=>rfl))) (af 6)))
  (aj (cJ (bj C4 jp (af 8) (af 7) (bD _)) (az (aV iG)) bm)
  (aj (eO PassesOwn.never rfl (DIp.e (cB B.b_range (ah (cQ (iS (af 5) (af 4)) (af 6)) aw))) (aC 9 sc_law_bent.nd) (aj (aU 10 sc_law_bent.nd (cQ (bC (af 4) (af 9)) (af 6)))
  (aj (cJ (DW.dt (jB (bj De jp (af 9) ar (bD _)) (jK (bj wa jp (cQ (iS (aL aD aI (af 3) (af 10) (λ_ _=>rfl)) (aL aD aI (af 3) (af 4) (λ_ _=>rfl))) (af 6)) (af 7) (bD _))))) (az (aV iG)) bm)
  (az (eO PassesOwn.never rfl (DIp.e (cB B.b_range (ah (af 7) aw))) (aC 11 sc_law_bent.nd) (aj (aU 12 sc_law_bent.nd (af 0))
  (aj (cJ (DW.dt (sN (DW.dt (jB (bj (fE hr.units) hZ (af 4) (bC (af 2) ar) (bD _)) (jB (bj (fE hr.units) hZ (af 10) (bC (af 2) ar) (bD _)) (jK (bj De jp (af 11) (af 8) (bD _)))))) (qL (DW.dt (jB (bj (fE hr.units) hZ (af 5) (bC (af 2) ar) (bD _)) (jB (bj (fE hr.units) hZ (af 10) (af 2) (bD _)) (jK (bj yf jp (af 11) (af 8) (bD _))))))))) (az (aU 12 sc_law_bent.nd (af 1))) bm)
  (az (cJ (gc (bN iP (hr.mono (by decide)) (ah (af 12) (ah (af 10) (ah (cQ (bC (aL aD aI (af 3) (af 4) (λ_ _=>rfl)) (af 11)) (af 6)) aw))))) (az (aV iG)) bm)))))))))
  (az (aV iG)))))))
theorem sc_law_due:FnScope ["_law_square","_law_c","_law_crowd_here","_law_other","_law_odd","_law_stand","_law_j","_law_a","_law_b","_law_heights"] ["_law_square","_law_c","_law_crowd_here"] (am fD):=⟨rfl,rfl,rfl,by decide+kernel,rfl,by decide+kernel,by decide+kernel⟩
def lQ:FS:=
 aB (aT 3 (ao (nF 2 dS) (aa (ag 0) (aa (ag 1) (ai)))))
 (aB (Dh 4)
 (aB (dI (bL (df (ag 2))) (gN 5) (dI (bL (cS (aa (ao cW (aa (ag 5) (ai))) (ai)))) (gN 6) (dI (bL (df (cg (aa (cw (aa (ak aO (ag 1) (aA (.int 1))) (aa (ag 6) (ai)))) (aa (cw (aa (ag 6) (aa (ak aO (ag 1) (aA (.int 1))) (ai)))) (ai)))))) (gT 2 (eV (gN 7) (eV (gN 8) (jI)))) (cP (cx (aX (ak lh (ag 6) (ak aO (ag 1) (aA (.int 1))))) (dD (ao (nF 6 bX) (aa (ag 0) (aa (ag 3) (aa (ag 1) (aa (ag 5) (aa (ag 7) (aa (ag 8) (ai)))))))))) (aB (ga 9 (ao mP (aa (ag 5) (ai))))
 (aB (cv (gT 2 (eV (bW 9 (ag 7)) (eV (bW 9 (ag 8)) (jI)))) (pu (cw (aa (ak aP (ag 5) (ag 8)) (aa (ak aP (ag 5) (ag 7)) (ai))))))
 (pk 4 (hJ (cV 9)) (rN (gI (aX (oa 4 (hJ (cV 9)) (aA (.bl false))))))))) (skip)))))
 ((λρ=>(ba (ao eA (aa (cy 1 (we 4) (gN 10) (dD (CW 4 (ag 10))) (ag 10)) (ai)))) (Bp 4 ρ)))))
def h9:List D->Option D:=gF .n 10 lQ
theorem wP(B:Bt mg)(F:Df K mg "_law_due" fD ["_law_square","_law_c","_law_crowd_here"])(g9:Cl P w K mg base 1 "_law_swapped" ["_law_square","_law_c"] (dU K .s 2 dS))(kC:Cl P w K mg base 2 "_law_bent" ["_law_square","_law_other","_law_c","_law_stand","_law_a","_law_b"] (dU K .s 6 bX)):Cl P w K mg base 3 "_law_due" ["_law_square","_law_c","_law_crowd_here"] (dU K .n 3 h9):=by
 refine bn (k:=2) F sc_law_due (by decide) rfl λ_ cdv A outer s H hid E hr=>?_
 exact(aj (aU 3 sc_law_due.nd (bN g9 (hr.mono (by decide)) (ah (af 0) (ah (af 1) aw))))
  (aj (zi 4 sc_law_due.nd)
  (aj (eO PassesOwn.never rfl (DIp.e (dH (af 2))) (aC 5 sc_law_due.nd) (az (eO PassesOwn.never rfl (DIp.e (cB B.b_range (ah (bi bz gC B.b_len (aY (af 5) bB) (hv:=by kernel_rfl)) aw))) (aC 6 sc_law_due.nd) (az (eO PassesOwn.never rfl (DIp.e (dH (DP.toS (da (ah (cR (ah (bC (af 1) ar) (ah (af 6) aw))) (ah (cR (ah (af 6) (ah (bC (af 1) ar) aw))) aw oM) oM))))) (gh (n:=2) rfl (be (aC 7 sc_law_due.nd) (be (aC 8 sc_law_due.nd) eY))) (az (cJ (DW.dt (jB (bj (jD hr.units) mQ (af 6) (bC (af 1) ar) (bD _)) (jK (gc (bN kC (hr.mono (by decide)) (ah (af 0) (ah (af 3) (ah (af 1) (ah (af 5) (ah (af 7) (ah (af 8) aw))))))))))) (aj (gl 9 sc_law_due.nd (fG iZ qx B.b_list (aY (af 5) bB) (hv:=by kernel_rfl)))
  (aj (lJ (DP.ef (cR (ah (aL aD aI (af 5) (af 8) (λ_ _=>rfl)) (ah (aL aD aI (af 5) (af 7) (λ_ _=>rfl)) aw)))) (qo (n:=2) rfl (iu (gg 9 (af 7)) (iu (gg 9 (af 8)) rj))))
  (az (zu 4 (pj hr) (rT (cZ 9) B.b_tuple) (uR (z6 4 (pj hr) (rT (cZ 9) B.b_tuple) iG ⟨rfl,rfl,rfl,rfl⟩)))))) bm)))))))
  (az (Bi 4 (aV (bi gR jJ B.b_sorted (aY (kJ (N':=["_law_square","_law_c","_law_crowd_here","_law_other","_law_odd","?_law_stand","_law_j","_law_a","_law_b","_law_heights","_law_stand"]) rfl (fm (Nat.le_of_ble_eq_true rfl)) (Bv 4) (λ_ _ _ _=>(aC 10 Hj)) (λ_ _ _ _=>(jY (gc (BW 4 (pj hr) (af 10) (λ_ _=>rfl))))) (λ_ _ _ _=>(af 10))) bB) (hv:=by kernel_rfl))))))))
theorem sc_law_right:FnScope ["_law_square","_law_c","_law_crowd_here","_law_handed","_law_due_here","_law_found"] ["_law_square","_law_c","_law_crowd_here"] (am dm):=⟨rfl,rfl,rfl,by decide+kernel,rfl,by decide+kernel,by decide+kernel⟩
def ji:FS:=
 aB (aT 3 (ao mP (aa (ag 2) (ai))))
 (aB (aT 4 (ao (nF 3 h9) (aa (ag 0) (aa (ag 1) (aa (ag 2) (ai))))))
 (aB (ga 5 (ao (nF 3 so) (aa (ag 0) (aa (ag 1) (aa (ag 3) (ai))))))
 (aB (cP (p8 (gI (dD (xm "list" (cV 5)))) (p8 (gI (dD (ao AY (aa (cy 1 (m9 (cV 5)) (gN 6) (ft) (xm "tuple" (ag 6))) (ai))))) (aX (ak lh (cV 5) (ag 4))))) (ba (aA (.bl false))) (skip))
 (aB (ca (aN 5 1 gH (bL (aa (aA .non) (ai)))))
 (ba (rN (cx (aX (ak iE (ag 3) (ag 2))) (aX (ak iE (ao (nF 3 so) (aa (ag 0) (aa (ag 1) (aa (ag 3) (ai))))) (ag 4))))))))))
def eR:List D->Option D:=gF .s 6 ji
theorem tU(B:Bt mg)(F:Df K mg "_law_right" dm ["_law_square","_law_c","_law_crowd_here"])(mr:Cl P w K mg base 3 "_law_due" ["_law_square","_law_c","_law_crowd_here"] (dU K .n 3 h9))(wx:Cl P w K mg base 6 "led" ["square","c","crowd"] (dU K .n 3 so)):Cl P w K mg base 7 "_law_right" ["_law_square","_law_c","_law_crowd_here"] (dU K .s 3 eR):=by
 refine bn (k:=6) F sc_law_right (by decide) rfl λ_ cdv A outer s H hid E hr=>?_
 exact(aj (aU 3 sc_law_right.nd (DP.toS (fG iZ qx B.b_list (aY (af 2) bB) (hv:=by kernel_rfl))))
  (aj (aU 4 sc_law_right.nd (DP.toS (bN mr (hr.mono (by decide)) (ah (af 0) (ah (af 1) (ah (af 2) aw))))))
  (aj (gl 5 sc_law_right.nd (bN wx (hr.mono (by decide)) (ah (af 0) (ah (af 1) (ah (af 3) aw)))))
  (aj (cJ (DW.dt (sN (n6 (gc (AK "list" CJ (cZ 5) B.b_isinstance B.b_list))) (sN (n6 (gc (bi (yD rfl) Ev B.b_all (aY (kJ (N':=["_law_square","_law_c","_law_crowd_here","_law_handed","_law_due_here","_law_found","_law_stand"]) rfl (fm (Nat.le_of_ble_eq_true rfl)) (y9 (cZ 5)) (λ_ _ _ _=>(aC 6 Fz)) (λ_ _ _ _=>gJ) (λ_ _ _ _=>(AK "tuple" yS (af 6) B.b_isinstance B.b_tuple))) bB) (hv:=by kernel_rfl)))) (qL (bj (jD hr.units) mQ (cZ 5) (af 4) (bD _)))))) (az (aV iG)) bm)
  (aj (gK (iV 5 gm dB PySem.F.slot_list_append PySem.F.type_list_append (DA.gf (ah Ah aw))))
  (az (aV (AA (kr (fE hr.units) hZ (af 3) (af 2) (bD _)) (uv (kr (fE hr.units) hZ (bN wx (hr.mono (by decide)) (ah (af 0) (ah (af 1) (ah (af 3) aw)))) (af 4) (bD _)))))))))))
theorem sc_law:FnScope ["_law_script","_law_at","_law_bag_here","_law_n","_law_square","_law_c"] ["_law_script"] (am j2):=⟨rfl,rfl,rfl,by decide+kernel,rfl,by decide+kernel,by decide+kernel⟩
def yH:FS:=
 aB (dI (bL (cS (aa (aA (.int 2)) (ai)))) (gN 1) (aB (ga 2 (ao (nF 2 jV) (aa (ag 0) (aa (ag 1) (ai)))))
 (aB (je 3 (ud aP (pu (cg (aa (aA (.int 4)) (aa (aA (.int 4)) (aa (aA (.int 5)) (ai)))))) (aN 2 1 aS (bL (aa (aA (.int 3)) (ai))))))
 (aB (cv (gT 2 (eV (gN 4) (eV (gN 5) (jI)))) (aN 2 1 bR (bL (aa (ag 3) (ai)))))
 (Fm (zf (yN (gt (nF 3 eR) (dc (pu (ag 4)) (dc (pu (ag 5)) (dc (aN 2 1 gM (bL (aa (ag 3) (ai)))) (bL (ai)))))))) (ba (aA (.bl false))) (skip))))))
 (ba (aA (.bl true)))
def Ag:List D->Option D:=gF .s 6 yH
theorem Ey {f:Addr}{fd:FuncData}(B:Bt mg)(F:Fun K "law" "law" j2 f fd)(mE:Cl P w K mg base 2 "_law_bag" ["_law_script","_law_at"] (dU K .n 2 jV))(fy:Cl P w K mg base 3 "_law_neighbours" ["_law_bag_here","_law_n"] (si K .s 1 bR))(bG:Cl P w K mg base 1 "_law_take" ["_law_bag_here","_law_many"] (si K .s 1 aS))(jq:Cl P w K mg base 7 "_law_right" ["_law_square","_law_c","_law_crowd_here"] (dU K .s 3 eR))(jy:Cl P w K mg base 3 "_law_crowd" ["_law_bag_here","_law_n"] (si K .n 1 gM)):FnOk P w K mg base rO 8 f fd ["_law_script"] (dU K .s 1 Ag):=by
 refine wE (k:=7) F sc_law (by decide) λcdv A outer s H hid E hr=>?_
 exact(aj (eO PassesOwn.never rfl (DIp.e (cB B.b_range (ah ar aw))) (aC 1 sc_law.nd) (aj (gl 2 sc_law.nd (bN mE (hr.mono (by decide)) (ah (af 0) (ah (af 1) aw))))
  (aj (nq 3 sc_law.nd (FQ aD aI (DE.toS (DP.ef (da (ah ar (ah ar (ah ar aw)))))) (jn 2 bG (hr.mono (by decide)) (DA.gf (ah ar aw))) (λ_ _=>rfl)))
  (aj (g8 (jn 2 fy (hr.mono (by decide)) (DA.gf (ah (af 3) aw))) (gh (n:=2) rfl (be (aC 4 sc_law.nd) (be (aC 5 sc_law.nd) eY))))
  (az (Dz (Cg (Bn (E8 jq (hr.mono (by decide)) (gS (DP.ef (af 4)) (gS (DP.ef (af 5)) (gS (DE.toS (jn 2 jy (hr.mono (by decide)) (DA.gf (ah (af 3) aw)))) (DA.gf aw))))))) (az (aV iG)) bm))))))
  (az (aV iG)))
end
def fZ:FS:=
 ba (z8 ya ya (ao ka (aa (ag 1) (aa (ag 2) (ai)))) (ag 0) (ao r6 (aa (ag 1) (aa (ag 2) (ai)))))
def gb:List D->Option D:=gF .s 3 fZ
def hX:FS:=
 aB (cv (gT 2 (eV (gN 2) (eV (gN 3) (jI)))) (pu (ag 0)))
 (aB (cP (gI (aX (z8 yd yd (aA (.int 0)) (ag 1) (ak fz (ao cW (aa (ag 2) (ai))) (aA (.int 2)))))) (ba (aA (.bl false))) (skip))
 (aB (aT 4 (cw (aa (ak aP (ag 2) (ag 1)) (aa (ak aP (ag 3) (ag 1)) (ai)))))
 (aB (aT 5 (cw (aa (ak aP (ag 2) (ak aO (ag 1) (aA (.int 1)))) (aa (ak aP (ag 3) (ak aO (ag 1) (aA (.int 1)))) (ai)))))
 (aB (cP (p8 (aX (ak (gd false) (ak aP (ag 4) (aA (.int 0))) (ag 5))) (aX (ak (gd false) (ak aP (ag 4) (aA (.int 1))) (ag 5)))) (ba (aA (.bl false))) (skip))
 (aB (aT 6 (cy 1 (df (ag 5)) (gN 7) (dD (ao (nF 3 gb) (aa (ag 7) (aa (ak aP (ag 4) (aA (.int 0))) (aa (ak aP (ag 4) (aA (.int 1))) (ai)))))) (ag 7)))
 (ba (ak lh (ao cW (aa (ag 6) (ai))) (aA (.int 1)))))))))
def oY:List D->Option D:=gF .s 7 hX
theorem eM {p:FT}{t:FS}{ρ:aF}(h:p ρ=some false):cP p t skip ρ=.nx ρ:=(j3 h).trans rfl
theorem u1 {F G:D->D->Option D}{f g h:FE}{ρ:aF}{x y z:D}{p q:Bool}(h1:f ρ=some x)(h2:g ρ=some y)(h3:F x y=some (.bl p))(h4:h ρ=some z)(h5:G y z=some (.bl q)):z8 F G f g h ρ=some (.bl (p&&q)):=by
 unfold z8;rw[h1,Option.bind_some,h2,Option.bind_some,h3];show(if p=true then _ else _)=_
 cases p with
 |true=>rw[if_pos rfl,h4];exact h5
 |false=>rfl
theorem vf {p q:FT}{ρ:aF}{a b:Bool}(h1:p ρ=some a)(h2:q ρ=some b):p8 p q ρ=some (a||b):=by
 cases a with
 |true=>exact Di h1
 |false=>exact n8 h1 h2
theorem GH {p:FT}{f g:FE}{ρ:aF}(h:p ρ=some true):C2 p f g ρ=f ρ:=by unfold C2;rw[h];rfl
theorem Gr {p:FT}{f g:FE}{ρ:aF}(h:p ρ=some false):C2 p f g ρ=g ρ:=by unfold C2;rw[h];rfl
theorem zT {f:FE}{ρ:aF}{ds:List D}(h:f ρ=some (.tup ds)):df f ρ=some ds:=by unfold df;rw[h];rfl
theorem fY {f:FE}{ρ:aF}{ds:List D}(h:f ρ=some (.lst ds)):df f ρ=some ds:=by unfold df;rw[h];rfl
theorem Gi(v a b:Nat):gd false (nI v) (.tup [nI a,nI b])=some (.bl (decide (v=a)||decide (v=b))):=by
 unfold gd kf;dsimp only;rw[show dO [nI a,nI b]=0 from lH [a,b],if_pos (by omega)]
 show some (D.bl _)=_;congr 2
 rw[List.any_cons,List.any_cons,List.any_nil,jk,jk,Bool.or_false,Bool.eq_iff_iff];simp only[Bool.or_eq_true,decide_eq_true_eq,Bool.false_eq_true,if_false];omega
structure Gd(n:Nat)(r x:List Nat):Prop where
 R:Ord n r
 X:Ord n x
 lo:2<=n
 hi:n<=6
def C5(v a b:Nat):Bool:=decide (min a b<v)&&decide (v<max a b)
theorem BY(v a b:Nat):gb [nI v,nI a,nI b]=some (.bl (C5 v a b)):=by
 apply bZ (kd:=.s) (n:=3) (t:=fZ)
 unfold fZ;refine bF (u1 (x:=nI (min a b)) (y:=nI v) (z:=nI (max a b)) ?_ rfl ?_ ?_ ?_)
 ·refine(bS (ds:=[nI a,nI b]) rfl).trans ?_
  show some (D.int _)=some (D.int _);congr 2
  split<;>omega
 ·show some (D.bl (decide (((min a b:Nat):Int)<v)))=_
  congr 2
  rw[Bool.eq_iff_iff,decide_eq_true_eq,decide_eq_true_eq];omega
 ·refine(bS (ds:=[nI a,nI b]) rfl).trans ?_
  show some (D.int _)=some (D.int _);congr 2
  split<;>omega
 ·show some (D.bl (decide ((v:Int)<((max a b:Nat):Int))))=_
  congr 2
  rw[Bool.eq_iff_iff,decide_eq_true_eq,decide_eq_true_eq];omega
def EW(r x:List Nat)(c:Nat):Bool:= !((decide (r.getD c 0=r.getD (c+1) 0)||decide (r.getD c 0=x.getD (c+1) 0))||(decide (x.getD c 0=r.getD (c+1) 0)||decide (x.getD c 0=x.getD (c+1) 0)))&&(C5 (r.getD (c+1) 0) (r.getD c 0) (x.getD c 0)==C5 (x.getD (c+1) 0) (r.getD c 0) (x.getD c 0))
def zm(r x:List Nat)(c:Int):Bool:=(decide (0<=c)&&decide (c<=(r.length:Int) -2))&&EW r x c.toNat
theorem Ch {g:FG}{b:FS}{d e:D}{r:List D}{ρ ρ1 ρ2:aF}(h1:g d ρ=some ρ1)(h2:b ρ1=.rt e ρ2):cD g b (d::r) ρ=.rt e ρ2:=by
 show(match g d ρ with
  |none=>Out.no
  |some ρ1=>match b ρ1 with
   | .nx ρ2=>cD g b r ρ2
   | .ct ρ2=>cD g b r ρ2
   | .bk ρ2=>.nx ρ2
   | .rt d ρ2=>.rt d ρ2
   | .no=>.no)=_
 rw[h1];dsimp only;rw[h2]
set_option maxHeartbeats 1000000
theorem Fa {kd:Kd}{n:Nat}{t:FS}{bs ds b':List D}{d:D}{ρ:aF}(h:t (nT n bs ds)=.rt d ρ)(h2:n9 ρ=some b'):uY kd n t bs ds=some (d,b'):=by unfold uY;rw[h];dsimp only;rw[h2];rfl
theorem sh {g:FG}{b:FS}{P:Nat->aF->Prop}: ∀(l:List D) (j:Nat),(∀d∈l,∀i ρ,i<j+l.length->P i ρ-> ∃ρ1 ρ2,g d ρ=some ρ1/\b ρ1=.nx ρ2/\P (i+1) ρ2)-> ∀ρ,P j ρ-> ∃ρ',cD g b l ρ=.nx ρ'/\P (j+l.length) ρ'
 | [],j,_,ρ,p=>⟨ρ,rfl,p⟩
 |d::l,j,h,ρ,p=>by
  obtain⟨ρ1,ρ2,h1,h2,p2⟩:=h d (List.mem_cons_self ..) j ρ (by rw[List.length_cons];omega) p
  obtain⟨ρ',e,p'⟩:=sh l (j+1) (λd' hd i ρ hi=>h d' (List.mem_cons_of_mem _ hd) i ρ (by rw[List.length_cons];omega)) ρ2 p2
  exact⟨ρ',(cb h1 h2).trans e,by rw[List.length_cons,Nat.add_comm l.length 1,<-Nat.add_assoc];exact p'⟩
set_option maxHeartbeats 4000000
set_option maxHeartbeats 1000000
theorem rk(a b:Nat):iE (nI a) (nI b)=some (.bl (decide (a=b))):=by rw[mH (by rw[gk];omega),jk]
theorem qR {g:FG}{b:FS}{P:Nat->aF->Prop}: ∀(k j:Nat),(∀i ρ,j<=i->i<j+k->P i ρ-> ∃ρ1 ρ2,g (nI i) ρ=some ρ1/\b ρ1=.nx ρ2/\P (i+1) ρ2)-> ∀ρ,P j ρ-> ∃ρ',cD g b ((List.range' j k).map nI) ρ=.nx ρ'/\P (j+k) ρ'
 |0,j,_,ρ,p=>⟨ρ,rfl,p⟩
 |k+1,j,h,ρ,p=>by
  obtain⟨ρ1,ρ2,h1,h2,p2⟩:=h j ρ (Nat.le_refl _) (by omega) p
  obtain⟨ρ',e,p'⟩:=qR k (j+1) (λi ρ a b=>h i ρ (by omega) (by omega)) ρ2 p2
  refine⟨ρ',?_,by rw[show j+(k+1)=j+1+k by omega];exact p'⟩
  rw[List.range'_succ,List.map_cons];exact(cb h1 h2).trans e
theorem nv: ∀ns:List Int,intKs.intK (iK ns)=some ns
 | []=>rfl
 |n::ns=>by
  show(intKs.intK (iK ns)).map (n:: ·)=_
  rw[nv ns];rfl
theorem EK {a b:List Int}(h:iK a=iK b):a=b:=by
 have:=congrArg intKs.intK h
 rw[nv,nv] at this;exact Option.some.inj this
theorem zL(kvs:rK)(k k':List bQ)(d:D):fP (oV kvs k d) k'=if k'=k then some d else fP kvs k':=by
 unfold oV fP;split
 ·rename_i h
  induction kvs with
  |nil=>simp at h
  |cons p kvs ih=>
   rw[List.map_cons]
   by_cases e:p.1=k
   ·rw[if_pos e,List.find?_cons]
    by_cases e2:k'=k
    ·rw[if_pos e2,e2];simp[e]
    ·rw[if_neg e2,List.find?_cons]
     have e3:decide (p.1=k')=false:=decide_eq_false λw=>e2 (w.symm.trans e)
     simp only[e3]
     by_cases h':(kvs.any λkv=>decide (kv.1=k))=true
     ·have:=ih h';rw[if_neg e2] at this;exact this
     ·have:kvs.map (λkv=>if kv.1=k then(kv.1,d) else kv)=kvs:=by
       refine(List.map_congr_left λq hq=>?_).trans (List.map_id _)
       rw[if_neg];rfl;intro w;exact h' (List.any_eq_true.mpr ⟨q,hq,decide_eq_true w⟩)
      rw[this]
   ·have h':(kvs.any λkv=>decide (kv.1=k))=true:=by
     rw[List.any_cons,decide_eq_false e,Bool.false_or] at h;exact h
    rw[if_neg e,List.find?_cons,List.find?_cons]
    by_cases e2:p.1=k'
    ·rw[decide_eq_true e2,if_neg (λw=>e (e2.trans w))]
    ·rw[decide_eq_false e2];exact ih h'
 ·rename_i h
  have h: ∀q∈kvs,q.1≠k:=λq hq w=>h (List.any_eq_true.mpr ⟨q,hq,decide_eq_true w⟩)
  rw[List.find?_append]
  by_cases e:k'=k
  ·subst e
   rw[if_pos rfl,List.find?_eq_none.mpr (λq hq=>by simpa using h q hq)]
   simp
  ·rw[if_neg e]
   have:(List.find? (λkv:List bQ×D=>decide (kv.1=k')) [(k,d)])=none:=by
    rw[List.find?_cons,decide_eq_false (λw=>e w.symm)];rfl
   rw[this,Option.or_none]
theorem Bf {kvs:rK}{k:List bQ}(h:fP kvs k=none)(d:D):oV kvs k d=kvs++[(k,d)]:=by
 unfold oV;rw[if_neg];intro w;obtain⟨q,hq,e⟩:=List.any_eq_true.mp w
 unfold fP at h;rw[Option.map_eq_none_iff,List.find?_eq_none] at h;exact h q hq e
def jF(acc:List (List Int))(k:List Int):List (List Int):=if k∈acc then lq acc k else j7 acc k
def uZ(ks:List (List Int)):List (List Int):=ks.foldl jF []
theorem Ao(acc:List (List Int))(k z:List Int):z∈jF acc k↔(if z=k then¬z∈acc else z∈acc):=by
 unfold jF
 by_cases h:k∈acc
 ·rw[if_pos h]
  unfold lq;rw[List.mem_filter,decide_eq_true_eq]
  by_cases e:z=k
  ·rw[if_pos e];subst e;exact⟨λw=>absurd rfl w.2,λw=>absurd h w⟩
  ·rw[if_neg e];exact⟨λw=>w.1,λw=>⟨w,e⟩⟩
 ·rw[if_neg h]
  unfold j7;rw[if_neg h,List.mem_append,List.mem_singleton]
  by_cases e:z=k
  ·rw[if_pos e];subst e;exact⟨λ_=>h,λ_=>.inr rfl⟩
  ·rw[if_neg e];exact⟨λw=>w.elim id λq=>absurd q e,.inl⟩
theorem CF {acc:List (List Int)}(nd:acc.Nodup)(k:List Int):(jF acc k).Nodup:=by
 unfold jF
 by_cases h:k∈acc
 ·rw[if_pos h];exact List.Nodup.sublist List.filter_sublist nd
 ·rw[if_neg h]
  unfold j7;rw[if_neg h,List.nodup_append];exact⟨nd,by simp,λx hx y hy e=>by rw[List.mem_singleton] at hy;subst hy e;exact h hx⟩
theorem sO(acc:List (List Int))(k:List Int):(jF acc k).length<=acc.length+1:=by
 unfold jF j7 lq;split
 ·exact Nat.le_succ_of_le (List.length_filter_le _ _)
 ·simp
theorem vM: ∀(ks:List (List Int)) {acc:List (List Int)},acc.Nodup->(ks.foldl jF acc).Nodup
 | [],_,h=>h
 |k::ks,_,h=>vM ks (CF h k)
theorem sK: ∀(ks acc:List (List Int)),(ks.foldl jF acc).length<=acc.length+ks.length
 | [],acc=>by simp
 |k::ks,acc=>by
  rw[List.foldl_cons,List.length_cons];have:=sK ks (jF acc k)
  have:=sO acc k
  omega
theorem rQ(z:List Int): ∀(ks acc:List (List Int)),z∈ks.foldl jF acc↔(if z∈acc then(ks.count z) % 2=0 else(ks.count z) % 2=1)
 | [],acc=>by
   rw[List.foldl_nil,List.count_nil];split<;>simp_all
 |k::ks,acc=>by
  rw[List.foldl_cons,rQ z ks (jF acc k),List.count_cons];have h:=Ao acc k z
  by_cases e:z=k
  ·rw[if_pos e] at h
   have ek:(k==z)=true:=by rw[e];exact beq_self_eq_true k
   rw[ek,if_pos rfl]
   by_cases c:z∈acc
   ·rw[if_pos c,if_neg (λw=>h.mp w c)];omega
   ·rw[if_neg c,if_pos (h.mpr c)];omega
  ·rw[if_neg e] at h
   have ek:(k==z)=false:=by rw[beq_eq_false_iff_ne];exact λw=>e w.symm
   rw[ek];simp only[Bool.false_eq_true,if_false,Nat.add_zero]
   by_cases c:z∈acc
   ·rw[if_pos c,if_pos (h.mpr c)]
   ·rw[if_neg c,if_neg (λw=>c (h.mp w))]
theorem vn(ks:List (List Int))(z:List Int):z∈uZ ks↔(ks.count z) % 2=1:=by
 have:=rQ z ks []
 rw[if_neg (by simp)] at this
 exact this
theorem DJ(ks:List (List Int)):(uZ ks).Nodup:=vM ks List.nodup_nil
theorem vS(ks:List (List Int)):(uZ ks).length<=ks.length:=by
 have:=sK ks []
 unfold uZ;simpa using this
theorem Ez {ks:List (List Int)}{z:List Int}(h:z∈uZ ks):z∈ks:=by
 have:=(vn ks z).mp h
 exact List.count_pos_iff.mp (by omega)
def lO(ks:List (List Int)):List (List Int):=bP cm (uZ ks)
theorem xi {ks l:List (List Int)}(nd:l.Nodup)(h: ∀z,z∈l↔(ks.count z) % 2=1):bP cm l=lO ks:=
 mw ((List.perm_ext_iff_of_nodup nd (DJ ks)).mpr λz=>(h z).trans (vn ks z).symm)
theorem tZ {g:FG}{i:Nat}{st:List (List Int)->Sl->aF}{fk:FE}(hg: ∀acc s d,g d (st acc s)=some (st acc (.v d)))(hk: ∀acc d,fk (st acc (.v d))=some d)(ht: ∀acc s,rS i (st acc s)=some acc)(hs: ∀acc acc' s,(st acc s).set i (.ob (.tset acc'))=st acc' s):
 ∀(ks acc:List (List Int)) (s:Sl),acc.length+ks.length<=1000-> ∃s',cD g (cP (wL i fk) (ca (oT lq i fk)) (ca (oT j7 i fk))) (ks.map cX) (st acc s)=.nx (st (ks.foldl jF acc) s')
 | [],acc,s,_=>⟨s,rfl⟩
 |k::ks,acc,s,hl=>by
  rw[List.length_cons] at hl;obtain⟨s',h⟩:=tZ hg hk ht hs ks (jF acc k) (.v (cX k)) (by have:=sO acc k;omega)
  have kk:(fk (st acc (.v (cX k)))).bind rV=some k:=by rw[hk];exact iq k
  have din:wL i fk (st acc (.v (cX k)))=some (decide (k∈acc)):=by
   unfold wL;rw[ht,Option.bind_some,kk];rfl
  have op: ∀f,ca (oT f i fk) (st acc (.v (cX k)))=.nx (st (f acc k) (.v (cX k))):=λf=>by
   unfold ca oT;rw[ht,Option.bind_some,kk,Option.bind_some,if_pos (by omega),hs]
  refine⟨s',?_⟩
  rw[List.map_cons];refine(cb (ρ1:=st acc (.v (cX k))) (hg _ _ _) (ρ2:=st (jF acc k) (.v (cX k))) ?_).trans h
  unfold jF
  by_cases c:k∈acc
  ·rw[if_pos c,dN (din.trans (by rw[decide_eq_true c]))];exact op _
  ·rw[if_neg c,j3 (din.trans (by rw[decide_eq_false c]))];exact op _
theorem E2 {ks:List (List Int)}(hl:ks.length<64)(hk: ∀k∈ks,k≠[]):gF .n 3 (aB (yG 1)
 (aB (dI (bL (df (ag 0))) (gN 2) (cP (wL 1 (ag 2)) (ca (oT lq 1 (ag 2))) (ca (oT j7 1 (ag 2)))))
 (ba (vR 1)))) [.lst (ks.map cX)]=some (.lst ((lO ks).map cX)):=by
 obtain⟨s',h⟩:=tZ (g:=gN 2) (i:=1) (fk:=ag 2) (st:=λacc s=>[.v (.lst (ks.map cX)),.ob (.tset acc),s]) (λ_ _ _=>rfl) (λ_ _=>rfl) (λ_ _=>rfl) (λ_ _ _=>rfl) ks [] .no (by simp;omega)
 apply bZ
 refine(ay (ρ':=[.v (.lst (ks.map cX)),.ob (.tset []),.no]) rfl).trans ((ay ((cH (br (fY rfl))).trans h)).trans (bF ?_))
 unfold vR;show(some (ks.foldl jF [])).bind _=_;rw[Option.bind_some];have:=vS ks
 unfold uZ at this;rw[if_pos ⟨by omega,λk hk'=>hk k (Ez hk')⟩]
 rfl
def xt(kvs:rK)(k:List Int):rK:=oV kvs (iK k) (.bl (match fP kvs (iK k) with|some (.bl b)=> !b|_=>true))
structure PInv(kvs:rK)(ks:List (List Int)):Prop where
 keys: ∃l:List (List Int),kvs.map (·.1)=l.map iK/\l.Nodup/\ ∀z,z∈l↔z∈ks
 val: ∀z,z∈ks->fP kvs (iK z)=some (.bl (decide ((ks.count z) % 2=1)))
 non: ∀z,z∉ks->fP kvs (iK z)=none
theorem pV(kvs:rK)(k:List bQ)(d:D):(oV kvs k d).map (·.1)=if(fP kvs k).isSome then kvs.map (·.1) else kvs.map (·.1)++[k]:=by
 by_cases h:(fP kvs k).isSome=true
 ·rw[if_pos h]
  unfold oV;have:(kvs.any λkv=>decide (kv.1=k))=true:=by
   unfold fP at h;rw[Option.isSome_map,List.find?_isSome] at h;exact List.any_eq_true.mpr h
  rw[if_pos this,List.map_map];refine List.map_congr_left λq _=>?_
  show(if q.1=k then(q.1,d) else q).1=q.1
  split<;>rfl
 ·have h:fP kvs k=none:=by simpa using h
  rw[Bf h,h,List.map_append];rfl
theorem PInv.start:PInv [] []:=⟨⟨[],rfl,List.nodup_nil,λz=>Iff.rfl⟩,λz h=>absurd h List.not_mem_nil,λz _=>rfl⟩
theorem PInv.step {kvs:rK}{ks:List (List Int)}(I:PInv kvs ks)(k:List Int):PInv (xt kvs k) (ks++[k]):=by
 have hval: ∀z,fP (xt kvs k) (iK z)=if z=k then some (.bl (match fP kvs (iK k) with|some (.bl b)=> !b|_=>true)) else fP kvs (iK z):=λz=>by
  unfold xt;rw[zL]
  by_cases e:z=k
  ·rw[if_pos e,if_pos (by rw[e])]
  ·rw[if_neg e,if_neg λw=>e (EK w)]
 refine⟨?_,λz hz=>?_,λz hz=>?_⟩
 ·obtain⟨l,h1,h2,h3⟩:=I.keys
  by_cases c:k∈ks
  ·refine⟨l,?_,h2,λz=>?_⟩
   ·unfold xt
    rw[pV,I.val k c];exact h1
   ·rw[h3,List.mem_append,List.mem_singleton]
    exact⟨.inl,λw=>w.elim id λe=>e▸c⟩
  ·refine⟨l++[k],?_,?_,λz=>?_⟩
   ·unfold xt
    rw[pV,I.non k c,h1,List.map_append];rfl
   ·rw[List.nodup_append]
    exact⟨h2,by simp,λx hx y hy e=>by rw[List.mem_singleton] at hy;subst hy e;exact c ((h3 _).mp hx)⟩
   ·rw[List.mem_append,List.mem_append,h3]
 ·rw[hval,List.count_append]
  by_cases e:z=k
  ·subst e
   rw[if_pos rfl];have c1:List.count z [z]=1:=by simp
   rw[c1]
   by_cases c:z∈ks
   ·rw[I.val z c]
    congr 2
    show(!decide _)=decide _;rw[Bool.eq_iff_iff];simp only[Bool.not_eq_true',decide_eq_false_iff_not,decide_eq_true_eq];omega
   ·rw[I.non z c,List.count_eq_zero.mpr c]
    rfl
  ·have c0:List.count z [k]=0:=List.count_eq_zero.mpr (by simpa using e)
   rw[if_neg e,c0,Nat.add_zero];refine I.val z ?_
   rcases List.mem_append.mp hz with h|h
   ·exact h
   ·exact absurd (List.mem_singleton.mp h) e
 ·rw[hval,if_neg λw=>hz (by rw[w];simp)]
  exact I.non z λw=>hz (List.mem_append_left _ w)
theorem PInv.len {kvs:rK}{ks:List (List Int)}(I:PInv kvs ks):kvs.length<=ks.length:=by
 obtain⟨l,h1,h2,h3⟩:=I.keys
 have e:=congrArg List.length h1
 rw[List.length_map,List.length_map] at e;rw[e];exact List.Nodup.length_le_of_subset h2 λz hz=>(h3 z).mp hz
theorem PInv.srt {kvs:rK}{ks:List (List Int)}(I:PInv kvs ks): ∃l:List (List Int),intKs kvs=some l/\(∀z∈l,z∈ks)/\(∀z∈l,fP kvs (iK z)=some (.bl (decide ((ks.count z) % 2=1))))/\bP cm (l.filter λz=>decide ((ks.count z) % 2=1))=lO ks/\l.length=kvs.length:=by
 obtain⟨l,h1,h2,h3⟩:=I.keys
 have ik: ∀(kvs:rK) (l:List (List Int)),kvs.map (·.1)=l.map iK->intKs kvs=some l:=by
  intro kvs
  induction kvs with
  |nil=>intro l h;cases l with|nil=>rfl|cons _ _=>cases h
  |cons p kvs ih=>
   intro l h;cases l with
   |nil=>cases h
   |cons z l=>
    rw[List.map_cons,List.map_cons] at h;injection h with h1 h2
    obtain⟨a,d⟩:=p
    have h1:a=iK z:=h1
    subst h1;show(intKs.intK (iK z)).bind (λns=>(intKs kvs).map (ns:: ·))=_
    rw[nv,ih l h2];rfl
 refine⟨l,ik kvs l h1,λz hz=>(h3 z).mp hz,λz hz=>I.val z ((h3 z).mp hz),xi (List.Nodup.sublist List.filter_sublist h2) λz=>?_,?_⟩
 ·rw[List.mem_filter,decide_eq_true_eq,h3]
  exact⟨λw=>w.2,λw=>⟨List.count_pos_iff.mp (by omega),w⟩⟩
 ·have:=congrArg List.length h1
  rw[List.length_map,List.length_map] at this;exact this.symm
section
variable {n:Nat}{r x:List Nat}(h1:r.length=n)(h2:x.length=n)(h3:2<=n)(h4:n<=6)
include h1 h2 h3 h4
theorem Cs(c:Int):oY [fM r x,.int c]=some (.bl (zm r x c)):=by
 apply jx (kd:=.s) (n:=7) (t:=hX)
 unfold hX zm;have s1:cv (gT 2 (eV (gN 2) (eV (gN 3) (jI)))) (pu (ag 0)) (ij 7 [fM r x,.int c])=.nx [.v (fM r x),.v (.int c),.v (ax r),.v (ax x),.no,.no,.no]:=fX (ge rfl) rfl
 rw[ay s1];have p1:gI (aX (z8 yd yd (aA (.int 0)) (ag 1) (ak fz (ao cW (aa (ag 2) (ai))) (aA (.int 2))))) [.v (fM r x),.v (.int c),.v (ax r),.v (ax x),.no,.no,.no]=some (!(decide (0<=c)&&decide (c<=(r.length:Int) -2))):=
  iR (bf (u1 (x:=.int 0) (y:=.int c) (z:=.int ((r.length:Int) -2)) rfl rfl rfl ((au (gy r _ _ rfl) (y:=.int 2) rfl).trans (jw _ _)) rfl))
 by_cases hc:0<=c/\c<=(r.length:Int) -2
 ·have e:(decide (0<=c)&&decide (c<=(r.length:Int) -2))=true:=by rw[Bool.and_eq_true,decide_eq_true_eq,decide_eq_true_eq];exact hc
  rw[e] at p1⊢;rw[Bool.true_and];rw[ay (eM p1)];obtain⟨c,rfl⟩: ∃m:Nat,c=m:=⟨c.toNat,by omega⟩
  rw[Int.toNat_natCast];have ad: ∀ρ:aF,ag 1 ρ=some (nI c)->ak aO (ag 1) (aA (.int 1)) ρ=some (nI (c+1)):=λρ h=>(au h (y:=.int 1) rfl).trans (mV c)
  rw[ay (ρ':=[.v (fM r x),.v (.int c),.v (ax r),.v (ax x),.v (.tup [nI (r.getD c 0),nI (x.getD c 0)]),.no,.no]) ((bc (cG (av ((au (x:=ax r) (y:=nI c) rfl rfl).trans (cK (by omega))) (av ((au (x:=ax x) (y:=nI c) rfl rfl).trans (cK (by omega))) rfl)) (by simp))).trans rfl)]
  rw[ay (ρ':=[.v (fM r x),.v (.int c),.v (ax r),.v (ax x),.v (.tup [nI (r.getD c 0),nI (x.getD c 0)]),.v (.tup [nI (r.getD (c+1) 0),nI (x.getD (c+1) 0)]),.no]) ((bc (cG (av ((au (x:=ax r) rfl (ad _ rfl)).trans (cK (by omega))) (av ((au (x:=ax x) rfl (ad _ rfl)).trans (cK (by omega))) rfl)) (by simp))).trans rfl)]
  have p2:p8 (aX (ak (gd false) (ak aP (ag 4) (aA (.int 0))) (ag 5))) (aX (ak (gd false) (ak aP (ag 4) (aA (.int 1))) (ag 5))) [.v (fM r x),.v (.int c),.v (ax r),.v (ax x),.v (.tup [nI (r.getD c 0),nI (x.getD c 0)]),.v (.tup [nI (r.getD (c+1) 0),nI (x.getD (c+1) 0)]),.no]=some ((decide (r.getD c 0=r.getD (c+1) 0)||decide (r.getD c 0=x.getD (c+1) 0))||(decide (x.getD c 0=r.getD (c+1) 0)||decide (x.getD c 0=x.getD (c+1) 0))):=
   vf (bf ((au (x:=nI (r.getD c 0)) (y:=.tup [nI (r.getD (c+1) 0),nI (x.getD (c+1) 0)]) rfl rfl).trans (Gi _ _ _))) (bf ((au (x:=nI (x.getD c 0)) (y:=.tup [nI (r.getD (c+1) 0),nI (x.getD (c+1) 0)]) rfl rfl).trans (Gi _ _ _)))
  unfold EW;revert p2
  generalize ((decide (r.getD c 0=r.getD (c+1) 0)||decide (r.getD c 0=x.getD (c+1) 0))||(decide (x.getD c 0=r.getD (c+1) 0)||decide (x.getD c 0=x.getD (c+1) 0)))=pb
  intro p2;cases pb with
  |true=>
   exact⟨_,gX ((dN p2).trans rfl)⟩
  |false=>
   rw[ay (eM p2)]
   generalize hA:r.getD (c+1) 0=A
   generalize hB:x.getD (c+1) 0=B
   generalize hU:r.getD c 0=U
   generalize hV:x.getD c 0=V
   have cp:cy 1 (df (ag 5)) (gN 7) (dD (ao (nF 3 gb) (aa (ag 7) (aa (ak aP (ag 4) (aA (.int 0))) (aa (ak aP (ag 4) (aA (.int 1))) (ai)))))) (ag 7) [.v (fM r x),.v (.int c),.v (ax r),.v (ax x),.v (.tup [nI U,nI V]),.v (.tup [nI A,nI B]),.no]=some (.lst ((([A,B]:List Nat).filter λv=>C5 v U V).map nI)):=
    gv (ds:=([A,B]:List Nat).map nI) (zT rfl) (by simp) (gp (h:=nI) (o:=nI) (q:=λv=>C5 v U V) ([A,B]:List Nat) λv _=>⟨_,rfl,fW ((bT (ds:=[nI v,nI U,nI V]) rfl rfl).trans (BY v U V)),λ_=>rfl⟩)
   refine⟨_,(ay ((bc cp).trans rfl)).trans (bF ?_)⟩
   refine(au (yE _ _ _ rfl) (y:=.int 1) rfl).trans ?_
   rw[kh (by rw[gk];omega),jQ]
   congr 2
   cases e1:C5 A U V<;>cases e2:C5 B U V<;>simp[List.filter,e1,e2]
 ·have e:(decide (0<=c)&&decide (c<=(r.length:Int) -2))=false:=by rw[Bool.eq_false_iff,Ne,Bool.and_eq_true,decide_eq_true_eq,decide_eq_true_eq];exact hc
  rw[e] at p1⊢;exact⟨_,gX ((dN p1).trans rfl)⟩
end
abbrev iy:=List Nat×List Nat
def bu(S:iy):D:=fM S.1 S.2
def lG(S:iy)(c y:Nat):Bool:=decide (y=S.1.getD c 0\/y=S.2.getD c 0)
def Ln(n:Nat)(S:iy):Prop:=S.1.length=n/\S.2.length=n
theorem wn {n:Nat}{S:iy}(h:Ln n S){c:Nat}(hc:c<n)(y:Nat):cC [bu S,nI c,nI y]=some (.bl (lG S c y)):=by
 apply bZ (kd:=.s) (n:=5) (t:=km)
 unfold km;refine(ay (ρ':=[.v (bu S),.v (nI c),.v (nI y),.v (ax S.1),.v (ax S.2)]) (fX (ge rfl) rfl)).trans (bF ((au (x:=nI y) rfl (cG (ds:=[nI (S.1.getD c 0),nI (S.2.getD c 0)]) (av ((au (x:=ax S.1) (y:=nI c) rfl rfl).trans (cK (by rw[h.1];exact hc))) (av ((au (x:=ax S.2) (y:=nI c) rfl rfl).trans (cK (by rw[h.2];exact hc))) rfl)) (by simp))).trans (IP _ _ _)))
theorem yu(C R:List Nat)(f:Nat->Nat->Bool):(C.flatMap λc=>R.map λy=>f c y).any id=C.any λc=>R.any λy=>f c y:=by
 induction C with
 |nil=>rfl
 |cons c C ih=>rw[List.flatMap_cons,List.any_append,ih,List.any_cons,List.any_map];rfl
theorem yZ {α:Type}(C:List Nat)(R:List Nat)(f:Nat->Nat->α):(C.flatMap λc=>R.map λy=>f c y).length=C.length*R.length:=by
 induction C with
 |nil=>simp
 |cons c C ih=>rw[List.flatMap_cons,List.length_append,ih,List.length_map,List.length_cons,Nat.succ_mul];omega
theorem xT {n:Nat}{S:iy}(h:Ln n S){C R:List Nat}(hC: ∀c∈C,c<n)(hl:C.length*R.length<=1000):cL [bu S,.lst (C.map nI),.lst (R.map nI)]=some (.bl (!C.any λc=>R.any λy=>lG S c y)):=by
 apply bZ (kd:=.s) (n:=3) (t:=fV)
 unfold fV;refine bF (ki (iR (bf ?_)))
 have cp:pc 2 (df (ag 1)) (gN 3) (ft) (df (ag 2)) (gN 4) (ft) (ao (nF 3 cC) (aa (ag 0) (aa (ag 3) (aa (ag 4) (ai))))) (ij 3 [bu S,.lst (C.map nI),.lst (R.map nI)])=some (.lst ((C.flatMap λc=>R.map λy=>lG S c y).map D.bl)):=by
  refine vT (ds:=C.map nI) (fY rfl) ?_ (by rw[List.length_map,yZ];exact hl)
  refine(lB (h:=nI) (q:=λ_=>true) (o:=λc=>R.map λy=>D.bl (lG S c y)) C λc hc=>⟨_,rfl,rfl,λ_=>?_⟩).trans ?_
  ·refine zI (ds:=R.map nI) (fY rfl) ?_
   refine(lB (h:=nI) (q:=λ_=>true) (o:=λy=>[D.bl (lG S c y)]) R λy hy=>⟨_,rfl,rfl,λ_=>?_⟩).trans ?_
   ·exact wj ((bT (ds:=[bu S,nI c,nI y]) rfl rfl).trans (wn h (hC c hc) y))
   ·rw[sj,List.filter_eq_self.mpr λ_ _=>rfl]
  ·rw[List.filter_eq_self.mpr (λ_ _=>rfl),List.map_flatMap]
   congr 2
   funext c;rw[List.map_map];rfl
 rw[bS (av cp rfl),vD,yu]
def i9(sides:List iy)(turns:List Nat)(col:Nat):Nat->List Nat->Bool
 |_,[]=>true
 |at_,y::R=> !lG (sides.getD at_ ([],[])) col y&&i9 sides turns col (at_+if y∈turns then 1 else 0) R
def tG:FS:=aB (cP (dD (ao (nF 3 cC) (aa (ak aP (ag 3) (ag 5)) (aa (ag 0) (aa (ag 6) (ai)))))) (ba (aA (.bl false))) (skip))
 (cP (aX (ak (gd false) (ag 6) (ag 4))) (zk aO 5 (aA (.int 1))) (skip))
theorem pO {n:Nat}{sides:List iy}{turns:List Nat}{col:Nat}(hs: ∀S∈sides,Ln n S)(hc:col<n)(dr db:D): ∀(R:List Nat) (at_:Nat) (s6:Sl),at_+(R.filter λy=>decide (y∈turns)).length<sides.length->
 (i9 sides turns col at_ R=true-> ∃s5 s6',cD (gN 6) tG (R.map nI) [.v (nI col),.v dr,.v db,.v (.lst (sides.map bu)),.v (.lst (turns.map nI)),.v (nI at_),s6]=.nx [.v (nI col),.v dr,.v db,.v (.lst (sides.map bu)),.v (.lst (turns.map nI)),s5,s6'])/\
 (i9 sides turns col at_ R=false-> ∃ρ,cD (gN 6) tG (R.map nI) [.v (nI col),.v dr,.v db,.v (.lst (sides.map bu)),.v (.lst (turns.map nI)),.v (nI at_),s6]=.rt (.bl false) ρ)
 | [],at_,s6,_=>⟨λ_=>⟨_,_,rfl⟩,λh=>by cases h⟩
 |y::R,at_,s6,hl=>by
  let st:Nat->aF:=λm=>[.v (nI col),.v dr,.v db,.v (.lst (sides.map bu)),.v (.lst (turns.map nI)),.v (nI m),.v (nI y)]
  have la:at_<sides.length:=by omega
  have es:sides.getD at_ ([],[])=sides[at_]:=by simp[List.getD,la]
  have m1:dD (ao (nF 3 cC) (aa (ak aP (ag 3) (ag 5)) (aa (ag 0) (aa (ag 6) (ai))))) (st at_)=some (lG (sides.getD at_ ([],[])) col y):=by
   refine fW ((bT (ds:=[bu (sides.getD at_ ([],[])),nI col,nI y]) (av ((au (x:=.lst (sides.map bu)) (y:=nI at_) rfl rfl).trans (qU (by rw[List.getElem?_map,List.getElem?_eq_getElem la,es];rfl))) rfl) rfl).trans (wn (n:=n) ?_ hc y))
   rw[es];exact hs _ (List.getElem_mem la)
  have m2:aX (ak (gd false) (ag 6) (ag 4)) (st at_)=some (decide (y∈turns)):=bf ((au (x:=nI y) (y:=.lst (turns.map nI)) rfl rfl).trans (FN _ _))
  have q2:cP (aX (ak (gd false) (ag 6) (ag 4))) (zk aO 5 (aA (.int 1))) (skip) (st at_)=.nx (st (at_+if y∈turns then 1 else 0)):=by
   by_cases e:y∈turns
   ·rw[decide_eq_true e] at m2
    rw[if_pos e,dN m2];rfl
   ·rw[decide_eq_false e] at m2
    rw[if_neg e,j3 m2];rfl
  unfold i9;rw[List.map_cons];cases e:lG (sides.getD at_ ([],[])) col y with
  |true=>
   rw[e] at m1;refine⟨λh=>by simp at h,λ_=>⟨st at_,?_⟩⟩
   have:tG (st at_)=.rt (.bl false) (st at_):=gX ((dN m1).trans rfl)
   exact Ch (ρ1:=st at_) rfl this
  |false=>
   rw[e] at m1;rw[Bool.not_false,Bool.true_and];have hb:tG (st at_)=.nx (st (at_+if y∈turns then 1 else 0)):=(ay ((j3 m1).trans rfl)).trans q2
   rw[cb (ρ1:=st at_) rfl hb];refine pO hs hc dr db R _ (.v (nI y)) ?_
   rw[List.filter_cons] at hl
   by_cases e2:y∈turns
   ·rw[if_pos (decide_eq_true e2),List.length_cons] at hl
    rw[if_pos e2];omega
   ·rw[if_neg (by rw[decide_eq_false e2];decide)] at hl
    rw[if_neg e2];omega
def dX(sides:List iy)(turns:List Nat):D:=.tup [.lst (sides.map bu),.lst (turns.map nI)]
theorem BI {n:Nat}{sides:List iy}{turns:List Nat}{col:Nat}(hs: ∀S∈sides,Ln n S)(hc:col<n)(R:List Nat)(hl:(R.filter λy=>decide (y∈turns)).length<sides.length):fj [nI col,.lst (R.map nI),dX sides turns]=some (.bl (i9 sides turns col 0 R)):=by
 refine jx (kd:=.s) (n:=7) (t:=iJ) ?_
 have k:=pO (n:=n) (turns:=turns) hs hc (.lst (R.map nI)) (dX sides turns) R 0 .no (by omega)
 unfold iJ;refine(λh=>?_ :(∃ρ,aB (dI (bL (df (ag 1))) (gN 6) tG) (ba (aA (.bl true))) [.v (nI col),.v (.lst (R.map nI)),.v (dX sides turns),.v (.lst (sides.map bu)),.v (.lst (turns.map nI)),.v (nI 0),.no]=.rt (.bl (i9 sides turns col 0 R)) ρ)->_) ?_
 ·obtain⟨ρ,h⟩:=h
  exact⟨ρ,(ay (ρ':=[.v (nI col),.v (.lst (R.map nI)),.v (dX sides turns),.v (.lst (sides.map bu)),.v (.lst (turns.map nI)),.no,.no]) (fX (ge rfl) rfl)).trans ((ay (ρ':=[.v (nI col),.v (.lst (R.map nI)),.v (dX sides turns),.v (.lst (sides.map bu)),.v (.lst (turns.map nI)),.v (nI 0),.no]) rfl).trans h)⟩
 ·cases e:i9 sides turns col 0 R with
  |true=>
   obtain⟨s5,s6,h⟩:=k.1 e
   exact⟨_,(ay ((cH (br (fY rfl))).trans h)).trans rfl⟩
  |false=>
   obtain⟨ρ,h⟩:=k.2 e
   exact⟨ρ,gX ((cH (br (fY rfl))).trans h)⟩
def cU(n:Nat)(S:iy)(o:List Nat)(a b col:Nat)(sides:List iy)(turns:List Nat):Bool:=
 decide ((dM n (o.getD a 0) (o.getD b 0)).filter (λy=>decide (y∈turns))=turns)&&(kM o a b&&((!((dM n a b).filter λc=>decide (c≠col)).any λc=>(dM n (o.getD a 0) (o.getD b 0)).any λy=>lG S c y)&&i9 sides turns col 0 (dM n (o.getD a 0) (o.getD b 0))))
theorem Ep {n s e c:Nat}(h:0<n)(hc:c∈dM n s e):c<n:=by
 unfold dM at hc;obtain⟨i,_,rfl⟩:=List.mem_map.mp hc
 exact Nat.mod_lt _ h
theorem BH(l m:List Nat):eI (.lst (l.map nI)) (.lst (m.map nI))=decide (l=m):=by
 have e:=wF (l.map Int.ofNat) (m.map Int.ofNat)
 have inj:l.map Int.ofNat=m.map Int.ofNat↔l=m:=List.map_inj_right λx y h=>by injection h
 unfold cX at e;rw[List.map_map,List.map_map] at e;unfold eI at e⊢;exact e.trans (decide_eq_decide.mpr inj)
theorem pX {n:Nat}{S:iy}{o:List Nat}{a b col:Nat}{sides:List iy}{turns:List Nat}(h:0<n)(hn:n<=8)(hS:Ln n S)(ho:o.length=n)(ha:a<n)(hb:b<n)(hc:col<n)(hs: ∀S∈sides,Ln n S)(ht:turns.length<sides.length):
 cs [bu S,ax o,nI a,nI b,nI col,dX sides turns]=some (.bl (cU n S o a b col sides turns)):=by
 refine jx (kd:=.s) (n:=10) (t:=lN) ?_
 let R:=dM n (o.getD a 0) (o.getD b 0)
 let C:=(dM n a b).filter λc=>decide (c≠col)
 let st:Sl->Sl->aF:=λs8 s9=>[.v (bu S),.v (ax o),.v (nI a),.v (nI b),.v (nI col),.v (dX sides turns),.v (.lst (sides.map bu)),.v (.lst (turns.map nI)),s8,s9]
 have lR:R.length<n:=rF h _ _
 have lC0:(dM n a b).length<n:=rF h _ _
 have lC:C.length<n:=Nat.lt_of_le_of_lt (List.length_filter_le _ _) lC0
 unfold lN;have q1:cv (gT 2 (eV (gN 6) (eV (gN 7) (jI)))) (pu (ag 5)) (ij 10 [bu S,ax o,nI a,nI b,nI col,dX sides turns])=.nx (st .no .no):=fX (ge rfl) rfl
 have q2:aT 8 (ao (nF 3 gn) (aa (ag 1) (aa (ag 2) (aa (ag 3) (ai))))) (st .no .no)=.nx (st (.v (.lst (R.map nI))) .no):=(bc ((bT (ds:=[ax o,nI a,nI b]) rfl rfl).trans (wG ho h (by omega) ha hb))).trans rfl
 have c1:cy 1 (df (ag 8)) (gN 10) (aX (ak (gd false) (ag 10) (ag 7))) (ag 10) (st (.v (.lst (R.map nI))) .no)=some (.lst ((R.filter λy=>decide (y∈turns)).map nI)):=
  gv (ds:=R.map nI) (fY rfl) (by rw[List.length_map];omega) (gp (h:=nI) (o:=nI) (q:=λy=>decide (y∈turns)) R λy _=>⟨_,rfl,bf ((au (x:=nI y) (y:=.lst (turns.map nI)) rfl rfl).trans (FN _ _)),λ_=>rfl⟩)
 have t1:aX (ak lh (cy 1 (df (ag 8)) (gN 10) (aX (ak (gd false) (ag 10) (ag 7))) (ag 10)) (ag 7)) (st (.v (.lst (R.map nI))) .no)=some (!decide ((R.filter λy=>decide (y∈turns))=turns)):=by
  refine bf ((au c1 (y:=.lst (turns.map nI)) rfl).trans ?_)
  rw[kh (tj _),BH]
 have t2:gI (dD (ao (nF 3 jO) (aa (ag 1) (aa (ag 2) (aa (ag 3) (ai)))))) (st (.v (.lst (R.map nI))) .no)=some (!kM o a b):=iR (fW ((bT (ds:=[ax o,nI a,nI b]) rfl rfl).trans (BC ho h (by omega) ha hb)))
 have q3:aT 9 (cy 1 (df (ao (nF 3 dz) (aa (ag 1) (aa (ag 2) (aa (ag 3) (ai)))))) (gN 10) (aX (ak lh (ag 10) (ag 4))) (ag 10)) (st (.v (.lst (R.map nI))) .no)=.nx (st (.v (.lst (R.map nI))) (.v (.lst (C.map nI)))):=by
  refine(bc (gv (ds:=(dM n a b).map nI) (fY ((bT (ds:=[ax o,nI a,nI b]) rfl rfl).trans (vz ho h (by omega) a b))) (by rw[List.length_map];omega) (gp (h:=nI) (o:=nI) (q:=λc=>decide (c≠col)) (dM n a b) λc _=>⟨_,rfl,bf ((au (x:=nI c) (y:=nI col) rfl rfl).trans ?_),λ_=>rfl⟩))).trans rfl
  rw[kh (by rw[gk];omega),jk]
  congr 2
  rw[Bool.eq_iff_iff];simp
 unfold cU;rw[ay q1,ay q2];cases e1:decide ((dM n (o.getD a 0) (o.getD b 0)).filter (λy=>decide (y∈turns))=turns) with
 |false=>
  have t1:aX _ _=some (!decide ((dM n (o.getD a 0) (o.getD b 0)).filter (λy=>decide (y∈turns))=turns)):=t1
  rw[e1] at t1;exact⟨_,gX ((dN (Di t1)).trans rfl)⟩
 |true=>
  have t1:aX _ _=some (!decide ((dM n (o.getD a 0) (o.getD b 0)).filter (λy=>decide (y∈turns))=turns)):=t1
  rw[e1] at t1;have er:=of_decide_eq_true e1
  cases e2:kM o a b with
  |false=>
   rw[e2] at t2;exact⟨_,gX ((dN (n8 t1 t2)).trans rfl)⟩
  |true=>
   rw[e2] at t2;rw[ay (eM (n8 t1 t2)),ay q3];have k1:=xT hS (C:=C) (R:=R) (λc hc'=>Ep h (List.mem_filter.mp hc').1) (Nat.le_trans (Nat.mul_le_mul (show C.length<=8 by omega) (show R.length<=8 by omega)) (by omega))
   have k2:=BI (n:=n) (turns:=turns) (col:=col) hs hc R (by show(List.filter _ (dM n (o.getD a 0) (o.getD b 0))).length<_;rw[er];exact ht)
   have k1':aX (ao (nF 3 cL) (aa (ag 0) (aa (ag 9) (aa (ag 8) (ai))))) (st (.v (.lst (R.map nI))) (.v (.lst (C.map nI))))=some (!C.any λc=>R.any λy=>lG S c y):=bf ((bT (ds:=[bu S,.lst (C.map nI),.lst (R.map nI)]) rfl rfl).trans k1)
   have k2':aX (ao (nF 3 fj) (aa (ag 4) (aa (ag 8) (aa (ag 5) (ai))))) (st (.v (.lst (R.map nI))) (.v (.lst (C.map nI))))=some (i9 sides turns col 0 R):=bf ((bT (ds:=[nI col,.lst (R.map nI),dX sides turns]) rfl rfl).trans k2)
   refine⟨_,bF (ki ?_)⟩
   rw[Bool.true_and,Bool.true_and];exact ng k1' (λz=>by
    have z:(!((dM n a b).filter λc=>decide (c≠col)).any λc=>(dM n (o.getD a 0) (o.getD b 0)).any λy=>lG S c y)=true:=z
    rw[z,Bool.true_and];exact k2') (λz=>by
    have z:(!((dM n a b).filter λc=>decide (c≠col)).any λc=>(dM n (o.getD a 0) (o.getD b 0)).any λy=>lG S c y)=false:=z
    rw[z];rfl)
def jd(P Q:Nat->Bool)(o:List Nat)(i j:Nat):List (List Nat):=(if(decide (j≠i)&&P j)=true then [lF o i j] else [])++(if(decide (j≠i)&&Q j)=true then [lF o j i] else [])
def pD(n:Nat)(P Q:Nat->Bool)(o:List Nat)(i:Nat):List (List Nat):=(List.range n).flatMap (jd P Q o i)
theorem A9 {n:Nat}{S:iy}{o:List Nat}{c:Nat}{rs ls:List iy}{rt lt:List Nat}(h:0<n)(hn:n<=8)(hS:Ln n S)(ho:o.length=n)(hc:c+1<n)(hrs: ∀S∈rs,Ln n S)(hls: ∀S∈ls,Ln n S)(hrt:rt.length<rs.length)(hlt:lt.length<ls.length):
 eS [bu S,nI c,ax o,dX rs rt,dX ls lt]=some (.lst ((pD n (λj=>cU n S o (c+1) j (c+1) rs rt) (λj=>cU n S o j (c+1) c ls lt) o (c+1)).map ax)):=by
 let P:Nat->Bool:=λj=>cU n S o (c+1) j (c+1) rs rt
 let Q:Nat->Bool:=λj=>cU n S o j (c+1) c ls lt
 let st:List D->Sl->aF:=λF s7=>[.v (bu S),.v (nI c),.v (ax o),.v (dX rs rt),.v (dX ls lt),.v (nI (c+1)),.own F,s7]
 have bl: ∀j,(jd P Q o (c+1) j).length<=2:=λj=>by
  unfold jd;split<;>split<;>simp
 have step: ∀(j:Nat) (F:List D),j<n->F.length<=100->aB (cP (cx (aX (ak lh (ag 7) (ag 5))) (dD (ao (nF 6 cs) (aa (ag 0) (aa (ag 2) (aa (ag 5) (aa (ag 7) (aa (ag 5) (aa (ag 3) (ai)))))))))) (ca (aN 6 1 gH (bL (aa (ao (nF 3 dR) (aa (ag 2) (aa (ag 5) (aa (ag 7) (ai))))) (ai))))) (skip))
  (cP (cx (aX (ak lh (ag 7) (ag 5))) (dD (ao (nF 6 cs) (aa (ag 0) (aa (ag 2) (aa (ag 7) (aa (ag 5) (aa (ag 1) (aa (ag 4) (ai)))))))))) (ca (aN 6 1 gH (bL (aa (ao (nF 3 dR) (aa (ag 2) (aa (ag 7) (aa (ag 5) (ai))))) (ai))))) (skip)) (st F (.v (nI j)))=.nx (st (F++(jd P Q o (c+1) j).map ax) (.v (nI j))):=by
  intro j F hj hF;have ne: ∀F,aX (ak lh (ag 7) (ag 5)) (st F (.v (nI j)))=some (decide (j≠c+1)):=λF=>by
   refine bf ((au (x:=nI j) (y:=nI (c+1)) rfl rfl).trans ?_)
   rw[kh (by rw[gk];omega),jk]
   congr 2
   rw[Bool.eq_iff_iff];simp
  have p1: ∀F,dD (ao (nF 6 cs) (aa (ag 0) (aa (ag 2) (aa (ag 5) (aa (ag 7) (aa (ag 5) (aa (ag 3) (ai)))))))) (st F (.v (nI j)))=some (P j):=λF=>fW ((bT (ds:=[bu S,ax o,nI (c+1),nI j,nI (c+1),dX rs rt]) rfl rfl).trans (pX h hn hS ho hc hj hc hrs hrt))
  have p2: ∀F,dD (ao (nF 6 cs) (aa (ag 0) (aa (ag 2) (aa (ag 7) (aa (ag 5) (aa (ag 1) (aa (ag 4) (ai)))))))) (st F (.v (nI j)))=some (Q j):=λF=>fW ((bT (ds:=[bu S,ax o,nI j,nI (c+1),nI c,dX ls lt]) rfl rfl).trans (pX h hn hS ho hj hc (by omega) hls hlt))
  have b1: ∀F:List D,F.length<=200->ca (aN 6 1 gH (bL (aa (ao (nF 3 dR) (aa (ag 2) (aa (ag 5) (aa (ag 7) (ai))))) (ai)))) (st F (.v (nI j)))=.nx (st (F++[ax (lF o (c+1) j)]) (.v (nI j))):=λF hF=>(oI (i:=6) (b0:=F) (bs:=F) (d:=ax (lF o (c+1) j)) rfl (br (av ((bT (ds:=[ax o,nI (c+1),nI j]) rfl rfl).trans (pT ho hc hj)) rfl)) rfl (by omega)).trans rfl
  have b2: ∀F:List D,F.length<=200->ca (aN 6 1 gH (bL (aa (ao (nF 3 dR) (aa (ag 2) (aa (ag 7) (aa (ag 5) (ai))))) (ai)))) (st F (.v (nI j)))=.nx (st (F++[ax (lF o j (c+1))]) (.v (nI j))):=λF hF=>(oI (i:=6) (b0:=F) (bs:=F) (d:=ax (lF o j (c+1))) rfl (br (av ((bT (ds:=[ax o,nI j,nI (c+1)]) rfl rfl).trans (pT ho hj hc)) rfl)) rfl (by omega)).trans rfl
  have an: ∀(F:List D) (f:FT) (v:Bool),f (st F (.v (nI j)))=some v->cx (aX (ak lh (ag 7) (ag 5))) f (st F (.v (nI j)))=some (decide (j≠c+1)&&v):=λF f v hv=>ng (ne F) (λz=>by rw[z,Bool.true_and];exact hv) (λz=>by rw[z];rfl)
  unfold jd;rw[List.map_append,<-List.append_assoc];cases e1:(decide (j≠c+1)&&P j) with
  |true=>
   have a1:=an F _ _ (p1 F)
   rw[e1] at a1;rw[if_pos rfl,ay ((dN a1).trans (b1 F (by omega)))]
   have a2:=an (F++[ax (lF o (c+1) j)]) _ _ (p2 _)
   cases e2:(decide (j≠c+1)&&Q j) with
   |true=>rw[e2] at a2;rw[if_pos rfl,dN a2];exact b2 _ (by simp;omega)
   |false=>rw[e2] at a2;rw[if_neg (by decide),eM a2,List.map_nil,List.append_nil];try rfl
  |false=>
   have a1:=an F _ _ (p1 F)
   rw[e1] at a1;rw[if_neg (by decide),ay (eM a1),List.map_nil,List.append_nil]
   have a2:=an F _ _ (p2 _)
   cases e2:(decide (j≠c+1)&&Q j) with
   |true=>rw[e2] at a2;rw[if_pos rfl,dN a2];exact b2 _ (by omega)
   |false=>rw[e2] at a2;rw[if_neg (by decide),eM a2,List.map_nil,List.append_nil];try rfl
 have fl: ∀k,((List.range k).flatMap (jd P Q o (c+1))).length<=2*k:=λk=>by
  induction k with
  |zero=>simp
  |succ k ih=>
   rw[List.range_succ,List.flatMap_append,List.length_append,List.flatMap_singleton];have:=bl k
   omega
 obtain⟨ρ',hf,s7,rfl⟩:=qR (g:=gN 7) (b:=aB (cP (cx (aX (ak lh (ag 7) (ag 5))) (dD (ao (nF 6 cs) (aa (ag 0) (aa (ag 2) (aa (ag 5) (aa (ag 7) (aa (ag 5) (aa (ag 3) (ai)))))))))) (ca (aN 6 1 gH (bL (aa (ao (nF 3 dR) (aa (ag 2) (aa (ag 5) (aa (ag 7) (ai))))) (ai))))) (skip))
  (cP (cx (aX (ak lh (ag 7) (ag 5))) (dD (ao (nF 6 cs) (aa (ag 0) (aa (ag 2) (aa (ag 7) (aa (ag 5) (aa (ag 1) (aa (ag 4) (ai)))))))))) (ca (aN 6 1 gH (bL (aa (ao (nF 3 dR) (aa (ag 2) (aa (ag 7) (aa (ag 5) (ai))))) (ai))))) (skip)))
  (P:=λj ρ=> ∃s7,ρ=st (((List.range j).flatMap (jd P Q o (c+1))).map ax) s7) n 0 (λj ρ _ hj hq_=>by
    obtain⟨s7,e⟩:=hq_
    subst e;rw[Nat.zero_add] at hj;refine⟨_,_,rfl,step j _ hj (by rw[List.length_map];have:=fl j;omega),.v (nI j),?_⟩
    rw[List.range_succ,List.flatMap_append,List.flatMap_singleton,List.map_append]) (st [] .no) ⟨.no,rfl⟩
 rw[Nat.zero_add] at hf;apply bZ (kd:=.n) (n:=8) (t:=jz)
 unfold jz;refine(ay (ρ':=[.v (bu S),.v (nI c),.v (ax o),.v (dX rs rt),.v (dX ls lt),.v (nI (c+1)),.no,.no]) ((bc ((au (x:=nI c) (y:=.int 1) rfl rfl).trans (mV c))).trans rfl)).trans ?_
 refine(ay (ρ':=st [] .no) ((iN (dJ (ds:=[]) rfl (by simp))).trans rfl)).trans ?_
 refine(ay ((cH (ds:=(List.range n).map nI) (br (fS (n:=n) (av ((gy o _ _ rfl).trans (by rw[ho])) rfl) (by omega)))).trans (by rw[List.range_eq_range'];exact hf))).trans rfl
theorem D6 {n s t:Nat}(hs:s<n)(ht:t<n):(s+(((t:Int) -s) % n).toNat) % n=t:=by
 have m:=wm ((t:Int) -s) (show 0<n by omega)
 have e:((t:Int) -s) % n=if s<=t then(t:Int) -s else(t:Int) -s+n:=by
  split
  ·exact Int.emod_eq_of_lt (by omega) (by omega)
  ·rw[<-Int.add_emod_right];exact Int.emod_eq_of_lt (by omega) (by omega)
 rw[e] at m⊢;split
 ·rw[show s+((t:Int) -s).toNat=t by omega];exact Nat.mod_eq_of_lt ht
 ·rw[show s+((t:Int) -s+n).toNat=t+n by omega,Nat.add_mod_right];exact Nat.mod_eq_of_lt ht
theorem qt {n s e h:Nat}(hh:h<(((e:Int) -s) % n).toNat):(dM n s e).getD h 0=(s+h) % n:=by
 unfold dM;rw[List.getD,List.getElem?_map,List.getElem?_range hh];rfl
theorem og(n s e:Nat):(dM n s e).length=(((e:Int) -s) % n).toNat:=by unfold dM;simp
theorem BD {n s e t:Nat}(h:0<n):pL n s e t=true↔(((t:Int) -s) % n).toNat<(((e:Int) -s) % n).toNat:=by
 have m1:=wm ((t:Int) -s) h
 have m2:=wm ((e:Int) -s) h
 unfold pL;rw[decide_eq_true_eq];omega
theorem p9(sides:List iy)(turns:List Nat)(col:Nat): ∀(R:List Nat) (at_:Nat),i9 sides turns col at_ R=(List.range R.length).all λh=> !lG (sides.getD (at_+((R.take h).filter λy=>decide (y∈turns)).length) ([],[])) col (R.getD h 0)
 | [],at_=>rfl
 |y::R,at_=>by
  unfold i9;rw[p9 sides turns col R,List.length_cons,List.range_succ_eq_map,List.all_cons,List.all_map];congr 1
  congr 1
  funext h;show _= !lG (sides.getD (at_+(((y::R).take (h+1)).filter λy=>decide (y∈turns)).length) ([],[])) col ((y::R).getD (h+1) 0)
  rw[List.take_succ_cons,List.filter_cons]
  by_cases e:y∈turns
  ·rw[if_pos e,if_pos (decide_eq_true e),List.length_cons]
   rw[show at_+1+((R.take h).filter λy=>decide (y∈turns)).length=at_+(((R.take h).filter λy=>decide (y∈turns)).length+1) by omega]
   rfl
  ·rw[if_neg e,if_neg (by rw[decide_eq_false e];decide),Nat.add_zero];rfl
theorem zy {R:List Nat}(nd:R.Nodup){T τ:Nat}(hτ:τ<R.length)(eT:R.getD τ 0=T)(h:Nat):(R.take h).count T=if τ<h then 1 else 0:=by
 have eg:R[τ]=T:=by rw[<-eT];simp[List.getD,hτ]
 have mem:T∈R.take h↔τ<h:=by
  constructor
  ·intro w
   obtain⟨i,hi⟩:=List.mem_iff_getElem?.mp w
   rw[List.getElem?_take] at hi;split at hi
   ·rename_i c
    have e2:R[τ]? =some T:=by rw[List.getElem?_eq_getElem hτ,eg]
    have:=(List.getElem?_inj (List.getElem?_eq_some_iff.mp hi).1 nd).mp (hi.trans e2.symm)
    omega
   ·cases hi
  ·intro w
   refine List.mem_iff_getElem?.mpr ⟨τ,?_⟩
   rw[List.getElem?_take,if_pos w,List.getElem?_eq_getElem hτ,eg]
 have nd':(R.take h).Nodup:=nd.sublist (List.take_sublist _ _)
 by_cases c:τ<h
 ·rw[if_pos c]
  have h1:=List.count_pos_iff.mpr (mem.mpr c)
  have h2:=List.nodup_iff_count.mp nd' T
  omega
 ·rw[if_neg c]
  exact List.count_eq_zero.mpr λw=>c (mem.mp w)
theorem yk {n a b k:Nat}(ha:a<n)(hk:k<(((b:Int) -a) % n).toNat):0<k↔(a+k) % n≠a:=by
 have m:=wm ((b:Int) -a) (show 0<n by omega)
 have hkn:k<n:=by omega
 by_cases hk0:k=0
 ·subst hk0;rw[Nat.add_zero,Nat.mod_eq_of_lt ha];simp
 ·refine⟨λ_=>?_,λ_=>by omega⟩
  by_cases hl:a+k<n
  ·rw[Nat.mod_eq_of_lt hl];omega
  ·rw[Nat.mod_eq_sub_mod (by omega),Nat.mod_eq_of_lt (by omega)];omega
theorem Ax {n:Nat}{o:List Nat}(O:Ord n o){a b:Nat}(ha:a<n)(hb:b<n)(ne:a≠b):kM o a b=true↔ ∀k,k<(((b:Int) -a) % n).toNat-> ¬(0<k/\pL n (o.getD a 0) (o.getD b 0) (o.getD ((a+k) % n) 0)=true):=by
 have h:0<n:=by omega
 rw[zr O ha hb ne];constructor
 ·intro H k hk ⟨h1,h2⟩
  have hin:(a+k) % n∈dM n a b:=by unfold dM;exact List.mem_map.mpr ⟨k,by simpa using hk,rfl⟩
  obtain⟨hc,hi⟩:=(iL h ha b _).mp hin
  have hne:=(yk ha hk).mp h1
  exact H _ hc ⟨hi,hne,h2,λz=>hne (O.inj hc ha z)⟩
 ·intro H c hc ⟨h1,h2,h3,_⟩
  have:c∈dM n a b:=(iL h ha b c).mpr ⟨hc,h1⟩
  unfold dM at this;obtain⟨k,hk,rfl⟩:=List.mem_map.mp this
  have hk:k<(((b:Int) -a) % n).toNat:=by simpa using hk
  exact H k hk ⟨(yk ha hk).mpr h2,h3⟩
def uN(n:Nat)(o:List Nat)(a b:Nat)(side:Nat->Nat->iy)(k:Nat):Bool:= !(decide (0<k)&&pL n (o.getD a 0) (o.getD b 0) (o.getD ((a+k) % n) 0))&&(List.range (((o.getD b 0:Int) -o.getD a 0) % n).toNat).all λh=> !lG (side ((a+k) % n) h) ((a+k) % n) ((o.getD a 0+h) % n)
def iO(n:Nat)(o:List Nat)(a b:Nat)(side:Nat->Nat->iy):Bool:=(List.range (((b:Int) -a) % n).toNat).all (uN n o a b side)
theorem um {n:Nat}{S:iy}{o:List Nat}(O:Ord n o){a b col:Nat}(ha:a<n)(hb:b<n)(ne:a≠b){sides:List iy}{turns:List Nat}{side:Nat->Nat->iy}(hcol:col∈dM n a b)(hS: ∀c h,c≠col->side c h=S)
 (hB: ∀h,h<(((o.getD b 0:Int) -o.getD a 0) % n).toNat->side col h=sides.getD (((dM n (o.getD a 0) (o.getD b 0)).take h).filter λy=>decide (y∈turns)).length ([],[])):
 (kM o a b&&((!((dM n a b).filter λc=>decide (c≠col)).any λc=>(dM n (o.getD a 0) (o.getD b 0)).any λy=>lG S c y)&&i9 sides turns col 0 (dM n (o.getD a 0) (o.getD b 0))))=iO n o a b side:=by
 have h:0<n:=by omega
 rw[Bool.eq_iff_iff,Bool.and_eq_true,Bool.and_eq_true,Ax O ha hb ne,p9];unfold iO uN;simp only[List.all_eq_true,List.mem_range,Bool.and_eq_true,Bool.not_eq_true',List.any_eq_false,List.mem_filter,decide_eq_true_eq,og,Nat.zero_add,Bool.and_eq_false_iff,decide_eq_false_iff_not];have mC: ∀c,c∈dM n a b↔ ∃k,k<(((b:Int) -a) % n).toNat/\(a+k) % n=c:=λc=>by
  unfold dM;rw[List.mem_map];exact⟨λ⟨k,hk,e⟩=>⟨k,by simpa using hk,e⟩,λ⟨k,hk,e⟩=>⟨k,by simpa using hk,e⟩⟩
 have mR: ∀y,y∈dM n (o.getD a 0) (o.getD b 0)↔ ∃k,k<(((o.getD b 0:Int) -o.getD a 0) % n).toNat/\(o.getD a 0+k) % n=y:=λc=>by
  unfold dM;rw[List.mem_map];exact⟨λ⟨k,hk,e⟩=>⟨k,by simpa using hk,e⟩,λ⟨k,hk,e⟩=>⟨k,by simpa using hk,e⟩⟩
 constructor
 ·rintro⟨h1,h2,h3⟩ k hk
  refine⟨?_,λi hi=>?_⟩
  ·by_cases c:0<k
   ·right
    cases e:pL n (o.getD a 0) (o.getD b 0) (o.getD ((a+k) % n) 0) with
    |false=>rfl
    |true=>exact absurd ⟨c,e⟩ (h1 k hk)
   ·exact .inl c
  ·by_cases c:(a+k) % n=col
   ·rw[c,hB i hi,<-qt hi]
    exact h3 i hi
   ·rw[hS _ _ c]
    have:=h2 ((a+k) % n) ⟨(mC _).mpr ⟨k,hk,rfl⟩,c⟩
    simp only[Bool.not_eq_true] at this;exact(List.any_eq_false.mp this _ ((mR _).mpr ⟨i,hi,rfl⟩)|>λw=>by simpa using w)
 ·intro H
  refine⟨λk hk ⟨w1,w2⟩=>?_,λc ⟨hc,hne⟩=>?_,λi hi=>?_⟩
  ·rcases(H k hk).1 with z|z
   ·exact z w1
   ·rw[z] at w2;cases w2
  ·obtain⟨k,hk,rfl⟩:=(mC c).mp hc
   simp only[Bool.not_eq_true];refine List.any_eq_false.mpr λy hy=>?_
   obtain⟨i,hi,rfl⟩:=(mR y).mp hy
   have:=(H k hk).2 i hi
   rw[hS _ _ hne] at this;rw[this];decide
  ·obtain⟨k,hk,e⟩:=(mC col).mp hcol
   have:=(H k hk).2 i hi
   rw[e,hB i hi,<-qt hi] at this;exact this
def kb(p a b:Nat):Bool:=decide (min a b<p)&&decide (p<max a b)
structure NI(n a b p q:Nat):Prop where
 ha:a<n
 hb:b<n
 hp:p<n
 hq:q<n
 ab:a≠b
 ap:a≠p
 aq:a≠q
 bp:b≠p
 bq:b≠q
 pq:p≠q
 ni:kb p a b=kb q a b
theorem nH(p a b:Nat):kb p a b=kb p b a:=by unfold kb;rw[Nat.min_comm,Nat.max_comm]
theorem NI.revL {n a b p q:Nat}(h:NI n a b p q):NI n b a p q:=⟨h.hb,h.ha,h.hp,h.hq,h.ab.symm,h.bp,h.bq,h.ap,h.aq,h.pq,by rw[nH p,nH q];exact h.ni⟩
theorem NI.revR {n a b p q:Nat}(h:NI n a b p q):NI n a b q p:=⟨h.ha,h.hb,h.hq,h.hp,h.ab,h.aq,h.ap,h.bq,h.bp,h.pq.symm,h.ni.symm⟩
def HA:Bool:=(List.range 5).all λa=>(List.range 5).all λb=>(List.range 5).all λp=>(List.range 5).all λq=> !(a !=b&&a !=p&&a !=q&&b !=p&&b !=q&&p !=q&&(kb p a b==kb q a b))||(kb a p q==kb b p q)
theorem BO:HA=true:=by decide+kernel
theorem NI.swap {n a b p q:Nat}(h:NI n a b p q)(hn:n<=5):NI n p q a b:=by
 refine⟨h.hp,h.hq,h.ha,h.hb,h.pq,h.ap.symm,h.bp.symm,h.aq.symm,h.bq.symm,h.ab,?_⟩
 have k:=List.all_eq_true.mp BO a (List.mem_range.mpr (Nat.lt_of_lt_of_le h.ha hn))
 have k:=List.all_eq_true.mp k b (List.mem_range.mpr (Nat.lt_of_lt_of_le h.hb hn))
 have k:=List.all_eq_true.mp k p (List.mem_range.mpr (Nat.lt_of_lt_of_le h.hp hn))
 have k:=List.all_eq_true.mp k q (List.mem_range.mpr (Nat.lt_of_lt_of_le h.hq hn))
 rw[bne_iff_ne.mpr h.ab,bne_iff_ne.mpr h.ap,bne_iff_ne.mpr h.aq,bne_iff_ne.mpr h.bp,bne_iff_ne.mpr h.bq,bne_iff_ne.mpr h.pq,h.ni,beq_self_eq_true] at k;exact eq_of_beq k
def Cd(n row:Nat)(own others:List Nat):List Nat->Bool
 | []=>false
 |k::r=>if(row+k) % n∈own then false else if(row+k) % n∈others then true else Cd n row own others r
def A6(n a b p q:Nat):Option Nat:=if Cd n a [a,b] [p,q] (List.range' 1 (n-1))=true then some a else if Cd n b [a,b] [p,q] (List.range' 1 (n-1))=true then some b else none
def G2(n:Nat):Bool:=(List.range n).all λa=>(List.range n).all λb=>(List.range n).all λp=>(List.range n).all λq=>
 !(a !=b&&a !=p&&a !=q&&b !=p&&b !=q&&p !=q&&kb p a b==kb q a b)||(A6 n a b p q==some (if kb p a b=true then min a b else max a b))
theorem Hc:G2 4=true:=by decide+kernel
theorem HY:G2 5=true:=by decide+kernel
theorem AB {n a b p q:Nat}(h:G2 n=true)(k:NI n a b p q):A6 n a b p q=some (if kb p a b=true then min a b else max a b):=by
 unfold G2 at h;have h:=List.all_eq_true.mp h a (List.mem_range.mpr k.ha)
 have h:=List.all_eq_true.mp h b (List.mem_range.mpr k.hb)
 have h:=List.all_eq_true.mp h p (List.mem_range.mpr k.hp)
 have h:=List.all_eq_true.mp h q (List.mem_range.mpr k.hq)
 have e:(a !=b&&a !=p&&a !=q&&b !=p&&b !=q&&p !=q&&kb p a b==kb q a b)=true:=by
  simp[k.ab,k.ap,k.aq,k.bp,k.bq,k.pq,k.ni]
 rw[e] at h;simpa using h
theorem NI.trn {n a b p q:Nat}(h:NI n a b p q)(h4:4<=n)(h5:n<=5):A6 n a b p q=some (if kb p a b=true then min a b else max a b):=by
 have e:n=4\/n=5:=by omega
 rcases e with rfl|rfl
 ·exact AB Hc h
 ·exact AB HY h
theorem Em(p a b:Nat):kb p (min a b) (max a b)=kb p a b:=by
 rcases Nat.le_total a b with h|h
 ·rw[Nat.min_eq_left h,Nat.max_eq_right h]
 ·rw[Nat.min_eq_right h,Nat.max_eq_left h];exact nH p b a
theorem GZ(a b:Nat):eA [.tup [nI a,nI b]]=some (.lst [nI (min a b),nI (max a b)]):=by
 show(gU ([a,b].map nI)).map D.lst=_;unfold gU;rw[if_pos (by simp)]
 have e:[a,b].map nI=([a,b].map λ(v:Nat)=>(v:Int)).map D.int:=by rw[List.map_map];rfl
 rw[e,iq];have:[min a b,max a b].map (λ(v:Nat)=>(v:Int))=bP xq ([a,b].map λ(v:Nat)=>(v:Int)):=by
  refine mJ CG (List.Perm.map _ ?_) ?_
  ·by_cases h:a<=b
   ·rw[Nat.min_eq_left h,Nat.max_eq_right h]
   ·rw[Nat.min_eq_right (by omega),Nat.max_eq_left (by omega)];exact List.Perm.swap _ _ _
  ·simp only[List.map_cons,List.map_nil,List.pairwise_cons,List.mem_singleton,forall_eq,List.Pairwise.nil,and_true,List.not_mem_nil,false_implies,implies_true]
   simp only[xq,decide_eq_false_iff_not];omega
 show some (D.lst ((bP xq ([a,b].map λ(v:Nat)=>(v:Int))).map D.int))=_
 rw[<-this,List.map_map];rfl
theorem CS(p a b:Nat):bU [nI p,nI a,nI b]=some (.bl (kb p a b)):=by
 apply bZ (kd:=.s) (n:=3) (t:=gE)
 unfold gE;have mn:ao ka (aa (ag 1) (aa (ag 2) (ai))) (ij 3 [nI p,nI a,nI b])=some (nI (min a b)):=by
  refine(bS (ds:=[nI a,nI b]) rfl).trans ?_
  show some (D.int _)=some (D.int _);congr 2
  split<;>omega
 have mx:ao r6 (aa (ag 1) (aa (ag 2) (ai))) (ij 3 [nI p,nI a,nI b])=some (nI (max a b)):=by
  refine(bS (ds:=[nI a,nI b]) rfl).trans ?_
  show some (D.int _)=some (D.int _);congr 2
  split<;>omega
 refine bF ((u1 (F:=ya) (G:=ya) (g:=ag 0) (y:=nI p) mn rfl (lg _ _) mx (lg _ _)).trans ?_)
 have e:(decide (((min a b:Nat):Int)<(p:Int))&&decide ((p:Int)<((max a b:Nat):Int)))=kb p a b:=by
  unfold kb;rw[Bool.eq_iff_iff];simp only[Bool.and_eq_true,decide_eq_true_eq];omega
 rw[e]
section
variable {n:Nat}{r x:List Nat}{c:Nat}(hr:r.length=n)(hx:x.length=n)(hc:c+1<n)
include hr hx hc
theorem A5(h:NI n (r.getD c 0) (x.getD c 0) (r.getD (c+1) 0) (x.getD (c+1) 0)):jX [fM r x,nI c]=some (nI (if kb (r.getD (c+1) 0) (r.getD c 0) (x.getD c 0)=true then min (r.getD c 0) (x.getD c 0) else max (r.getD c 0) (x.getD c 0))):=by
 refine jx (kd:=.s) (n:=6) (t:=lK) ?_
 unfold lK
 let a:=r.getD c 0
 let b:=x.getD c 0
 let ρ:aF:=[.v (fM r x),.v (nI c),.v (ax r),.v (ax x),.v (nI (min a b)),.v (nI (max a b))]
 have q1:cv (gT 2 (eV (gN 2) (eV (gN 3) (jI)))) (pu (ag 0)) (ij 6 [fM r x,nI c])=.nx [.v (fM r x),.v (nI c),.v (ax r),.v (ax x),.no,.no]:=fX (ge rfl) rfl
 have ia: ∀s4 s5,ak aP (ag 2) (ag 1) [.v (fM r x),.v (nI c),.v (ax r),.v (ax x),s4,s5]=some (nI a):=λ_ _=>(au (x:=ax r) (y:=nI c) rfl rfl).trans (cK (by omega))
 have ib: ∀s4 s5,ak aP (ag 3) (ag 1) [.v (fM r x),.v (nI c),.v (ax r),.v (ax x),s4,s5]=some (nI b):=λ_ _=>(au (x:=ax x) (y:=nI c) rfl rfl).trans (cK (by omega))
 have q2:cv (gL 2 (eV (gN 4) (eV (gN 5) (jI)))) (pu (ao eA (aa (cw (aa (ak aP (ag 2) (ag 1)) (aa (ak aP (ag 3) (ag 1)) (ai)))) (ai)))) [.v (fM r x),.v (nI c),.v (ax r),.v (ax x),.no,.no]=.nx ρ:=
  fX (ge ((bS (ds:=[.tup [nI a,nI b]]) (av (cG (av (ia _ _) (av (ib _ _) rfl)) (by simp)) rfl)).trans (GZ a b))) rfl
 have ip:ak aP (ag 2) (ak aO (ag 1) (aA (.int 1))) ρ=some (nI (r.getD (c+1) 0)):=(au (x:=ax r) rfl ((au (x:=nI c) (y:=.int 1) rfl rfl).trans (mV c))).trans (cK (by omega))
 have tt:dD (ao (nF 3 bU) (aa (ak aP (ag 2) (ak aO (ag 1) (aA (.int 1)))) (aa (ag 4) (aa (ag 5) (ai))))) ρ=some (kb (r.getD (c+1) 0) a b):=by
  refine fW ((bT (ds:=[nI (r.getD (c+1) 0),nI (min a b),nI (max a b)]) (av ip rfl) rfl).trans ((CS _ _ _).trans ?_))
  rw[Em]
 refine⟨ρ,(ay q1).trans ((ay q2).trans (bF ?_))⟩
 show C2 _ _ _ ρ=some (nI (if kb (r.getD (c+1) 0) a b=true then min a b else max a b))
 cases e:kb (r.getD (c+1) 0) a b with
 |true=>rw[e] at tt;exact(GH tt).trans rfl
 |false=>rw[e] at tt;exact(Gr tt).trans rfl
theorem zK(h:NI n (r.getD c 0) (x.getD c 0) (r.getD (c+1) 0) (x.getD (c+1) 0))(h4:4<=n)(h5:n<=5):fA [fM r x,nI c]=some (nI (if kb (r.getD (c+1) 0) (r.getD c 0) (x.getD c 0)=true then min (r.getD c 0) (x.getD c 0) else max (r.getD c 0) (x.getD c 0))):=by
 have tn:=h.trn h4 h5
 generalize hT:(if kb (r.getD (c+1) 0) (r.getD c 0) (x.getD c 0)=true then min (r.getD c 0) (x.getD c 0) else max (r.getD c 0) (x.getD c 0))=T at tn⊢
 refine jx (kd:=.s) (n:=8) (t:=kw) ?_
 unfold kw
 generalize ha:r.getD c 0=a at tn
 generalize hb:x.getD c 0=b at tn
 generalize hp:r.getD (c+1) 0=p at tn
 generalize hq:x.getD (c+1) 0=q at tn
 let st:Sl->Sl->Sl->aF:=λs5 s6 s7=>[.v (fM r x),.v (nI c),.v (nI n),.v (.lst ([a,b].map nI)),.v (.lst ([p,q].map nI)),s5,s6,s7]
 have ir: ∀s2 s3 s4 s5 s6 s7,ak aP (ak aP (ag 0) (aA (.int 0))) (ag 1) [.v (fM r x),.v (nI c),s2,s3,s4,s5,s6,s7]=some (nI a):=λ_ _ _ _ _ _=>(au ((au (x:=fM r x) (y:=.int 0) rfl rfl).trans rfl) (y:=nI c) rfl).trans ((cK (by omega)).trans (by rw[ha]))
 have ix: ∀s2 s3 s4 s5 s6 s7,ak aP (ak aP (ag 0) (aA (.int 1))) (ag 1) [.v (fM r x),.v (nI c),s2,s3,s4,s5,s6,s7]=some (nI b):=λ_ _ _ _ _ _=>(au ((au (x:=fM r x) (y:=.int 1) rfl rfl).trans rfl) (y:=nI c) rfl).trans ((cK (by omega)).trans (by rw[hb]))
 have ir1: ∀s2 s3 s4 s5 s6 s7,ak aP (ak aP (ag 0) (aA (.int 0))) (ak aO (ag 1) (aA (.int 1))) [.v (fM r x),.v (nI c),s2,s3,s4,s5,s6,s7]=some (nI p):=λ_ _ _ _ _ _=>(au ((au (x:=fM r x) (y:=.int 0) rfl rfl).trans rfl) ((au (x:=nI c) (y:=.int 1) rfl rfl).trans (mV c))).trans ((cK (by omega)).trans (by rw[hp]))
 have ix1: ∀s2 s3 s4 s5 s6 s7,ak aP (ak aP (ag 0) (aA (.int 1))) (ak aO (ag 1) (aA (.int 1))) [.v (fM r x),.v (nI c),s2,s3,s4,s5,s6,s7]=some (nI q):=λ_ _ _ _ _ _=>(au ((au (x:=fM r x) (y:=.int 1) rfl rfl).trans rfl) ((au (x:=nI c) (y:=.int 1) rfl rfl).trans (mV c))).trans ((cK (by omega)).trans (by rw[hq]))
 have q1:aT 2 (ao cW (aa (ak aP (ag 0) (aA (.int 0))) (ai))) (ij 8 [fM r x,nI c])=.nx [.v (fM r x),.v (nI c),.v (nI n),.no,.no,.no,.no,.no]:=(bc ((gy r _ _ ((au (x:=fM r x) (y:=.int 0) rfl rfl).trans rfl)).trans (by rw[hr]))).trans rfl
 have q2:aT 3 (cg (aa (ak aP (ak aP (ag 0) (aA (.int 0))) (ag 1)) (aa (ak aP (ak aP (ag 0) (aA (.int 1))) (ag 1)) (ai)))) [.v (fM r x),.v (nI c),.v (nI n),.no,.no,.no,.no,.no]=.nx [.v (fM r x),.v (nI c),.v (nI n),.v (.lst ([a,b].map nI)),.no,.no,.no,.no]:=(bc (dJ (av (ir _ _ _ _ _ _) (av (ix _ _ _ _ _ _) rfl)) (by simp))).trans rfl
 have q3:aT 4 (cg (aa (ak aP (ak aP (ag 0) (aA (.int 0))) (ak aO (ag 1) (aA (.int 1)))) (aa (ak aP (ak aP (ag 0) (aA (.int 1))) (ak aO (ag 1) (aA (.int 1)))) (ai)))) [.v (fM r x),.v (nI c),.v (nI n),.v (.lst ([a,b].map nI)),.no,.no,.no,.no]=.nx (st .no .no .no):=(bc (dJ (av (ir1 _ _ _ _ _ _) (av (ix1 _ _ _ _ _ _) rfl)) (by simp))).trans rfl
 have inner: ∀(row:Nat) (l:List Nat) (s6 s7:Sl),∃s6' s7',cD (gN 6) (aB (aT 7 (ak bo (ak aO (ag 5) (ag 6)) (ag 2)))
  (aB (cP (aX (ak (gd false) (ag 7) (ag 3))) (uk) (skip))
  (cP (aX (ak (gd false) (ag 7) (ag 4))) (ba (ag 5)) (skip)))) (l.map nI) (st (.v (nI row)) s6 s7)=if Cd n row [a,b] [p,q] l=true then .rt (nI row) (st (.v (nI row)) s6' s7') else .nx (st (.v (nI row)) s6' s7'):=by
  intro row l
  induction l with
  |nil=>intro s6 s7;exact⟨s6,s7,rfl⟩
  |cons k l ih=>
   intro s6 s7
   let at':=(row+k) % n
   have w1:aT 7 (ak bo (ak aO (ag 5) (ag 6)) (ag 2)) (st (.v (nI row)) (.v (nI k)) s7)=.nx (st (.v (nI row)) (.v (nI k)) (.v (nI at'))):=(bc ((au ((au (x:=nI row) (y:=nI k) rfl rfl).trans (Ai _ _)) (y:=nI n) rfl).trans (AG (by omega)))).trans rfl
   have t1:aX (ak (gd false) (ag 7) (ag 3)) (st (.v (nI row)) (.v (nI k)) (.v (nI at')))=some (decide (at'∈[a,b])):=bf ((au (x:=nI at') (y:=.lst ([a,b].map nI)) rfl rfl).trans (FN _ _))
   have t2:aX (ak (gd false) (ag 7) (ag 4)) (st (.v (nI row)) (.v (nI k)) (.v (nI at')))=some (decide (at'∈[p,q])):=bf ((au (x:=nI at') (y:=.lst ([p,q].map nI)) rfl rfl).trans (FN _ _))
   have g1:gN 6 (nI k) (st (.v (nI row)) s6 s7)=some (st (.v (nI row)) (.v (nI k)) s7):=rfl
   show∃s6' s7',cD _ _ (nI k::l.map nI) _=_;unfold cD Cd;rw[g1];dsimp only;rw[ay w1]
   by_cases e1:at'∈[a,b]
   ·rw[decide_eq_true e1] at t1
    refine⟨.v (nI k),.v (nI at'),?_⟩
    have:aB (cP (aX (ak (gd false) (ag 7) (ag 3))) (uk) (skip)) (cP (aX (ak (gd false) (ag 7) (ag 4))) (ba (ag 5)) (skip)) (st (.v (nI row)) (.v (nI k)) (.v (nI at')))=.bk (st (.v (nI row)) (.v (nI k)) (.v (nI at'))):=by
     unfold aB;rw[dN t1];rfl
    rw[this,if_pos e1];rfl
   ·rw[decide_eq_false e1] at t1
    have w2:cP (aX (ak (gd false) (ag 7) (ag 3))) (uk) (skip) (st (.v (nI row)) (.v (nI k)) (.v (nI at')))=.nx (st (.v (nI row)) (.v (nI k)) (.v (nI at'))):=(j3 t1).trans rfl
    rw[ay w2,if_neg e1]
    by_cases e2:at'∈[p,q]
    ·rw[decide_eq_true e2] at t2
     refine⟨.v (nI k),.v (nI at'),?_⟩
     rw[dN t2,if_pos e2,if_pos rfl];rfl
    ·rw[decide_eq_false e2] at t2
     rw[j3 t2,if_neg e2];exact ih (.v (nI k)) (.v (nI at'))
 have rg: ∀s5 s6 s7,bL (oD (aa (aA (.int 1)) (aa (ag 2) (ai)))) (st s5 s6 s7)=some ((List.range' 1 (n-1)).map nI,st s5 s6 s7):=λs5 s6 s7=>by
  refine br ?_
  unfold oD;rw[show(aa (aA (.int 1)) (aa (ag 2) (ai))) (st s5 s6 s7)=some [.int 1,nI n] from rfl];show(if(1:Int).natAbs<4000000000/\((n:Nat):Int).natAbs<4000000000 then some (o6 1 ((n:Int) -1).toNat) else none)=_
  rw[if_pos ⟨by decide,by omega⟩]
  unfold o6;rw[show((n:Int) -1).toNat=n-1 by omega,List.range'_eq_map_range,List.map_map]
  congr 1
 have outer: ∀(row:Nat) (s5 s6 s7:Sl),∃s6' s7',dI (bL (oD (aa (aA (.int 1)) (aa (ag 2) (ai))))) (gN 6) (aB (aT 7 (ak bo (ak aO (ag 5) (ag 6)) (ag 2)))
  (aB (cP (aX (ak (gd false) (ag 7) (ag 3))) (uk) (skip))
  (cP (aX (ak (gd false) (ag 7) (ag 4))) (ba (ag 5)) (skip)))) (st (.v (nI row)) s6 s7)=if Cd n row [a,b] [p,q] (List.range' 1 (n-1))=true then .rt (nI row) (st (.v (nI row)) s6' s7') else .nx (st (.v (nI row)) s6' s7'):=λrow s5 s6 s7=>by
  obtain⟨s6',s7',e⟩:=inner row (List.range' 1 (n-1)) s6 s7
  exact⟨s6',s7',(cH (rg _ _ _)).trans e⟩
 obtain⟨u6,u7,o1⟩:=outer a .no .no .no
 obtain⟨v6,v7,o2⟩:=outer b .no u6 u7
 unfold A6 at tn;have fin: ∃ρ,dI (bL (df (ag 3))) (gN 5) (dI (bL (oD (aa (aA (.int 1)) (aa (ag 2) (ai))))) (gN 6) (aB (aT 7 (ak bo (ak aO (ag 5) (ag 6)) (ag 2)))
  (aB (cP (aX (ak (gd false) (ag 7) (ag 3))) (uk) (skip))
  (cP (aX (ak (gd false) (ag 7) (ag 4))) (ba (ag 5)) (skip))))) (st .no .no .no)=.rt (nI T) ρ:=by
  refine⟨if Cd n a [a,b] [p,q] (List.range' 1 (n-1))=true then st (.v (nI a)) u6 u7 else st (.v (nI b)) v6 v7,(cH (ds:=[nI a,nI b]) (br (fY rfl))).trans ?_⟩
  have g1:gN 5 (nI a) (st .no .no .no)=some (st (.v (nI a)) .no .no):=rfl
  have g2:gN 5 (nI b) (st (.v (nI a)) u6 u7)=some (st (.v (nI b)) u6 u7):=rfl
  unfold cD;rw[g1];dsimp only;rw[o1]
  by_cases e1:Cd n a [a,b] [p,q] (List.range' 1 (n-1))=true
  ·rw[if_pos e1] at tn⊢
   injection tn with tn
   subst tn;rw[if_pos e1]
  ·rw[if_neg e1] at tn⊢
   rw[if_neg e1];dsimp only;unfold cD;rw[g2];dsimp only;rw[o2]
   by_cases e2:Cd n b [a,b] [p,q] (List.range' 1 (n-1))=true
   ·rw[if_pos e2] at tn⊢
    injection tn with tn
    subst tn;rfl
   ·rw[if_neg e2] at tn;cases tn
 obtain⟨ρ,fin⟩:=fin
 exact⟨ρ,(ay q1).trans ((ay q2).trans ((ay q3).trans (gX fin)))⟩
end
theorem GF {n:Nat}{l:List Nat}(hl:l.length=4)(nd:l.Nodup)(lt: ∀v∈l,v<n): ∃f0 f1 f2 f3:Nat,eA [.lst (l.map nI)]=some (.lst ([f0,f1,f2,f3].map nI))/\f0<f1/\f1<f2/\f2<f3/\f3<n:=by
 have hP:(bP xq (l.map λ(v:Nat)=>(v:Int))).Perm (l.map λ(v:Nat)=>(v:Int)):=dq _
 have pw:=jS CG (l.map λ(v:Nat)=>(v:Int))
 have sf:eA [.lst (l.map nI)]=some (.lst ((bP xq (l.map λ(v:Nat)=>(v:Int))).map D.int)):=by
  show(gU (l.map nI)).map D.lst=_;unfold gU;rw[if_pos (by rw[List.length_map];omega)]
  have e:l.map nI=(l.map λ(v:Nat)=>(v:Int)).map D.int:=by rw[List.map_map];rfl
  rw[e,iq];rfl
 generalize bP xq (l.map λ(v:Nat)=>(v:Int))=L at hP pw sf
 have eL:L=(L.map Int.toNat).map λ(v:Nat)=>(v:Int):=by
  rw[List.map_map]
  conv=>lhs;rw[<-List.map_id L]
  refine List.map_congr_left λz hz=>?_
  obtain⟨v,_,rfl⟩:=List.mem_map.mp (hP.mem_iff.mp hz)
  simp
 have P':(L.map Int.toNat).Perm l:=by
  have:=hP.map Int.toNat
  rw[List.map_map] at this;have e:l.map (Int.toNat∘λ(v:Nat)=>(v:Int))=l:=by
   conv=>rhs;rw[<-List.map_id l]
   exact List.map_congr_left λv _=>by simp
  rw[e] at this;exact this
 generalize L.map Int.toNat=M at eL P'
 subst eL;have len:M.length=4:=P'.length_eq.trans hl
 have nd':M.Nodup:=P'.nodup_iff.mpr nd
 have lt': ∀v∈M,v<n:=λv hv=>lt v (P'.mem_iff.mp hv)
 rw[List.pairwise_map] at pw
 match M,len with
 | [f0,f1,f2,f3],_=>
   refine⟨f0,f1,f2,f3,by rw[sf,List.map_map];rfl,?_,?_,?_,lt' f3 (by simp)⟩
   all_goals
    simp only[List.pairwise_cons,List.mem_cons,List.not_mem_nil,or_false,forall_eq_or_imp,forall_eq,List.Pairwise.nil,and_true,xq,decide_eq_false_iff_not,List.nodup_cons,not_or] at pw nd';omega
theorem r8(l:List Nat)(a:Nat):iB (l.map nI) (some (a:Int)) none=(l.drop a).map nI:=by
 unfold iB;rw[HT.sIx_none,HT.sIx_nat,List.length_map]
 by_cases h:a<=l.length
 ·rw[Nat.min_eq_left h,List.take_of_length_le (by simp),List.map_drop]
 ·rw[Nat.min_eq_right (by omega),Nat.sub_self,List.take_zero,List.drop_eq_nil_of_le (by omega)];rfl
theorem u2(l:List Nat)(a:Nat):iB (l.map nI) none (some (a:Int))=(l.take a).map nI:=by
 unfold iB;rw[HT.sIx_none,HT.sIx_nat,List.length_map,List.drop_zero,Nat.sub_zero,List.map_take]
 by_cases h:a<=l.length
 ·rw[Nat.min_eq_left h]
 ·rw[Nat.min_eq_right (by omega),List.take_of_length_le (by simp),List.take_of_length_le (by simp;omega)]
theorem zN(l m:List Nat)(h:l.length+m.length<=900):gA (.lst (l.map nI)) (.lst (m.map nI))=some (.lst ((l++m).map nI)):=by
 have:gA (.lst (l.map nI)) (.lst (m.map nI))=some (.lst (l.map nI++m.map nI)):=if_pos (by rw[List.length_map,List.length_map];exact Nat.le_trans h (by decide))
 rw[this,List.map_append]
theorem kP {f:FE}{ρ:aF}{l:List Nat}{g:FE}{a:Nat}(h1:f ρ=some (.lst (l.map nI)))(h2:g ρ=some (nI a)):fu f (gG g) jg ρ=some (.lst ((l.drop a).map nI)):=by
 unfold fu gG jg;rw[h1,Option.bind_some];dsimp only;rw[h2];show some (D.lst (iB (l.map nI) (some (a:Int)) none))=_;rw[r8]
theorem qJ {f:FE}{ρ:aF}{l:List Nat}{g:FE}{a:Nat}(h1:f ρ=some (.lst (l.map nI)))(h2:g ρ=some (nI a)):fu f jg (gG g) ρ=some (.lst ((l.take a).map nI)):=by
 unfold fu gG jg;rw[h1,Option.bind_some];dsimp only;rw[h2];show some (D.lst (iB (l.map nI) none (some (a:Int))))=_;rw[u2]
abbrev eP(bg:List D)(n:Nat)(t:List Sl):aF:=.arg bg:: .v (nI n)::t
theorem B7 {N:Nat}{a b:Int}(B:Bag N a b)(hN:N<=1000)(n c:Nat): ∃(w0 w1 w2 w3:Int) (a' b':Int),(0<=w0/\w0<2)/\(0<=w1/\w1<2)/\(0<=w2/\w2<2)/\(0<=w3/\w3<2)/\Bag (N+4) a' b'/\
 fc 1 (bL (cS (aa (aA (.int 4)) (ai)))) (gN 14) (ft) (aN 0 1 aS (bL (aa (aA (.int 2)) (ai)))) (eP (aG a b) n [.v (nI c),.no,.no,.no,.no,.no,.no,.no,.no,.no,.no,.no])=some (.lst [.int w0,.int w1,.int w2,.int w3],eP (aG a' b') n [.v (nI c),.no,.no,.no,.no,.no,.no,.no,.no,.no,.no,.no]):=by
 have step: ∀ {N:Nat} {a b:Int} (B:Bag N a b) (hN:N<=2000) (k:Nat) (l:List D),∃(w a' b':Int),(0<=w/\w<2)/\Bag (N+1) a' b'/\
  eK (gN 14) (ft) (aN 0 1 aS (bL (aa (aA (.int 2)) (ai)))) (nI k::l) (eP (aG a b) n [.v (nI c),.no,.no,.no,.no,.no,.no,.no,.no,.no,.no,.no,.no])=(eK (gN 14) (ft) (aN 0 1 aS (bL (aa (aA (.int 2)) (ai)))) l (eP (aG a' b') n [.v (nI c),.no,.no,.no,.no,.no,.no,.no,.no,.no,.no,.no,.no])).map λz=>(D.int w::z.1,z.2):=by
  intro N a b B hN k l;obtain⟨d,a1,b1,e1,B1,d0,d1⟩:=kX (m:=2) B (by omega) (by decide) (by decide)
  refine⟨d,a1,b1,⟨d0,d1⟩,B1,?_⟩
  have hf:aN 0 1 aS (bL (aa (aA (.int 2)) (ai))) (eP (aG a b) n [.v (nI c),.no,.no,.no,.no,.no,.no,.no,.no,.no,.no,.no,.v (nI k)])=some (.int d,eP (aG a1 b1) n [.v (nI c),.no,.no,.no,.no,.no,.no,.no,.no,.no,.no,.no,.v (nI k)]):=
   cM (i:=0) (n:=1) (b0:=aG a b) (ds:=[.int 2]) rfl (br rfl) rfl rfl e1
  conv=>lhs;unfold eK
  rw[show gN 14 (nI k) (eP (aG a b) n [.v (nI c),.no,.no,.no,.no,.no,.no,.no,.no,.no,.no,.no,.no])=some (eP (aG a b) n [.v (nI c),.no,.no,.no,.no,.no,.no,.no,.no,.no,.no,.no,.v (nI k)]) from rfl,Option.bind_some,
   show ft (eP (aG a b) n [.v (nI c),.no,.no,.no,.no,.no,.no,.no,.no,.no,.no,.no,.v (nI k)])=some true from rfl,Option.bind_some,if_pos rfl,hf,Option.bind_some,if_pos (by rfl)]
  rw[show j0 (eP (aG a b) n [.v (nI c),.no,.no,.no,.no,.no,.no,.no,.no,.no,.no,.no,.no]) (eP (aG a1 b1) n [.v (nI c),.no,.no,.no,.no,.no,.no,.no,.no,.no,.no,.no,.v (nI k)])=some (eP (aG a1 b1) n [.v (nI c),.no,.no,.no,.no,.no,.no,.no,.no,.no,.no,.no,.no]) from rfl,Option.bind_some]
 obtain⟨w0,a0,b0,h0,B0,e0⟩:=step B (by omega) 0 [nI 1,nI 2,nI 3]
 obtain⟨w1,a1,b1,h1,B1,e1⟩:=step B0 (by omega) 1 [nI 2,nI 3]
 obtain⟨w2,a2,b2,h2,B2,e2⟩:=step B1 (by omega) 2 [nI 3]
 obtain⟨w3,a3,b3,h3,B3,e3⟩:=step B2 (by omega) 3 []
 refine⟨w0,w1,w2,w3,a3,b3,h0,h1,h2,h3,by rw[show N+4=N+1+1+1+1 by omega];exact B3,?_⟩
 unfold fc;rw[br (fS (n:=4) (av rfl rfl) (by omega)),Option.bind_some]
 dsimp only;rw[if_pos (by simp;decide)]
 have:eK (gN 14) (ft) (aN 0 1 aS (bL (aa (aA (.int 2)) (ai)))) ((List.range 4).map nI) (eP (aG a b) n [.v (nI c),.no,.no,.no,.no,.no,.no,.no,.no,.no,.no,.no]++List.replicate 1 .no)=some ([.int w0,.int w1,.int w2,.int w3],eP (aG a3 b3) n [.v (nI c),.no,.no,.no,.no,.no,.no,.no,.no,.no,.no,.no,.no]):=by
  show eK (gN 14) (ft) (aN 0 1 aS (bL (aa (aA (.int 2)) (ai)))) [nI 0,nI 1,nI 2,nI 3] (eP (aG a b) n [.v (nI c),.no,.no,.no,.no,.no,.no,.no,.no,.no,.no,.no,.no])=_;rw[e0,e1,e2,e3];rfl
 rw[this,Option.bind_some];rfl
theorem nG {ρ:aF}{p:FT}{q:Nat->Bool}(hg: ∀v,∃ρ1,gN 14 (nI v) ρ=some ρ1/\p ρ1=some (q v)/\ag 14 ρ1=some (nI v)/\j0 ρ ρ1=some ρ): ∀l:List Nat,eK (gN 14) p (pu (ag 14)) (l.map nI) ρ=some ((l.filter q).map nI,ρ)
 | []=>rfl
 |v::l=>by
  obtain⟨ρ1,h1,h2,h3,h4⟩:=hg v
  have ih:=nG hg l
  rw[List.map_cons];unfold eK;rw[h1,Option.bind_some,h2,Option.bind_some];cases e:q v with
  |false=>rw[if_neg (by decide),ih,List.filter_cons_of_neg (by rw[e];decide)]
  |true=>
   rw[if_pos rfl,show pu (ag 14) ρ1=some (nI v,ρ1) from ge h3,Option.bind_some,if_pos (by rfl),h4,Option.bind_some,ih,List.filter_cons_of_pos e]
   rfl
theorem Ds(L:List Nat)(c:Nat):gd true (nI c) (.tup (L.map nI))=some (.bl (!decide (c∈L))):=by
 unfold gd kf;dsimp only;rw[lH,if_pos (by omega),zp]
 rfl
def D7(n:Nat):Bool:=(List.range n).all λa=>(List.range n).all λb=>a==b||((List.range n).filter λv=> !decide (v∈[a,b])).length==n-2
theorem Gk:D7 4=true:=by decide+kernel
theorem FP:D7 5=true:=by decide+kernel
theorem Bu {n:Nat}{o:List Nat}(O:Ord n o)(h4:4<=n)(h5:n<=5){a b:Nat}(ha:a<n)(hb:b<n)(ne:a≠b):(o.filter λv=> !decide (v∈[a,b])).length=n-2:=by
 rw[(O.perm.filter _).length_eq];have h:D7 n=true:=by
  have e:n=4\/n=5:=by omega
  rcases e with rfl|rfl
  ·exact Gk
  ·exact FP
 have h:=List.all_eq_true.mp h a (List.mem_range.mpr ha)
 have h:=List.all_eq_true.mp h b (List.mem_range.mpr hb)
 simpa [ne] using h
theorem Ec {f:FE}{ρ:aF}{ds:List D}(h:f ρ=some (.lst ds)):o5 f (gG (o4 (aA (.int 1)))) ρ=some (.lst ds.reverse):=by
 unfold o5;rw[h,Option.bind_some];dsimp only;rw[show gG (o4 (aA (.int 1))) ρ=some (some (-1)) from rfl,Option.bind_some,if_pos rfl]
theorem uy {f:FE}{ρ:aF}{w:Int}(h:f ρ=some (.int w)):aX (ak iE f (aA (.int 1))) ρ=some (decide (w=1)):=bf ((au h (y:=.int 1) rfl).trans (by rw[mH (by rw[gk];omega),jQ]))
section
variable {n:Nat}(h4:4<=n)(h5:n<=5)
include h4 h5
theorem vp {N:Nat}{a b:Int}(B:Bag N a b)(hN:N<=1000)(t2 t3 t4 t5 s8:Sl)(L0 L1 R0 R1:Nat)(i:Int)(u v:Nat)(hs: ∀s∈[t2,t3,t4,t5,s8],vj s s=some s)
 (hu': ∀bg t,ak aP (ag 6) (aA (.int i)) (eP bg n (t2::t3::t4::t5:: .v (.lst ([L0,L1].map nI)):: .v (.lst ([R0,R1].map nI))::t))=some (nI u))
 (hv': ∀bg t,ak aP (ag 7) (aA (.int i)) (eP bg n (t2::t3::t4::t5:: .v (.lst ([L0,L1].map nI)):: .v (.lst ([R0,R1].map nI))::t))=some (nI v)) (hul:u<n) (hvl:v<n) (ne:u≠v):
 ∃(l:List Nat) (a' b':Int),l.length=n-2/\Bag (N+n) a' b'/\fc 1 (u4 (aN 0 1 bh (bL (aa (ag 1) (ai))))) (gN 14) (aX (ak (gd true) (ag 14) (cw (aa (ak aP (ag 6) (aA (.int i))) (aa (ak aP (ag 7) (aA (.int i))) (ai)))))) (pu (ag 14))
  (eP (aG a b) n [t2,t3,t4,t5,.v (.lst ([L0,L1].map nI)),.v (.lst ([R0,R1].map nI)),s8,.no,.no,.no,.no,.no])=some (.lst (l.map nI),eP (aG a' b') n [t2,t3,t4,t5,.v (.lst ([L0,L1].map nI)),.v (.lst ([R0,R1].map nI)),s8,.no,.no,.no,.no,.no]):=by
 obtain⟨o,a',b',eo,O,B'⟩:=nW B (n:=n) (by omega) (by omega)
 refine⟨o.filter λz=> !decide (z∈[u,v]),a',b',Bu O h4 h5 hul hvl ne,B',?_⟩
 have m2:=hs t2 (by simp)
 have m3:=hs t3 (by simp)
 have m4:=hs t4 (by simp)
 have m5:=hs t5 (by simp)
 have m8:=hs s8 (by simp)
 have gi:u4 (aN 0 1 bh (bL (aa (ag 1) (ai)))) (eP (aG a b) n [t2,t3,t4,t5,.v (.lst ([L0,L1].map nI)),.v (.lst ([R0,R1].map nI)),s8,.no,.no,.no,.no,.no])=some (o.map nI,eP (aG a' b') n [t2,t3,t4,t5,.v (.lst ([L0,L1].map nI)),.v (.lst ([R0,R1].map nI)),s8,.no,.no,.no,.no,.no]):=by
  unfold u4;rw[show aN 0 1 bh (bL (aa (ag 1) (ai))) (eP (aG a b) n [t2,t3,t4,t5,.v (.lst ([L0,L1].map nI)),.v (.lst ([R0,R1].map nI)),s8,.no,.no,.no,.no,.no])=some (.lst (o.map nI),eP (aG a' b') n [t2,t3,t4,t5,.v (.lst ([L0,L1].map nI)),.v (.lst ([R0,R1].map nI)),s8,.no,.no,.no,.no,.no]) from
   cM (i:=0) (n:=1) (b0:=aG a b) (ds:=[nI n]) rfl (br rfl) rfl rfl eo]
 have mx: ∀(sx:Sl),j0 (eP (aG a' b') n [t2,t3,t4,t5,.v (.lst ([L0,L1].map nI)),.v (.lst ([R0,R1].map nI)),s8,.no,.no,.no,.no,.no,.no]) (eP (aG a' b') n [t2,t3,t4,t5,.v (.lst ([L0,L1].map nI)),.v (.lst ([R0,R1].map nI)),s8,.no,.no,.no,.no,.no,sx])=some (eP (aG a' b') n [t2,t3,t4,t5,.v (.lst ([L0,L1].map nI)),.v (.lst ([R0,R1].map nI)),s8,.no,.no,.no,.no,.no,.no]):=λsx=>by
  simp only[j0,m2,m3,m4,m5,m8,Option.bind_some];rfl
 have mx0:j0 (eP (aG a' b') n [t2,t3,t4,t5,.v (.lst ([L0,L1].map nI)),.v (.lst ([R0,R1].map nI)),s8,.no,.no,.no,.no,.no]) (eP (aG a' b') n [t2,t3,t4,t5,.v (.lst ([L0,L1].map nI)),.v (.lst ([R0,R1].map nI)),s8,.no,.no,.no,.no,.no,.no])=some (eP (aG a' b') n [t2,t3,t4,t5,.v (.lst ([L0,L1].map nI)),.v (.lst ([R0,R1].map nI)),s8,.no,.no,.no,.no,.no]):=by
  simp only[j0,m2,m3,m4,m5,m8,Option.bind_some];rfl
 have lp:=nG (ρ:=eP (aG a' b') n [t2,t3,t4,t5,.v (.lst ([L0,L1].map nI)),.v (.lst ([R0,R1].map nI)),s8,.no,.no,.no,.no,.no,.no]) (p:=aX (ak (gd true) (ag 14) (cw (aa (ak aP (ag 6) (aA (.int i))) (aa (ak aP (ag 7) (aA (.int i))) (ai)))))) (q:=λz=> !decide (z∈[u,v])) (λz=>⟨eP (aG a' b') n [t2,t3,t4,t5,.v (.lst ([L0,L1].map nI)),.v (.lst ([R0,R1].map nI)),s8,.no,.no,.no,.no,.no,.v (nI z)],rfl,
  bf ((au (x:=nI z) (y:=.tup ([u,v].map nI)) rfl (cG (av (hu' _ _) (av (hv' _ _) rfl)) (by simp))).trans (Ds _ _)),rfl,mx _⟩) o
 unfold fc;rw[gi,Option.bind_some];dsimp only;rw[if_pos (by rw[List.length_map,O.len];exact Nat.le_trans (show n<=900 by omega) (by decide))]
 rw[show eP (aG a' b') n [t2,t3,t4,t5,.v (.lst ([L0,L1].map nI)),.v (.lst ([R0,R1].map nI)),s8,.no,.no,.no,.no,.no]++List.replicate 1 Sl.no=eP (aG a' b') n [t2,t3,t4,t5,.v (.lst ([L0,L1].map nI)),.v (.lst ([R0,R1].map nI)),s8,.no,.no,.no,.no,.no,.no] from rfl,lp,Option.bind_some];dsimp only;rw[mx0];rfl
theorem tS(bg:List D)(t2 t3 t4 t5 t6 t7:Sl)(l:List Nat)(hl:l.length=n-2): ∀(k:Nat) (c:Nat) (x:List Nat) (s10 s11:Sl),c+k=n-2->x.length=n-2-> ∃(x':List Nat) (s10' s11':Sl),x'.length=n-2/\cD (gN 10) (aB (aT 11 (ak bo (ak aO (ag 10) (aA (.int 1))) (ak fz (ag 1) (aA (.int 2)))))
 (cP (aX (ak iE (ak aP (cV 9) (ag 10)) (ak aP (ag 8) (ag 10)))) (cv (gT 2 (eV (bW 9 (ag 10)) (eV (bW 9 (ag 11)) (jI)))) (pu (cw (aa (ak aP (cV 9) (ag 11)) (aa (ak aP (cV 9) (ag 10)) (ai)))))) (skip))) ((List.range' c k).map nI)
 (eP bg n [t2,t3,t4,t5,t6,t7,.v (.lst (l.map nI)),.own (x.map nI),s10,s11,.no,.no])=.nx (eP bg n [t2,t3,t4,t5,t6,t7,.v (.lst (l.map nI)),.own (x'.map nI),s10',s11',.no,.no])
 |0,c,x,s10,s11,_,hx=>⟨x,s10,s11,hx,rfl⟩
 |k+1,c,x,s10,s11,h,hx=>by
  have hd:(c+1) % (n-2)<n-2:=Nat.mod_lt _ (by omega)
  let st:List Nat->Sl->aF:=λx s11=>eP bg n [t2,t3,t4,t5,t6,t7,.v (.lst (l.map nI)),.own (x.map nI),.v (nI c),s11,.no,.no]
  have sb: ∀s11,ak fz (ag 1) (aA (.int 2)) (st x s11)=some (nI (n-2)):=λs11=>by
   refine(au (x:=nI n) (y:=.int 2) rfl rfl).trans ((jw _ _).trans ?_)
   show some (D.int _)=some (D.int _);congr 2
   omega
  have e1:aT 11 (ak bo (ak aO (ag 10) (aA (.int 1))) (ak fz (ag 1) (aA (.int 2)))) (st x s11)=.nx (st x (.v (nI ((c+1) % (n-2))))):=
   (bc ((au ((au (x:=nI c) (y:=.int 1) rfl rfl).trans (mV c)) (sb _)).trans (AG (by omega)))).trans rfl
  have i1:ak aP (cV 9) (ag 10) (st x (.v (nI ((c+1) % (n-2)))))=some (nI (x.getD c 0)):=(au (x:=.lst (x.map nI)) (y:=nI c) rfl rfl).trans (Ar (by omega))
  have i2:ak aP (ag 8) (ag 10) (st x (.v (nI ((c+1) % (n-2)))))=some (nI (l.getD c 0)):=(au (x:=.lst (l.map nI)) (y:=nI c) rfl rfl).trans (Ar (by omega))
  have i3:ak aP (cV 9) (ag 11) (st x (.v (nI ((c+1) % (n-2)))))=some (nI (x.getD ((c+1) % (n-2)) 0)):=(au (x:=.lst (x.map nI)) (y:=nI ((c+1) % (n-2))) rfl rfl).trans (Ar (by omega))
  have tt:aX (ak iE (ak aP (cV 9) (ag 10)) (ak aP (ag 8) (ag 10))) (st x (.v (nI ((c+1) % (n-2)))))=some (decide (x.getD c 0=l.getD c 0)):=bf ((au i1 i2).trans (by rw[mH (by rw[gk];omega),jk]))
  obtain⟨x2,hx2,e2⟩: ∃x2:List Nat,x2.length=n-2/\cP (aX (ak iE (ak aP (cV 9) (ag 10)) (ak aP (ag 8) (ag 10)))) (cv (gT 2 (eV (bW 9 (ag 10)) (eV (bW 9 (ag 11)) (jI)))) (pu (cw (aa (ak aP (cV 9) (ag 11)) (aa (ak aP (cV 9) (ag 10)) (ai)))))) (skip) (st x (.v (nI ((c+1) % (n-2)))))=.nx (st x2 (.v (nI ((c+1) % (n-2))))):=by
   by_cases e:x.getD c 0=l.getD c 0
   ·rw[decide_eq_true e] at tt
    refine⟨(x.set c (x.getD ((c+1) % (n-2)) 0)).set ((c+1) % (n-2)) (x.getD c 0),by simp[hx],(dN tt).trans ?_⟩
    unfold cv;rw[ge (cG (av i3 (av i1 rfl)) (by simp))]
    simp only[gT,List.length_cons,List.length_nil,eV];rw[iz (bs:=x.map nI) (j:=c) rfl rfl (by simp;omega)]
    simp only[Option.bind_some];rw[iz (bs:=(x.map nI).set c (nI (x.getD ((c+1) % (n-2)) 0))) (j:=(c+1) % (n-2)) rfl rfl (by simp;omega)]
    rw[kQ,kQ];rfl
   ·rw[decide_eq_false e] at tt
    exact⟨x,hx,(j3 tt).trans rfl⟩
  obtain⟨x',s10',s11',h1,h2⟩:=tS bg t2 t3 t4 t5 t6 t7 l hl k (c+1) x2 (.v (nI c)) (.v (nI ((c+1) % (n-2)))) (by omega) hx2
  refine⟨x',s10',s11',h1,?_⟩
  rw[List.range'_succ,List.map_cons];exact(cb (ρ1:=st x s11) rfl ((ay e1).trans e2)).trans h2
theorem tT(l:List Nat)(c p q:Nat)(hc:c<=l.length):(l.take c++[p,q]++l.drop c).length=l.length+2/\(l.take c++[p,q]++l.drop c).getD c 0=p/\(l.take c++[p,q]++l.drop c).getD (c+1) 0=q:=by
 have e:(l.take c).length=c:=by rw[List.length_take];omega
 refine⟨by simp;omega,?_,?_⟩
 ·rw[List.getD_eq_getElem?_getD,List.append_assoc,List.getElem?_append_right (by omega),e,Nat.sub_self];rfl
 ·rw[List.getD_eq_getElem?_getD,List.append_assoc,List.getElem?_append_right (by omega),e,show c+1-c=1 by omega];rfl
theorem Ap {N:Nat}{a b:Int}(B:Bag N a b)(hN:N<=100): ∃(r x:List Nat) (c:Nat) (bg:List D),bR (aG a b) [nI n]=some (.tup [fM r x,nI c],bg)/\(∃N' a' b',Bag N' a' b'/\N'<=400/\bg=aG a' b')/\r.length=n/\x.length=n/\c+1<n/\NI n (r.getD c 0) (x.getD c 0) (r.getD (c+1) 0) (x.getD (c+1) 0):=by
 obtain⟨d,a1,b1,e1,B1,d0,d1⟩:=kX (m:=(n:Int) -1) B (by omega) (by omega) (Nat.lt_of_lt_of_le (show((n:Int) -1).natAbs<10^10 by omega) (by decide))
 obtain⟨c,rfl⟩: ∃c:Nat,d=(c:Int):=⟨d.toNat,by omega⟩
 have hc:c+1<n:=by omega
 obtain⟨w0,w1,w2,w3,a2,b2,k0,k1,k2,k3,B2,ew⟩:=B7 B1 (by omega) n c
 obtain⟨o,a3,b3,eo,O,B3⟩:=nW B2 (n:=n) (by omega) (by omega)
 have ot:(o.take 4).length=4:=by rw[List.length_take,O.len];omega
 obtain⟨f0,f1,f2,f3,es,l01,l12,l23,l3⟩:=GF (n:=n) ot ((O.perm.nodup_iff.mpr List.nodup_range).sublist (List.take_sublist _ _)) (λv hv=>O.lt (List.mem_of_mem_take hv))
 let W:D:=.lst [.int w0,.int w1,.int w2,.int w3]
 have q1:je 2 (aN 0 1 aS (bL (aa (ak fz (ag 1) (aA (.int 1))) (ai)))) (nT 14 (aG a b) [nI n])=.nx (eP (aG a1 b1) n [.v (nI c),.no,.no,.no,.no,.no,.no,.no,.no,.no,.no,.no]):=
  (jW (cM (i:=0) (n:=1) (b0:=aG a b) (ds:=[.int ((n:Int) -1)]) rfl (br (av ((au (x:=nI n) (y:=.int 1) rfl rfl).trans (jw _ _)) rfl)) rfl rfl e1)).trans rfl
 have q2:je 3 (fc 1 (bL (cS (aa (aA (.int 4)) (ai)))) (gN 14) (ft) (aN 0 1 aS (bL (aa (aA (.int 2)) (ai))))) (eP (aG a1 b1) n [.v (nI c),.no,.no,.no,.no,.no,.no,.no,.no,.no,.no,.no])=.nx (eP (aG a2 b2) n [.v (nI c),.v W,.no,.no,.no,.no,.no,.no,.no,.no,.no,.no]):=(jW ew).trans rfl
 have q3:je 4 (gt eA (dc (yM (aN 0 1 bh (bL (aa (ag 1) (ai)))) jg (gG (aA (.int 4)))) (bL (ai)))) (eP (aG a2 b2) n [.v (nI c),.v W,.no,.no,.no,.no,.no,.no,.no,.no,.no,.no])=.nx (eP (aG a3 b3) n [.v (nI c),.v W,.v (.lst ([f0,f1,f2,f3].map nI)),.no,.no,.no,.no,.no,.no,.no,.no,.no]):=by
  refine(jW (nE (ρ1:=eP (aG a3 b3) n [.v (nI c),.v W,.no,.no,.no,.no,.no,.no,.no,.no,.no,.no]) (ds:=[.lst ((o.take 4).map nI)]) (fQ ?_ (br rfl)) es)).trans rfl
  unfold yM;rw[show aN 0 1 bh (bL (aa (ag 1) (ai))) (eP (aG a2 b2) n [.v (nI c),.v W,.no,.no,.no,.no,.no,.no,.no,.no,.no,.no])=some (.lst (o.map nI),eP (aG a3 b3) n [.v (nI c),.v W,.no,.no,.no,.no,.no,.no,.no,.no,.no,.no]) from cM (i:=0) (n:=1) (b0:=aG a2 b2) (ds:=[nI n]) rfl (br rfl) rfl rfl eo,Option.bind_some];show some (D.lst (iB (o.map nI) none (some ((4:Nat):Int))),_)=_;rw[u2]
 have iw: ∀(j:Nat) (w:Int) (bg:List D) (t:List Sl),[D.int w0,.int w1,.int w2,.int w3][j]? =some (.int w)->ak aP (ag 3) (aA (.int j)) (eP bg n (.v (nI c):: .v W::t))=some (.int w):=λj w bg t hw=>(au (x:=W) (y:=.int j) rfl rfl).trans (qU hw)
 obtain⟨g0,g1,g2,g3,q4,NI0⟩: ∃g0 g1 g2 g3:Nat,aT 4 (ak gA (fu (ag 4) (gG (ak aP (ag 3) (aA (.int 0)))) jg) (fu (ag 4) jg (gG (ak aP (ag 3) (aA (.int 0)))))) (eP (aG a3 b3) n [.v (nI c),.v W,.v (.lst ([f0,f1,f2,f3].map nI)),.no,.no,.no,.no,.no,.no,.no,.no,.no])=.nx (eP (aG a3 b3) n [.v (nI c),.v W,.v (.lst ([g0,g1,g2,g3].map nI)),.no,.no,.no,.no,.no,.no,.no,.no,.no])/\NI n g0 g1 g2 g3:=by
  obtain⟨w,rfl⟩: ∃w:Nat,w0=(w:Int):=⟨w0.toNat,by omega⟩
  have i0:=iw 0 w (aG a3 b3) [.v (.lst ([f0,f1,f2,f3].map nI)),.no,.no,.no,.no,.no,.no,.no,.no,.no] rfl
  have z:=(bc (i:=4) ((au (kP (f:=ag 4) (l:=[f0,f1,f2,f3]) rfl i0) (qJ (f:=ag 4) (l:=[f0,f1,f2,f3]) rfl i0)).trans (zN _ _ (by simp;omega))))
  have hw:w=0\/w=1:=by omega
  rcases hw with rfl|rfl
  ·refine⟨f0,f1,f2,f3,z.trans rfl,by omega,by omega,by omega,by omega,by omega,by omega,by omega,by omega,by omega,by omega,?_⟩
   unfold kb;rw[Bool.eq_iff_iff];simp only[Bool.and_eq_true,decide_eq_true_eq];omega
  ·refine⟨f1,f2,f3,f0,z.trans rfl,by omega,by omega,by omega,by omega,by omega,by omega,by omega,by omega,by omega,by omega,?_⟩
   unfold kb;rw[Bool.eq_iff_iff];simp only[Bool.and_eq_true,decide_eq_true_eq];omega
 have q5:aT 5 (cg (aa (fu (ag 4) jg (gG (aA (.int 2)))) (aa (fu (ag 4) (gG (aA (.int 2))) jg) (ai)))) (eP (aG a3 b3) n [.v (nI c),.v W,.v (.lst ([g0,g1,g2,g3].map nI)),.no,.no,.no,.no,.no,.no,.no,.no,.no])=.nx (eP (aG a3 b3) n [.v (nI c),.v W,.v (.lst ([g0,g1,g2,g3].map nI)),.v (.lst [.lst ([g0,g1].map nI),.lst ([g2,g3].map nI)]),.no,.no,.no,.no,.no,.no,.no,.no]):=
  (bc (dJ (av (qJ (f:=ag 4) (l:=[g0,g1,g2,g3]) (a:=2) rfl rfl) (av (kP (f:=ag 4) (l:=[g0,g1,g2,g3]) (a:=2) rfl rfl) rfl)) (by simp))).trans rfl
 obtain⟨p0,p1,p2,p3,q6,NI1⟩: ∃p0 p1 p2 p3:Nat,cP (aX (ak iE (ak aP (ag 3) (aA (.int 1))) (aA (.int 1)))) (aT 5 (o5 (ag 5) (gG (o4 (aA (.int 1)))))) (skip) (eP (aG a3 b3) n [.v (nI c),.v W,.v (.lst ([g0,g1,g2,g3].map nI)),.v (.lst [.lst ([g0,g1].map nI),.lst ([g2,g3].map nI)]),.no,.no,.no,.no,.no,.no,.no,.no])=.nx (eP (aG a3 b3) n [.v (nI c),.v W,.v (.lst ([g0,g1,g2,g3].map nI)),.v (.lst [.lst ([p0,p1].map nI),.lst ([p2,p3].map nI)]),.no,.no,.no,.no,.no,.no,.no,.no])/\NI n p0 p1 p2 p3:=by
  have tt:=uy (iw 1 w1 (aG a3 b3) [.v (.lst ([g0,g1,g2,g3].map nI)),.v (.lst [.lst ([g0,g1].map nI),.lst ([g2,g3].map nI)]),.no,.no,.no,.no,.no,.no,.no,.no] rfl)
  by_cases e:w1=1
  ·rw[decide_eq_true e] at tt
   exact⟨g2,g3,g0,g1,(dN tt).trans ((bc (Ec (f:=ag 5) (ds:=[.lst ([g0,g1].map nI),.lst ([g2,g3].map nI)]) rfl)).trans rfl),NI0.swap h5⟩
  ·rw[decide_eq_false e] at tt
   exact⟨g0,g1,g2,g3,(j3 tt).trans rfl,NI0⟩
 have q7:cv (gL 2 (eV (gN 6) (eV (gN 7) (jI)))) (pu (ag 5)) (eP (aG a3 b3) n [.v (nI c),.v W,.v (.lst ([g0,g1,g2,g3].map nI)),.v (.lst [.lst ([p0,p1].map nI),.lst ([p2,p3].map nI)]),.no,.no,.no,.no,.no,.no,.no,.no])=.nx (eP (aG a3 b3) n [.v (nI c),.v W,.v (.lst ([g0,g1,g2,g3].map nI)),.v (.lst [.lst ([p0,p1].map nI),.lst ([p2,p3].map nI)]),.v (.lst ([p0,p1].map nI)),.v (.lst ([p2,p3].map nI)),.no,.no,.no,.no,.no,.no]):=fX (ge rfl) rfl
 generalize hG:(Sl.v (.lst ([g0,g1,g2,g3].map nI)))=G4 at q7
 generalize hP:(Sl.v (.lst [.lst ([p0,p1].map nI),.lst ([p2,p3].map nI)]))=G5 at q7
 obtain⟨l0,l1,q8,NI2⟩: ∃l0 l1:Nat,cP (aX (ak iE (ak aP (ag 3) (aA (.int 2))) (aA (.int 1)))) (aT 6 (o5 (ag 6) (gG (o4 (aA (.int 1)))))) (skip) (eP (aG a3 b3) n [.v (nI c),.v W,G4,G5,.v (.lst ([p0,p1].map nI)),.v (.lst ([p2,p3].map nI)),.no,.no,.no,.no,.no,.no])=.nx (eP (aG a3 b3) n [.v (nI c),.v W,G4,G5,.v (.lst ([l0,l1].map nI)),.v (.lst ([p2,p3].map nI)),.no,.no,.no,.no,.no,.no])/\NI n l0 l1 p2 p3:=by
  have tt:=uy (iw 2 w2 (aG a3 b3) [G4,G5,.v (.lst ([p0,p1].map nI)),.v (.lst ([p2,p3].map nI)),.no,.no,.no,.no,.no,.no] rfl)
  by_cases e:w2=1
  ·rw[decide_eq_true e] at tt
   exact⟨p1,p0,(dN tt).trans ((bc (Ec (f:=ag 6) (ds:=[p0,p1].map nI) rfl)).trans rfl),NI1.revL⟩
  ·rw[decide_eq_false e] at tt
   exact⟨p0,p1,(j3 tt).trans rfl,NI1⟩
 obtain⟨r0,r1,q9,NI3⟩: ∃r0 r1:Nat,cP (aX (ak iE (ak aP (ag 3) (aA (.int 3))) (aA (.int 1)))) (aT 7 (o5 (ag 7) (gG (o4 (aA (.int 1)))))) (skip) (eP (aG a3 b3) n [.v (nI c),.v W,G4,G5,.v (.lst ([l0,l1].map nI)),.v (.lst ([p2,p3].map nI)),.no,.no,.no,.no,.no,.no])=.nx (eP (aG a3 b3) n [.v (nI c),.v W,G4,G5,.v (.lst ([l0,l1].map nI)),.v (.lst ([r0,r1].map nI)),.no,.no,.no,.no,.no,.no])/\NI n l0 l1 r0 r1:=by
  have tt:=uy (iw 3 w3 (aG a3 b3) [G4,G5,.v (.lst ([l0,l1].map nI)),.v (.lst ([p2,p3].map nI)),.no,.no,.no,.no,.no,.no] rfl)
  by_cases e:w3=1
  ·rw[decide_eq_true e] at tt
   exact⟨p3,p2,(dN tt).trans ((bc (Ec (f:=ag 7) (ds:=[p2,p3].map nI) rfl)).trans rfl),NI2.revR⟩
  ·rw[decide_eq_false e] at tt
   exact⟨p2,p3,(j3 tt).trans rfl,NI2⟩
 have m4:vj G4 G4=some G4:=by rw[<-hG];rfl
 have m5:vj G5 G5=some G5:=by rw[<-hP];rfl
 obtain⟨lr,a4,b4,hlr,B4,er⟩:=vp h4 h5 B3 (by omega) (.v (nI c)) (.v W) G4 G5 .no l0 l1 r0 r1 0 l0 r0 (λs hs=>by
  simp only[List.mem_cons,List.not_mem_nil,or_false] at hs;rcases hs with rfl|rfl|rfl|rfl|rfl
  ·rfl
  ·rfl
  ·exact m4
  ·exact m5
  ·rfl) (λbg t=>rfl) (λbg t=>rfl) NI3.ha NI3.hp NI3.ap
 have q10:=(jW (i:=8) er).trans (show Out.nx _=Out.nx (eP (aG a4 b4) n [.v (nI c),.v W,G4,G5,.v (.lst ([l0,l1].map nI)),.v (.lst ([r0,r1].map nI)),.v (.lst (lr.map nI)),.no,.no,.no,.no,.no]) from rfl)
 obtain⟨lx,a5,b5,hlx,B5,ex⟩:=vp h4 h5 B4 (by omega) (.v (nI c)) (.v W) G4 G5 (.v (.lst (lr.map nI))) l0 l1 r0 r1 1 l1 r1 (λs hs=>by
  simp only[List.mem_cons,List.not_mem_nil,or_false] at hs;rcases hs with rfl|rfl|rfl|rfl|rfl
  ·rfl
  ·rfl
  ·exact m4
  ·exact m5
  ·rfl) (λbg t=>rfl) (λbg t=>rfl) NI3.hb NI3.hq NI3.bq
 have q11:=(Bh (i:=9) ex).trans (show Out.nx _=Out.nx (eP (aG a5 b5) n [.v (nI c),.v W,G4,G5,.v (.lst ([l0,l1].map nI)),.v (.lst ([r0,r1].map nI)),.v (.lst (lr.map nI)),.own (lx.map nI),.no,.no,.no,.no]) from rfl)
 obtain⟨lx',s10,s11,hlx',e12⟩:=tS h4 h5 (aG a5 b5) (.v (nI c)) (.v W) G4 G5 (.v (.lst ([l0,l1].map nI))) (.v (.lst ([r0,r1].map nI))) lr hlr (n-2) 0 lx .no .no (by omega) hlx
 let S:Sl->Sl->aF:=λs12 s13=>eP (aG a5 b5) n [.v (nI c),.v W,G4,G5,.v (.lst ([l0,l1].map nI)),.v (.lst ([r0,r1].map nI)),.v (.lst (lr.map nI)),.own (lx'.map nI),s10,s11,s12,s13]
 have sb:ak fz (ag 1) (aA (.int 2)) (eP (aG a5 b5) n [.v (nI c),.v W,G4,G5,.v (.lst ([l0,l1].map nI)),.v (.lst ([r0,r1].map nI)),.v (.lst (lr.map nI)),.own (lx.map nI),.no,.no,.no,.no])=some (nI (n-2)):=by
  refine(au (x:=nI n) (y:=.int 2) rfl rfl).trans ((jw _ _).trans ?_)
  show some (D.int _)=some (D.int _);congr 2
  omega
 have q12:dI (bL (cS (aa (ak fz (ag 1) (aA (.int 2))) (ai)))) (gN 10) (aB (aT 11 (ak bo (ak aO (ag 10) (aA (.int 1))) (ak fz (ag 1) (aA (.int 2)))))
  (cP (aX (ak iE (ak aP (cV 9) (ag 10)) (ak aP (ag 8) (ag 10)))) (cv (gT 2 (eV (bW 9 (ag 10)) (eV (bW 9 (ag 11)) (jI)))) (pu (cw (aa (ak aP (cV 9) (ag 11)) (aa (ak aP (cV 9) (ag 10)) (ai)))))) (skip))) (eP (aG a5 b5) n [.v (nI c),.v W,G4,G5,.v (.lst ([l0,l1].map nI)),.v (.lst ([r0,r1].map nI)),.v (.lst (lr.map nI)),.own (lx.map nI),.no,.no,.no,.no])=.nx (S .no .no):=
  (cH (ds:=(List.range' 0 (n-2)).map nI) (br ((fS (n:=n-2) (av sb rfl) (by omega)).trans (by rw[List.range_eq_range'])))).trans e12
 have q13:aT 12 (ak gA (ak gA (fu (ag 8) jg (gG (ag 2))) (cg (aa (ak aP (ag 6) (aA (.int 0))) (aa (ak aP (ag 7) (aA (.int 0))) (ai))))) (fu (ag 8) (gG (ag 2)) jg)) (S .no .no)=.nx (S (.v (.lst ((lr.take c++[l0,r0]++lr.drop c).map nI))) .no):=by
  refine(bc ((au ((au (qJ (f:=ag 8) (l:=lr) (g:=ag 2) (a:=c) rfl rfl) (dJ (ds:=[l0,r0].map nI) rfl (by simp))).trans (zN _ _ (by simp;omega))) (kP (f:=ag 8) (l:=lr) (g:=ag 2) (a:=c) rfl rfl)).trans (zN _ _ (by simp;omega)))).trans rfl
 have q14:aT 13 (ak gA (ak gA (fu (cV 9) jg (gG (ag 2))) (cg (aa (ak aP (ag 6) (aA (.int 1))) (aa (ak aP (ag 7) (aA (.int 1))) (ai))))) (fu (cV 9) (gG (ag 2)) jg)) (S (.v (.lst ((lr.take c++[l0,r0]++lr.drop c).map nI))) .no)=.nx (S (.v (.lst ((lr.take c++[l0,r0]++lr.drop c).map nI))) (.v (.lst ((lx'.take c++[l1,r1]++lx'.drop c).map nI)))):=by
  refine(bc ((au ((au (qJ (f:=cV 9) (l:=lx') (g:=ag 2) (a:=c) rfl rfl) (dJ (ds:=[l1,r1].map nI) rfl (by simp))).trans (zN _ _ (by simp;omega))) (kP (f:=cV 9) (l:=lx') (g:=ag 2) (a:=c) rfl rfl)).trans (zN _ _ (by simp;omega)))).trans rfl
 obtain⟨z1,z2,z3⟩:=tT h4 h5 lr c l0 r0 (by omega)
 obtain⟨y1,y2,y3⟩:=tT h4 h5 lx' c l1 r1 (by omega)
 refine⟨lr.take c++[l0,r0]++lr.drop c,lx'.take c++[l1,r1]++lx'.drop c,c,aG a5 b5,?_,⟨_,_,_,B5,by omega,rfl⟩,by rw[z1,hlr];omega,by rw[y1,hlx'];omega,hc,by rw[z2,z3,y2,y3];exact NI3⟩
 subst hG hP;unfold bR uY ie;rw[ay q1,ay q2,ay q3,ay q4,ay q5,ay q6,ay q7,ay q8,ay q9,ay q10,ay q11,ay q12,ay q13,ay q14];rfl
end
def oR(l:List Nat)(c:Nat):List Nat:=l.take c++[l.getD (c+1) 0,l.getD c 0]++l.drop (c+2)
theorem wc {n c:Nat}{l:List Nat}(hl:l.length=n)(hc:c+1<n):(oR l c).length=n/\(oR l c).getD c 0=l.getD (c+1) 0/\(oR l c).getD (c+1) 0=l.getD c 0:=by
 have e:(l.take c).length=c:=by rw[List.length_take];omega
 unfold oR;refine⟨by simp;omega,?_,?_⟩
 ·rw[List.getD_eq_getElem?_getD,List.append_assoc,List.getElem?_append_right (by omega),e,Nat.sub_self];rfl
 ·rw[List.getD_eq_getElem?_getD (l:=l.take c++_++_),List.append_assoc,List.getElem?_append_right (by omega),e,show c+1-c=1 by omega];rfl
theorem B9 {n:Nat}{r x:List Nat}{c:Nat}(hr:r.length=n)(hx:x.length=n)(hc:c+1<n)(hn:n<=8):dS [fM r x,nI c]=some (fM (oR r c) (oR x c)):=by
 refine jx (kd:=.s) (n:=4) (t:=gZ) ?_
 unfold gZ;have q1:ga 2 (cg (ai)) (ij 4 [fM r x,nI c])=.nx [.v (fM r x),.v (nI c),.own [],.no]:=(iN (dJ (ds:=[]) rfl (by simp))).trans rfl
 have one: ∀(l:List Nat) (F:List D),l.length=n->F.length<=2->ca (aN 2 1 gH (bL (aa (ak j6 (ak j6 (mY (ag 3) jg (gG (ag 1))) (cw (aa (ak aP (ag 3) (ak aO (ag 1) (aA (.int 1)))) (aa (ak aP (ag 3) (ag 1)) (ai))))) (mY (ag 3) (gG (ak aO (ag 1) (aA (.int 2)))) jg)) (ai)))) [.v (fM r x),.v (nI c),.own F,.v (ax l)]=.nx [.v (fM r x),.v (nI c),.own (F++[ax (oR l c)]),.v (ax l)]:=λl F hl hF=>by
  let ρ:aF:=[.v (fM r x),.v (nI c),.own F,.v (ax l)]
  have s1:mY (ag 3) jg (gG (ag 1)) ρ=some (.tup ((l.take c).map nI)):=by
   unfold mY;rw[show ag 3 ρ=some (.tup (l.map nI)) from rfl,Option.bind_some];show(if jo (l.map nI) none (some (c:Int))=false then some (D.tup (iB (l.map nI) none (some (c:Int)))) else none)=_
   rw[if_pos,u2];unfold jo;rw[HT.sIx_nat,List.length_map,Bool.and_eq_false_iff];exact .inr (decide_eq_false (by omega))
  have a2:ak aO (ag 1) (aA (.int 2)) ρ=some (nI (c+2)):=(au (x:=nI c) (y:=.int 2) rfl rfl).trans (Ai c 2)
  have s2:mY (ag 3) (gG (ak aO (ag 1) (aA (.int 2)))) jg ρ=some (.tup ((l.drop (c+2)).map nI)):=by
   unfold mY gG;rw[show ag 3 ρ=some (.tup (l.map nI)) from rfl,Option.bind_some,a2];show(if jo (l.map nI) (some ((c+2:Nat):Int)) none=false then some (D.tup (iB (l.map nI) (some ((c+2:Nat):Int)) none)) else none)=_
   rw[if_pos,r8];unfold jo;rw[HT.sIx_nat,List.length_map,Bool.and_eq_false_iff];exact .inl (decide_eq_false (by omega))
  have cat: ∀xs ys:List D,xs.length+ys.length<=900->j6 (.tup xs) (.tup ys)=some (.tup (xs++ys)):=λxs ys h=>if_pos (Nat.le_trans h (by decide))
  have m1:cw (aa (ak aP (ag 3) (ak aO (ag 1) (aA (.int 1)))) (aa (ak aP (ag 3) (ag 1)) (ai))) ρ=some (.tup ([l.getD (c+1) 0,l.getD c 0].map nI)):=
   cG (av ((au (x:=ax l) rfl ((au (x:=nI c) (y:=.int 1) rfl rfl).trans (mV c))).trans (cK (by omega))) (av ((au (x:=ax l) (y:=nI c) rfl rfl).trans (cK (by omega))) rfl)) (by simp)
  have e:ak j6 (ak j6 (mY (ag 3) jg (gG (ag 1))) (cw (aa (ak aP (ag 3) (ak aO (ag 1) (aA (.int 1)))) (aa (ak aP (ag 3) (ag 1)) (ai))))) (mY (ag 3) (gG (ak aO (ag 1) (aA (.int 2)))) jg) ρ=some (ax (oR l c)):=by
   refine(au ((au s1 m1).trans (cat _ _ (by simp;omega))) s2).trans ((cat _ _ (by simp;omega)).trans ?_)
   unfold ax oR;rw[List.map_append,List.map_append]
  exact(oI (i:=2) (b0:=F) (bs:=F) (d:=ax (oR l c)) rfl (br (av e rfl)) rfl (by omega)).trans rfl
 refine⟨_,(ay q1).trans ((ay ((cH (ds:=[ax r,ax x]) (br (zT rfl))).trans ((cb (ρ1:=[.v (fM r x),.v (nI c),.own [],.v (ax r)]) rfl (one r [] hr (by simp))).trans ((cb (ρ1:=[.v (fM r x),.v (nI c),.own [ax (oR r c)],.v (ax x)]) rfl (one x [ax (oR r c)] hx (by simp))).trans rfl)))).trans (bF ((bS (ds:=[.lst [ax (oR r c),ax (oR x c)]]) rfl).trans rfl)))⟩
theorem n5 {p q:FT}{ρ:aF}{a b:Bool}(h1:p ρ=some a)(h2:q ρ=some b):cx p q ρ=some (a&&b):=ng h1 (λz=>by rw[z,Bool.true_and];exact h2) (λz=>by rw[z];rfl)
theorem y6 {n:Nat}{S:iy}(h:Ln n S){c:Nat}(hc:c<n)(y:Nat):dL [bu S,nI c,nI y]=some (.bl (lG S c y)):=by
 apply bZ (kd:=.s) (n:=3) (t:=iU)
 unfold iU;refine bF (ki ?_)
 have e:lG S c y=(decide (S.1.getD c 0=y)||decide (S.2.getD c 0=y)):=by
  unfold lG;rw[Bool.eq_iff_iff,Bool.or_eq_true,decide_eq_true_eq,decide_eq_true_eq,decide_eq_true_eq];exact or_congr eq_comm eq_comm
 rw[e];exact vf (bf ((au ((au (x:=ax S.1) (y:=nI c) rfl rfl).trans (cK (by rw[h.1];exact hc))) (y:=nI y) rfl).trans (rk _ _))) (bf ((au ((au (x:=ax S.2) (y:=nI c) rfl rfl).trans (cK (by rw[h.2];exact hc))) (y:=nI y) rfl).trans (rk _ _)))
theorem DR {f g:FE}{ρ:aF}{a c:Nat}(h1:f ρ=some (nI a))(h2:g ρ=some (nI c)):aX (ak iE f (ak aO g (aA (.int 1)))) ρ=some (decide (a=c+1)):=bf ((au h1 ((au h2 (y:=.int 1) rfl).trans (mV c))).trans (rk _ _))
theorem Id {f g:FE}{ρ:aF}{a c:Nat}(h1:f ρ=some (nI a))(h2:g ρ=some (nI c)):aX (ak iE f g) ρ=some (decide (a=c)):=bf ((au h1 h2).trans (rk _ _))
theorem HI {f g:FE}{ρ:aF}{a c:Nat}(h1:f ρ=some (nI a))(h2:g ρ=some (nI c)):aX (ak Cu f g) ρ=some (decide (c<a)):=bf ((au h1 h2).trans ((wJ _ _).trans (by congr 2;rw[Bool.eq_iff_iff];simp)))
theorem HH {f g:FE}{ρ:aF}{a c:Nat}(h1:f ρ=some (nI a))(h2:g ρ=some (nI c)):aX (ak yd f g) ρ=some (decide (a<=c)):=bf ((au h1 h2).trans ((BF _ _).trans (by congr 2;rw[Bool.eq_iff_iff];simp)))
theorem HP {f g:FE}{ρ:aF}{a c:Nat}(h1:f ρ=some (nI a))(h2:g ρ=some (nI c)):aX (ak ER f g) ρ=some (decide (c<=a)):=bf ((au h1 h2).trans ((qO _ _).trans (by congr 2;rw[Bool.eq_iff_iff];simp)))
def oi(c a b τ col h:Nat):Bool:=(decide (a=c+1)&&(decide (col=c+1)&&decide (τ<h)))||(decide (b=c+1)&&(decide (col=c)&&decide (h<=τ)))
def dW(S O:iy)(c a b τ col h:Nat):iy:=if oi c a b τ col h=true then O else S
theorem Cj {n:Nat}{S O:iy}(hS:Ln n S)(hO:Ln n O)(c a b τ col h:Nat):Ln n (dW S O c a b τ col h):=by unfold dW;split;exact hO;exact hS
def xx:FS:=aB (aT 12 (ag 0))
 (aB (cP (p8 (cx (aX (ak iE (ag 4) (ak aO (ag 2) (aA (.int 1))))) (cx (aX (ak iE (ag 10) (ak aO (ag 2) (aA (.int 1))))) (aX (ak Cu (ag 11) (ag 8))))) (cx (aX (ak iE (ag 5) (ak aO (ag 2) (aA (.int 1))))) (cx (aX (ak iE (ag 10) (ag 2))) (aX (ak yd (ag 11) (ag 8)))))) (aT 12 (ag 1)) (skip))
 (cP (dD (ao (nF 3 dL) (aa (ag 12) (aa (ag 10) (aa (ak bo (ak aO (ak aP (ag 3) (ag 4)) (ag 11)) (ag 6)) (ai)))))) (ba (aA (.bl false))) (skip)))
def DY:FS:=aB (aT 10 (ak bo (ak aO (ag 4) (ag 9)) (ag 6)))
 (aB (cP (cx (aX (ak Cu (ag 9) (aA (.int 0)))) (aX (ak ya (ak bo (ak fz (ak aP (ag 3) (ag 10)) (ak aP (ag 3) (ag 4))) (ag 6)) (ag 7)))) (ba (aA (.bl false))) (skip))
 (dI (bL (cS (aa (ag 7) (ai)))) (gN 11) xx))
theorem tF {n:Nat}{S O:iy}{o:List Nat}{a b c T:Nat}(h:0<n)(hn:n<=8)(hS:Ln n S)(hO:Ln n O)(ho:o.length=n)(ha:a<n)(hb:b<n)(hT:fA [bu S,nI c]=some (nI T)):
 bX [bu S,bu O,nI c,ax o,nI a,nI b]=some (.bl (decide ((((T:Int) -o.getD a 0) % n).toNat<(((o.getD b 0:Int) -o.getD a 0) % n).toNat)&&iO n o a b (dW S O c a b (((T:Int) -o.getD a 0) % n).toNat))):=by
 have mh:=wm ((o.getD b 0:Int) -o.getD a 0) h
 have mt:=wm ((T:Int) -o.getD a 0) h
 have mk:=wm ((b:Int) -a) h
 have ehi:((o.getD b 0:Int) -o.getD a 0) % n=((((o.getD b 0:Int) -o.getD a 0) % n).toNat:Int):=mh.2.symm
 unfold iO uN
 generalize hτ:(((T:Int) -o.getD a 0) % n).toNat=τ at mt⊢
 let hi:=(((o.getD b 0:Int) -o.getD a 0) % n).toNat
 have hhi:hi<n:=mh.1
 let st:Sl->Sl->Sl->Sl->aF:=λs9 s10 s11 s12=>[.v (bu S),.v (bu O),.v (nI c),.v (ax o),.v (nI a),.v (nI b),.v (nI n),.v (nI hi),.v (nI τ),s9,s10,s11,s12]
 have low: ∀ {i:Nat},i<n-> ∀(ρ:aF) (f:FE),f ρ=some (nI i)->ag 3 ρ=some (ax o)->ak aP (ag 3) f ρ=some (nI (o.getD i 0)):=λ{i} hi ρ f h1 h2=>(au h2 h1).trans (cK (by omega))
 have inn: ∀k,((List.range hi).all (λh'=> !lG (dW S O c a b τ ((a+k) % n) h') ((a+k) % n) ((o.getD a 0+h') % n))=true-> ∀s11 s12,∃ρ',cD (gN 11) xx ((List.range hi).map nI) (st (.v (nI k)) (.v (nI ((a+k) % n))) s11 s12)=.nx ρ'/\ ∃s11 s12,ρ'=st (.v (nI k)) (.v (nI ((a+k) % n))) s11 s12)/\
  ((List.range hi).all (λh'=> !lG (dW S O c a b τ ((a+k) % n) h') ((a+k) % n) ((o.getD a 0+h') % n))=false-> ∀s11 s12,∃ρ',cD (gN 11) xx ((List.range hi).map nI) (st (.v (nI k)) (.v (nI ((a+k) % n))) s11 s12)=.rt (.bl false) ρ'):=by
  intro k;have hcol:(a+k) % n<n:=Nat.mod_lt _ h
  generalize (a+k) % n=col at hcol
  have key:=λs11 s12=>ou (g:=gN 11) (h:=nI) (ok:=λh'=> !lG (dW S O c a b τ col h') col ((o.getD a 0+h') % n)) (d:=.bl false) (b:=xx) (P:=λρ=> ∃s11 s12,ρ=st (.v (nI k)) (.v (nI col)) s11 s12) (List.range hi) (λh' _ ρ hρ=>by
   obtain⟨s11,s12,rfl⟩:=hρ
   refine⟨st (.v (nI k)) (.v (nI col)) (.v (nI h')) s12,rfl,?_⟩
   have q1:aT 12 (ag 0) (st (.v (nI k)) (.v (nI col)) (.v (nI h')) s12)=.nx (st (.v (nI k)) (.v (nI col)) (.v (nI h')) (.v (bu S))):=(bc rfl).trans rfl
   have w:p8 (cx (aX (ak iE (ag 4) (ak aO (ag 2) (aA (.int 1))))) (cx (aX (ak iE (ag 10) (ak aO (ag 2) (aA (.int 1))))) (aX (ak Cu (ag 11) (ag 8))))) (cx (aX (ak iE (ag 5) (ak aO (ag 2) (aA (.int 1))))) (cx (aX (ak iE (ag 10) (ag 2))) (aX (ak yd (ag 11) (ag 8))))) (st (.v (nI k)) (.v (nI col)) (.v (nI h')) (.v (bu S)))=some (oi c a b τ col h'):=
    vf (n5 (DR rfl rfl) (n5 (DR rfl rfl) (HI rfl rfl))) (n5 (DR rfl rfl) (n5 (Id rfl rfl) (HH rfl rfl)))
   have q2:cP (p8 (cx (aX (ak iE (ag 4) (ak aO (ag 2) (aA (.int 1))))) (cx (aX (ak iE (ag 10) (ak aO (ag 2) (aA (.int 1))))) (aX (ak Cu (ag 11) (ag 8))))) (cx (aX (ak iE (ag 5) (ak aO (ag 2) (aA (.int 1))))) (cx (aX (ak iE (ag 10) (ag 2))) (aX (ak yd (ag 11) (ag 8)))))) (aT 12 (ag 1)) (skip) (st (.v (nI k)) (.v (nI col)) (.v (nI h')) (.v (bu S)))=.nx (st (.v (nI k)) (.v (nI col)) (.v (nI h')) (.v (bu (dW S O c a b τ col h')))):=by
    unfold dW;cases e:oi c a b τ col h' with
    |true=>rw[e] at w;rw[dN w,if_pos rfl];rfl
    |false=>rw[e] at w;rw[eM w,if_neg (by decide)]
   have m:dD (ao (nF 3 dL) (aa (ag 12) (aa (ag 10) (aa (ak bo (ak aO (ak aP (ag 3) (ag 4)) (ag 11)) (ag 6)) (ai))))) (st (.v (nI k)) (.v (nI col)) (.v (nI h')) (.v (bu (dW S O c a b τ col h'))))=some (lG (dW S O c a b τ col h') col ((o.getD a 0+h') % n)):=
    fW ((bT (ds:=[bu (dW S O c a b τ col h'),nI col,nI ((o.getD a 0+h') % n)]) (av rfl (av rfl (av ((au ((au (low ha _ _ rfl rfl) (y:=nI h') rfl).trans (Ai _ _)) (y:=nI n) rfl).trans (AG h)) rfl))) rfl).trans (y6 (Cj hS hO _ _ _ _ _ _) hcol _))
   refine⟨λe=>?_,λe=>?_⟩
   ·have e:lG (dW S O c a b τ col h') col ((o.getD a 0+h') % n)=false:=by simpa using e
    rw[e] at m;exact⟨_,(ay q1).trans ((ay q2).trans (eM m)),_,_,rfl⟩
   ·have e:lG (dW S O c a b τ col h') col ((o.getD a 0+h') % n)=true:=by simpa using e
    rw[e] at m;exact⟨_,(ay q1).trans ((ay q2).trans ((dN m).trans rfl))⟩) (st (.v (nI k)) (.v (nI col)) s11 s12) ⟨_,_,rfl⟩
  exact⟨λe s11 s12=>(key s11 s12).1 e,λe s11 s12=>(key s11 s12).2 e⟩
 have out:=ou (g:=gN 9) (h:=nI) (ok:=λk=> !(decide (0<k)&&pL n (o.getD a 0) (o.getD b 0) (o.getD ((a+k) % n) 0))&&(List.range hi).all λh'=> !lG (dW S O c a b τ ((a+k) % n) h') ((a+k) % n) ((o.getD a 0+h') % n)) (d:=.bl false) (b:=DY) (P:=λρ=> ∃s9 s10 s11 s12,ρ=st s9 s10 s11 s12) (List.range (((b:Int) -a) % n).toNat) (λk _ ρ hρ=>by
  obtain⟨s9,s10,s11,s12,rfl⟩:=hρ
  refine⟨st (.v (nI k)) s10 s11 s12,rfl,?_⟩
  have hcol:(a+k) % n<n:=Nat.mod_lt _ h
  let ρ2:=st (.v (nI k)) (.v (nI ((a+k) % n))) s11 s12
  have q1:aT 10 (ak bo (ak aO (ag 4) (ag 9)) (ag 6)) (st (.v (nI k)) s10 s11 s12)=.nx ρ2:=(bc ((au ((au (x:=nI a) (y:=nI k) rfl rfl).trans (Ai _ _)) (y:=nI n) rfl).trans (AG h))).trans rfl
  have c1:aX (ak ya (ak bo (ak fz (ak aP (ag 3) (ag 10)) (ak aP (ag 3) (ag 4))) (ag 6)) (ag 7)) ρ2=some (pL n (o.getD a 0) (o.getD b 0) (o.getD ((a+k) % n) 0)):=by
   refine bf ((au ((au ((au (low hcol _ _ rfl rfl) (low ha _ _ rfl rfl)).trans (Aw _ _)) (y:=nI n) rfl).trans (de (by omega))) (y:=nI hi) rfl).trans ((lg _ _).trans ?_))
   unfold pL;rw[ehi]
  have g1:aX (ak Cu (ag 9) (aA (.int 0))) ρ2=some (decide (0<k)):=bf ((au (x:=nI k) (y:=.int 0) rfl rfl).trans ((wJ _ _).trans (by congr 2;rw[Bool.eq_iff_iff];simp)))
  have a1:=n5 g1 c1
  have fo: ∀ {o':Out},cD (gN 11) xx ((List.range hi).map nI) ρ2=o'->dI (bL (cS (aa (ag 7) (ai)))) (gN 11) xx ρ2=o':=λ{o'} e=>(cH (br (fS (n:=hi) (av rfl rfl) (by omega)))).trans e
  refine⟨λe=>?_,λe=>?_⟩
  ·rw[Bool.and_eq_true,Bool.not_eq_true'] at e
   rw[e.1] at a1;obtain⟨ρ',e1,s11',s12',rfl⟩:=(inn k).1 e.2 s11 s12
   exact⟨_,(ay q1).trans ((ay (eM a1)).trans (fo e1)),_,_,_,_,rfl⟩
  ·cases e1:(decide (0<k)&&pL n (o.getD a 0) (o.getD b 0) (o.getD ((a+k) % n) 0)) with
   |true=>
    rw[e1] at a1;exact⟨_,(ay q1).trans (gX ((dN a1).trans rfl))⟩
   |false=>
    rw[e1] at a1 e;rw[Bool.not_false,Bool.true_and] at e;obtain⟨ρ',e2⟩:=(inn k).2 e s11 s12
    exact⟨_,(ay q1).trans ((ay (eM a1)).trans (fo e2))⟩) (st .no .no .no .no) ⟨_,_,_,_,rfl⟩
 refine jx (kd:=.s) (n:=13) (t:=ko) ?_
 have q6:aT 6 (ao cW (aa (ag 3) (ai))) (ij 13 [bu S,bu O,nI c,ax o,nI a,nI b])=.nx [.v (bu S),.v (bu O),.v (nI c),.v (ax o),.v (nI a),.v (nI b),.v (nI n),.no,.no,.no,.no,.no,.no]:=(bc (d:=nI n) (by rw[gy o _ _ rfl,ho])).trans rfl
 have q7:aT 7 (ak bo (ak fz (ak aP (ag 3) (ag 5)) (ak aP (ag 3) (ag 4))) (ag 6)) [.v (bu S),.v (bu O),.v (nI c),.v (ax o),.v (nI a),.v (nI b),.v (nI n),.no,.no,.no,.no,.no,.no]=.nx [.v (bu S),.v (bu O),.v (nI c),.v (ax o),.v (nI a),.v (nI b),.v (nI n),.v (nI hi),.no,.no,.no,.no,.no]:=
  (bc ((au ((au (low hb _ _ rfl rfl) (low ha _ _ rfl rfl)).trans (Aw _ _)) (y:=nI n) rfl).trans (Cf h))).trans rfl
 have q8:aT 8 (ak bo (ak fz (ao (nF 2 fA) (aa (ag 0) (aa (ag 2) (ai)))) (ak aP (ag 3) (ag 4))) (ag 6)) [.v (bu S),.v (bu O),.v (nI c),.v (ax o),.v (nI a),.v (nI b),.v (nI n),.v (nI hi),.no,.no,.no,.no,.no]=.nx (st .no .no .no .no):=
  (bc (((au ((au ((bT (ds:=[bu S,nI c]) rfl rfl).trans hT) (low ha _ _ rfl rfl)).trans (Aw _ _)) (y:=nI n) rfl).trans (Cf h)).trans (by rw[hτ]))).trans rfl
 have g:aX (ak ER (ag 8) (ag 7)) (st .no .no .no .no)=some (decide (hi<=τ)):=HP rfl rfl
 have fo: ∀ {o':Out},cD (gN 9) DY ((List.range (((b:Int) -a) % n).toNat).map nI) (st .no .no .no .no)=o'->dI (bL (cS (aa (ak bo (ak fz (ag 5) (ag 4)) (ag 6)) (ai)))) (gN 9) DY (st .no .no .no .no)=o':=λ{o'} e=>
  (cH (br (fS (n:=(((b:Int) -a) % n).toNat) (av ((au ((au (x:=nI b) (y:=nI a) rfl rfl).trans (Aw _ _)) (y:=nI n) rfl).trans (Cf h)) rfl) (by omega)))).trans e
 unfold ko;rw[ay q6,ay q7,ay q8]
 by_cases c1:τ<hi
 ·rw[decide_eq_false (by omega)] at g
  rw[ay (eM g)];have c2:decide (τ<(((o.getD b 0:Int) -o.getD a 0) % n).toNat)=true:=decide_eq_true c1
  rw[c2,Bool.true_and]
  generalize hok:((List.range (((b:Int) -a) % n).toNat).all λk=> !(decide (0<k)&&pL n (o.getD a 0) (o.getD b 0) (o.getD ((a+k) % n) 0))&&(List.range (((o.getD b 0:Int) -o.getD a 0) % n).toNat).all λh'=> !lG (dW S O c a b τ ((a+k) % n) h') ((a+k) % n) ((o.getD a 0+h') % n))=v
  cases v with
  |true=>
   obtain⟨ρ',e,_⟩:=out.1 hok
   exact⟨ρ',(ay (fo e)).trans rfl⟩
  |false=>
   obtain⟨ρ',e⟩:=out.2 hok
   exact⟨ρ',gX (fo e)⟩
 ·rw[decide_eq_true (by omega)] at g
  have c2:decide (τ<(((o.getD b 0:Int) -o.getD a 0) % n).toNat)=false:=decide_eq_false c1
  rw[c2,Bool.false_and];exact⟨_,gX ((dN g).trans rfl)⟩
theorem qr(R:List Nat)(T:Nat):(R.filter λy=>decide (y∈[T]))=List.replicate (R.count T) T:=by
 rw[<-List.filter_beq];congr 1
 funext y;rw[Bool.eq_iff_iff];simp
theorem Cn {n:Nat}(h:0<n)(s e:Nat):(dM n s e).Nodup:=by
 unfold dM;have m:=wm ((e:Int) -s) h
 refine List.Pairwise.map (R:=λi j:Nat=>i<n/\j<n/\i≠j) _ (λi j hij e1=>?_) ?_
 ·obtain⟨h1,h2,h3⟩:=hij
  have d1:=Nat.div_add_mod (s+i) n
  have d2:=Nat.div_add_mod (s+j) n
  rw[e1] at d1;rcases Nat.lt_trichotomy ((s+i) / n) ((s+j) / n) with q|q|q
  ·have:n*((s+i) / n)+n<=n*((s+j) / n):=by rw[<-Nat.mul_succ];exact Nat.mul_le_mul_left _ q
   omega
  ·rw[q] at d1;omega
  ·have:n*((s+j) / n)+n<=n*((s+i) / n):=by rw[<-Nat.mul_succ];exact Nat.mul_le_mul_left _ q
   omega
 ·refine List.Pairwise.imp_of_mem (λ{i j} hi hj (hij:i≠j)=>⟨?_,?_,hij⟩) List.nodup_range
  ·have:=List.mem_range.mp hi;omega
  ·have:=List.mem_range.mp hj;omega
theorem D8 {n s e T:Nat}(hs:s<n)(hT:T<n)(ht:(((T:Int) -s) % n).toNat<(((e:Int) -s) % n).toNat):(dM n s e).getD (((T:Int) -s) % n).toNat 0=T:=by
 rw[qt ht];exact D6 hs hT
theorem yi {n s e T:Nat}(hs:s<n)(hT:T<n):T∈dM n s e↔(((T:Int) -s) % n).toNat<(((e:Int) -s) % n).toNat:=by
 rw[iL (by omega) hs,BD (by omega)]
 exact⟨λq=>q.2,λq=>⟨hT,q⟩⟩
theorem sY {n:Nat}{S:iy}{o:List Nat}(O:Ord n o){a b col T:Nat}(ha:a<n)(hb:b<n)(ne:a≠b)(hT:T<n){sides:List iy}{side:Nat->Nat->iy}(hcol:col∈dM n a b)(hS: ∀c h,c≠col->side c h=S)
 (hB: ∀h,side col h=sides.getD (if(((T:Int) -o.getD a 0) % n).toNat<h then 1 else 0) ([],[])):
 cU n S o a b col sides [T]=(decide ((((T:Int) -o.getD a 0) % n).toNat<(((o.getD b 0:Int) -o.getD a 0) % n).toNat)&&iO n o a b side):=by
 have h:0<n:=by omega
 have nd:=Cn h (o.getD a 0) (o.getD b 0)
 have la:=O.get ha
 unfold cU
 by_cases c1:(((T:Int) -o.getD a 0) % n).toNat<(((o.getD b 0:Int) -o.getD a 0) % n).toNat
 ·have m:=(yi (e:=o.getD b 0) la hT).mpr c1
  have g:=D8 (e:=o.getD b 0) la hT c1
  have c:=List.nodup_iff_count.mp nd T
  have c':=List.count_pos_iff.mpr m
  rw[decide_eq_true c1,qr,show(dM n (o.getD a 0) (o.getD b 0)).count T=1 by omega,decide_eq_true (by rfl),Bool.true_and,Bool.true_and]
  refine um O ha hb ne hcol hS λh hh=>?_
  rw[hB,qr,List.length_replicate,zy nd (by rw[og];exact c1) g]
 ·have m: ¬T∈dM n (o.getD a 0) (o.getD b 0):=λw=>c1 ((yi la hT).mp w)
  rw[decide_eq_false c1,qr,List.count_eq_zero.mpr m,decide_eq_false (by simp),Bool.false_and,Bool.false_and]
theorem xz {n c j:Nat}(hc:c+1<n)(hj:j<n)(ne:j≠c+1):c+1∈dM n (c+1) j:=by
 rw[iL (by omega) hc]
 refine⟨hc,?_⟩
 unfold pL;rw[decide_eq_true_eq,Int.sub_self,Int.zero_emod];have e:((j:Int) - (c+1:Nat)) % n=if c+1<=j then(j:Int) - (c+1:Nat) else(j:Int) - (c+1:Nat)+n:=by
  split
  ·exact Int.emod_eq_of_lt (by omega) (by omega)
  ·rw[<-Int.add_emod_right];exact Int.emod_eq_of_lt (by omega) (by omega)
 rw[e];split<;>omega
theorem za {n c j:Nat}(hc:c+1<n)(hj:j<n)(ne:j≠c+1):c∈dM n j (c+1):=by
 rw[iL (by omega) hj]
 refine⟨by omega,?_⟩
 unfold pL;rw[decide_eq_true_eq];have e1:((c:Int) -j) % n=if j<=c then(c:Int) -j else(c:Int) -j+n:=by
  split
  ·exact Int.emod_eq_of_lt (by omega) (by omega)
  ·rw[<-Int.add_emod_right];exact Int.emod_eq_of_lt (by omega) (by omega)
 have e2:(((c+1:Nat):Int) -j) % n=if j<=c+1 then((c+1:Nat):Int) -j else((c+1:Nat):Int) -j+n:=by
  split
  ·exact Int.emod_eq_of_lt (by omega) (by omega)
  ·rw[<-Int.add_emod_right];exact Int.emod_eq_of_lt (by omega) (by omega)
 rw[e1,e2];split<;>split<;>omega
theorem ue {n:Nat}{S O:iy}{o:List Nat}(Oo:Ord n o){c j T:Nat}(hc:c+1<n)(hj:j<n)(ne:j≠c+1)(hT:T<n):
 cU n S o (c+1) j (c+1) [S,O] [T]=(decide ((((T:Int) -o.getD (c+1) 0) % n).toNat<(((o.getD j 0:Int) -o.getD (c+1) 0) % n).toNat)&&iO n o (c+1) j (dW S O c (c+1) j (((T:Int) -o.getD (c+1) 0) % n).toNat)):=by
 refine sY Oo hc hj (Ne.symm ne) hT (xz hc hj ne) (λc' h hne=>?_) λh=>?_
 ·unfold dW oi
  rw[decide_eq_false hne,decide_eq_false ne];simp
 ·unfold dW oi
  rw[decide_eq_false ne]
  by_cases e:(((T:Int) -o.getD (c+1) 0) % n).toNat<h
  ·rw[if_pos e,decide_eq_true e];simp
  ·rw[if_neg e,decide_eq_false e];simp
theorem xr {n:Nat}{S O:iy}{o:List Nat}(Oo:Ord n o){c j T:Nat}(hc:c+1<n)(hj:j<n)(ne:j≠c+1)(hT:T<n):
 cU n S o j (c+1) c [O,S] [T]=(decide ((((T:Int) -o.getD j 0) % n).toNat<(((o.getD (c+1) 0:Int) -o.getD j 0) % n).toNat)&&iO n o j (c+1) (dW S O c j (c+1) (((T:Int) -o.getD j 0) % n).toNat)):=by
 refine sY Oo hj hc ne hT (za hc hj ne) (λc' h hne=>?_) λh=>?_
 ·unfold dW oi
  rw[decide_eq_false hne,decide_eq_false ne];simp
 ·unfold dW oi
  rw[decide_eq_false ne]
  by_cases e:(((T:Int) -o.getD j 0) % n).toNat<h
  ·rw[if_pos e,decide_eq_false (show¬(h<=(((T:Int) -o.getD j 0) % n).toNat) by omega)];simp
  ·rw[if_neg e,decide_eq_true (show h<=_ by omega)];simp
def zs(l:List Nat):List Int:=l.map Int.ofNat
theorem y0(l:List Nat):ax l=cX (zs l):=by unfold ax cX zs;rw[List.map_map];rfl
theorem oN(L:List (List Nat)):L.map ax=(L.map zs).map cX:=by rw[List.map_map];exact List.map_congr_left λl _=>y0 l
theorem BA(l:List Nat):gQ (l.map nI)=some (zs l):=by
 have:=iq (zs l)
 unfold zs at this⊢;rw[List.map_map] at this;exact this
def Am(n:Nat)(P Q:List Nat->Nat->Bool)(i:Nat)(o:List Nat):List (List Nat):=pD n (P o) (Q o) o i
def sI(n:Nat)(P Q:List Nat->Nat->Bool)(i:Nat)(cr:List (List Nat)):List (List Int):=(cr.flatMap (Am n P Q i)).map zs
theorem tX(P Q:Nat->Bool)(o:List Nat)(i j:Nat):(jd P Q o i j).length<=2:=by unfold jd;split<;>split<;>simp
theorem yo {P Q:Nat->Bool}{j:Nat}(h: ¬(P j=true/\Q j=true))(o:List Nat)(i:Nat):(jd P Q o i j).length<=1:=by
 unfold jd;cases e1:P j<;>cases e2:Q j<;>cases e3:decide (j≠i)<;>simp_all
theorem kT {α β:Type}(f:α->List β)(m:Nat): ∀l:List α,(∀x∈l,(f x).length<=m)->(l.flatMap f).length<=m*l.length
 | [],_=>by simp
 |x::l,h=>by
  rw[List.flatMap_cons,List.length_append,List.length_cons,Nat.mul_succ];have:=kT f m l λy hy=>h y (by simp[hy])
  have:=h x (by simp)
  omega
theorem vo {n:Nat}{P Q:List Nat->Nat->Bool}{i:Nat}{cr:List (List Nat)}(hn:n<=5)(hcl:cr.length<=8)(hPQ: ∀o∈cr,∀j,j<n-> ¬(P o j=true/\Q o j=true)):(sI n P Q i cr).length<=40:=by
 unfold sI;rw[List.length_map];have:=kT (Am n P Q i) 5 cr λo ho=>by
  have:=kT (jd (P o) (Q o) o i) 1 (List.range n) λj hj=>yo (hPQ o ho j (List.mem_range.mp hj)) o i
  rw[List.length_range] at this;show(pD n (P o) (Q o) o i).length<=5;unfold pD;omega
 omega
theorem vX(o:List Nat)(a b:Nat):(lF o a b).length=o.length:=by unfold lF;simp
theorem Ad {n:Nat}{P Q:List Nat->Nat->Bool}{i:Nat}{cr:List (List Nat)}(h0:0<n)(hO: ∀o∈cr,Ord n o): ∀k∈sI n P Q i cr,k≠[]:=by
 intro k hk;unfold sI at hk;obtain⟨w,hw,rfl⟩:=List.mem_map.mp hk
 obtain⟨o,ho,hw⟩:=List.mem_flatMap.mp hw
 unfold Am pD at hw;obtain⟨j,_,hw⟩:=List.mem_flatMap.mp hw
 have hl:w.length=n:=by
  rw[<-(hO o ho).len];unfold jd at hw;rcases List.mem_append.mp hw with q|q
  ·split at q
   ·rw[List.mem_singleton] at q;rw[q,vX]
   ·simp at q
  ·split at q
   ·rw[List.mem_singleton] at q;rw[q,vX]
   ·simp at q
 intro e;have:=congrArg List.length e
 unfold zs at this;simp at this;rw[this] at hl;simp at hl;omega
def FR:FS:=cP (cx (aX (ak lh (ag 6) (ak aO (ag 1) (aA (.int 1))))) (dD (ao (nF 6 bX) (aa (ag 0) (aa (ag 3) (aa (ag 1) (aa (ag 5) (aa (ag 7) (aa (ag 8) (ai)))))))))) (aB (ga 9 (ao mP (aa (ag 5) (ai))))
 (aB (cv (gT 2 (eV (bW 9 (ag 7)) (eV (bW 9 (ag 8)) (jI)))) (pu (cw (aa (ak aP (ag 5) (ag 8)) (aa (ak aP (ag 5) (ag 7)) (ai))))))
 (pk 4 (hJ (cV 9)) (rN (gI (aX (oa 4 (hJ (cV 9)) (aA (.bl false))))))))) (skip)
def Ee:FS:=dI (bL (df (cg (aa (cw (aa (ak aO (ag 1) (aA (.int 1))) (aa (ag 6) (ai)))) (aa (cw (aa (ag 6) (aa (ak aO (ag 1) (aA (.int 1))) (ai)))) (ai)))))) (gT 2 (eV (gN 7) (eV (gN 8) (jI)))) FR
def Gs:FS:=dI (bL (cS (aa (ao cW (aa (ag 5) (ai))) (ai)))) (gN 6) Ee
section
variable {n:Nat}{S O:iy}{c:Nat}{P Q:List Nat->Nat->Bool}(hn4:4<=n)(hn:n<=5)(hc:c+1<n)
 (hP: ∀o,Ord n o-> ∀j,j<n->j≠c+1->bX [bu S,bu O,nI c,ax o,nI (c+1),nI j]=some (.bl (P o j)))
 (hQ: ∀o,Ord n o-> ∀j,j<n->j≠c+1->bX [bu S,bu O,nI c,ax o,nI j,nI (c+1)]=some (.bl (Q o j)))
include hn4 hn hc
theorem sD(C:D){o:List Nat}(Oo:Ord n o){kvs:rK}{ks:List (List Int)}(I:PInv kvs ks)(hl:ks.length<=900){j a b:Nat}(ha:a<n)(hb:b<n){v:Bool}(hv:j≠c+1->bX [bu S,bu O,nI c,ax o,nI a,nI b]=some (.bl v))(s9:Sl):
 ∃kvs' s9',FR [.v (bu S),.v (nI c),.v C,.v (bu O),.ob (.dT kvs),.v (ax o),.v (nI j),.v (nI a),.v (nI b),s9]=.nx [.v (bu S),.v (nI c),.v C,.v (bu O),.ob (.dT kvs'),.v (ax o),.v (nI j),.v (nI a),.v (nI b),s9']/\PInv kvs' (ks++(if(decide (j≠c+1)&&v)=true then [lF o a b] else []).map zs):=by
 have ol:=Oo.len
 let st:rK->Sl->aF:=λkvs s9=>[.v (bu S),.v (nI c),.v C,.v (bu O),.ob (.dT kvs),.v (ax o),.v (nI j),.v (nI a),.v (nI b),s9]
 have ne:aX (ak lh (ag 6) (ak aO (ag 1) (aA (.int 1)))) (st kvs s9)=some (decide (j≠c+1)):=by
  refine bf ((au (x:=nI j) rfl ((au (x:=nI c) (y:=.int 1) rfl rfl).trans (mV c))).trans ?_)
  rw[kh (by rw[gk];omega),jk]
  congr 2
  rw[Bool.eq_iff_iff];simp
 have w:cx (aX (ak lh (ag 6) (ak aO (ag 1) (aA (.int 1))))) (dD (ao (nF 6 bX) (aa (ag 0) (aa (ag 3) (aa (ag 1) (aa (ag 5) (aa (ag 7) (aa (ag 8) (ai))))))))) (st kvs s9)=some (decide (j≠c+1)&&v):=
  ng ne (λz=>by
   rw[z,Bool.true_and];exact fW ((bT (ds:=[bu S,bu O,nI c,ax o,nI a,nI b]) rfl rfl).trans (hv (of_decide_eq_true z)))) (λz=>by rw[z];rfl)
 cases e:(decide (j≠c+1)&&v) with
 |false=>
  rw[e] at w;refine⟨kvs,s9,eM w,?_⟩
  rw[if_neg (by decide),List.map_nil,List.append_nil];exact I
 |true=>
  rw[e] at w;have q1:ga 9 (ao mP (aa (ag 5) (ai))) (st kvs s9)=.nx (st kvs (.own (o.map nI))):=(iN (ds:=o.map nI) rfl).trans rfl
  have q2:cv (gT 2 (eV (bW 9 (ag 7)) (eV (bW 9 (ag 8)) (jI)))) (pu (cw (aa (ak aP (ag 5) (ag 8)) (aa (ak aP (ag 5) (ag 7)) (ai))))) (st kvs (.own (o.map nI)))=.nx (st kvs (.own ((lF o a b).map nI))):=by
   refine fX (ge (cG (av ((au (x:=ax o) (y:=nI b) rfl rfl).trans (cK (by omega))) (av ((au (x:=ax o) (y:=nI a) rfl rfl).trans (cK (by omega))) rfl)) (by simp))) ?_
   simp only[gT,List.length_cons,List.length_nil,eV];rw[iz (bs:=o.map nI) (j:=a) rfl rfl (by simp;omega)]
   simp only[Option.bind_some];rw[iz (bs:=(o.map nI).set a (nI (o.getD b 0))) (j:=b) rfl rfl (by simp;omega)]
   simp only[Option.bind_some,jI,kQ];rfl
  have ky:hJ (cV 9) (st kvs (.own ((lF o a b).map nI)))=some (zs (lF o a b)):=BA _
  have vl:rN (gI (aX (oa 4 (hJ (cV 9)) (aA (.bl false))))) (st kvs (.own ((lF o a b).map nI)))=some (.bl (match fP kvs (iK (zs (lF o a b))) with|some (.bl b)=> !b|_=>true)):=by
   have dg:oa 4 (hJ (cV 9)) (aA (.bl false)) (st kvs (.own ((lF o a b).map nI)))=some ((fP kvs (iK (zs (lF o a b)))).getD (.bl false)):=by
    unfold oa;show(some kvs).bind _=_;rw[Option.bind_some,ky,Option.bind_some];rfl
   by_cases m:zs (lF o a b)∈ks
   ·rw[I.val _ m] at dg⊢
    exact ki (iR (bf dg))
   ·rw[I.non _ m] at dg⊢
    exact ki (iR (b:=false) (bf dg))
  have q3:pk 4 (hJ (cV 9)) (rN (gI (aX (oa 4 (hJ (cV 9)) (aA (.bl false)))))) (st kvs (.own ((lF o a b).map nI)))=.nx (st (xt kvs (zs (lF o a b))) (.own ((lF o a b).map nI))):=by
   unfold pk;rw[show rZ 4 (st kvs (.own ((lF o a b).map nI)))=some kvs from rfl];dsimp only;rw[vl];dsimp only;rw[ky];dsimp only;rw[if_pos (by have:=I.len;omega)]
   rfl
  refine⟨_,_,(dN w).trans ((ay q1).trans ((ay q2).trans q3)),?_⟩
  rw[if_pos rfl];exact I.step _
include hP hQ
theorem Aq(C:D){o:List Nat}(Oo:Ord n o){kvs:rK}{ks:List (List Int)}(I:PInv kvs ks)(hl:ks.length<=800){j:Nat}(hj:j<n)(s7 s8 s9:Sl):
 ∃kvs' s7' s8' s9',Ee [.v (bu S),.v (nI c),.v C,.v (bu O),.ob (.dT kvs),.v (ax o),.v (nI j),s7,s8,s9]=.nx [.v (bu S),.v (nI c),.v C,.v (bu O),.ob (.dT kvs'),.v (ax o),.v (nI j),s7',s8',s9']/\PInv kvs' (ks++(jd (P o) (Q o) o (c+1) j).map zs):=by
 obtain⟨k1,t9,e1,I1⟩:=sD (S:=S) (O:=O) hn4 hn hc C Oo I (by omega) (j:=j) (a:=c+1) (b:=j) hc hj (λne=>hP o Oo j hj ne) s9
 have l1:(ks++(if(decide (j≠c+1)&&P o j)=true then [lF o (c+1) j] else []).map zs).length<=900:=by
  rw[List.length_append,List.length_map];split<;>simp<;>omega
 obtain⟨k2,u9,e2,I2⟩:=sD (S:=S) (O:=O) hn4 hn hc C Oo I1 l1 (j:=j) (a:=j) (b:=c+1) hj hc (λne=>hQ o Oo j hj ne) t9
 have q:bL (df (cg (aa (cw (aa (ak aO (ag 1) (aA (.int 1))) (aa (ag 6) (ai)))) (aa (cw (aa (ag 6) (aa (ak aO (ag 1) (aA (.int 1))) (ai)))) (ai))))) [.v (bu S),.v (nI c),.v C,.v (bu O),.ob (.dT kvs),.v (ax o),.v (nI j),s7,s8,s9]=some ([.tup [nI (c+1),nI j],.tup [nI j,nI (c+1)]],[.v (bu S),.v (nI c),.v C,.v (bu O),.ob (.dT kvs),.v (ax o),.v (nI j),s7,s8,s9]):=
  br (fY (dJ (av (cG (av ((au (x:=nI c) (y:=.int 1) rfl rfl).trans (mV c)) rfl) (by simp)) (av (cG (av rfl (av ((au (x:=nI c) (y:=.int 1) rfl rfl).trans (mV c)) rfl)) (by simp)) rfl)) (by simp)))
 refine⟨k2,_,_,u9,(cH q).trans ((cb (ρ1:=[.v (bu S),.v (nI c),.v C,.v (bu O),.ob (.dT kvs),.v (ax o),.v (nI j),.v (nI (c+1)),.v (nI j),s9]) rfl e1).trans ((cb (ρ1:=[.v (bu S),.v (nI c),.v C,.v (bu O),.ob (.dT k1),.v (ax o),.v (nI j),.v (nI j),.v (nI (c+1)),t9]) rfl e2).trans rfl)),?_⟩
 unfold jd;rw[List.map_append,<-List.append_assoc];exact I2
theorem wN(C:D){o:List Nat}(Oo:Ord n o){kvs:rK}{ks:List (List Int)}(I:PInv kvs ks)(hl:ks.length<=600)(s6 s7 s8 s9:Sl):
 ∃kvs' s6' s7' s8' s9',Gs [.v (bu S),.v (nI c),.v C,.v (bu O),.ob (.dT kvs),.v (ax o),s6,s7,s8,s9]=.nx [.v (bu S),.v (nI c),.v C,.v (bu O),.ob (.dT kvs'),.v (ax o),s6',s7',s8',s9']/\PInv kvs' (ks++(Am n P Q (c+1) o).map zs):=by
 obtain⟨ρ',hf,kvs',s6',s7',s8',s9',rfl,I'⟩:=qR (g:=gN 6) (b:=Ee) (P:=λj ρ=> ∃kvs' s6' s7' s8' s9',ρ=[.v (bu S),.v (nI c),.v C,.v (bu O),.ob (.dT kvs'),.v (ax o),s6',s7',s8',s9']/\PInv kvs' (ks++((List.range j).flatMap (jd (P o) (Q o) o (c+1))).map zs)) n 0 (λj ρ _ hj hρ=>by
  obtain⟨kvs',s6',s7',s8',s9',rfl,I'⟩:=hρ
  rw[Nat.zero_add] at hj;have fl:=kT (jd (P o) (Q o) o (c+1)) 2 (List.range j) λi _=>tX _ _ _ _ _
  rw[List.length_range] at fl;obtain⟨k2,t7,t8,t9,e,I2⟩:=Aq hn4 hn hc hP hQ C Oo I' (by rw[List.length_append,List.length_map];omega) hj s7' s8' s9'
  refine⟨_,_,rfl,e,k2,_,_,_,_,rfl,?_⟩
  rw[List.range_succ,List.flatMap_append,List.flatMap_singleton,List.map_append,<-List.append_assoc];exact I2) [.v (bu S),.v (nI c),.v C,.v (bu O),.ob (.dT kvs),.v (ax o),s6,s7,s8,s9] ⟨_,_,_,_,_,rfl,by simpa using I⟩
 rw[Nat.zero_add] at I';refine⟨kvs',s6',s7',s8',s9',(cH (ds:=(List.range n).map nI) (br (fS (n:=n) (av ((gy o _ _ rfl).trans (by rw[Oo.len])) rfl) (by omega)))).trans (by rw[List.range_eq_range'];exact hf),I'⟩
theorem pE(C:D): ∀(cr:List (List Nat)) (kvs:rK) (ks:List (List Int)) (s5 s6 s7 s8 s9:Sl),(∀o∈cr,Ord n o)->PInv kvs ks->ks.length+10*cr.length<=500->
 ∃kvs' s5' s6' s7' s8' s9',cD (gN 5) Gs (cr.map ax) [.v (bu S),.v (nI c),.v C,.v (bu O),.ob (.dT kvs),s5,s6,s7,s8,s9]=.nx [.v (bu S),.v (nI c),.v C,.v (bu O),.ob (.dT kvs'),s5',s6',s7',s8',s9']/\PInv kvs' (ks++sI n P Q (c+1) cr)
 | [],kvs,ks,s5,s6,s7,s8,s9,_,I,_=>⟨kvs,_,_,_,_,_,rfl,by unfold sI;simpa using I⟩
 |o::cr,kvs,ks,s5,s6,s7,s8,s9,hO,I,hl=>by
  rw[List.length_cons] at hl;obtain⟨k1,t6,t7,t8,t9,e1,I1⟩:=wN hn4 hn hc hP hQ C (hO o (by simp)) I (by omega) s6 s7 s8 s9
  have fl:(Am n P Q (c+1) o).length<=10:=by
   have fl:=kT (jd (P o) (Q o) o (c+1)) 2 (List.range n) λi _=>tX _ _ _ _ _
   rw[List.length_range] at fl;unfold Am pD;omega
  obtain⟨k2,u5,u6,u7,u8,u9,e2,I2⟩:=pE C cr k1 _ (.v (ax o)) t6 t7 t8 t9 (λo ho=>hO o (by simp[ho])) I1 (by rw[List.length_append,List.length_map];omega)
  refine⟨k2,u5,u6,u7,u8,u9,(cb (ρ1:=[.v (bu S),.v (nI c),.v C,.v (bu O),.ob (.dT kvs),.v (ax o),s6,s7,s8,s9]) rfl e1).trans e2,?_⟩
  unfold sI at I2⊢;rw[List.flatMap_cons,List.map_append,<-List.append_assoc];exact I2
theorem Bk(hsw:dS [bu S,nI c]=some (bu O)){cr:List (List Nat)}(hcl:cr.length<=8)(hO: ∀o∈cr,Ord n o)(hPQ: ∀o∈cr,∀j,j<n-> ¬(P o j=true/\Q o j=true)):
 h9 [bu S,nI c,.lst (cr.map ax)]=some (.lst ((lO (sI n P Q (c+1) cr)).map cX)):=by
 obtain⟨kvs,s5,s6,s7,s8,s9,e,I⟩:=pE hn4 hn hc hP hQ (.lst (cr.map ax)) cr [] [] .no .no .no .no .no hO .start (by simp;omega)
 rw[List.nil_append] at I;have hl:=vo (i:=c+1) hn hcl hPQ
 obtain⟨l,i1,i2,i3,i4,i5⟩:=I.srt
 have kl:=I.len
 apply bZ (kd:=.n) (n:=10) (t:=lQ)
 unfold lQ;refine(ay (ρ':=[.v (bu S),.v (nI c),.v (.lst (cr.map ax)),.v (bu O),.no,.no,.no,.no,.no,.no]) ((bc ((bT (ds:=[bu S,nI c]) rfl rfl).trans hsw)).trans rfl)).trans ?_
 refine(ay (ρ':=[.v (bu S),.v (nI c),.v (.lst (cr.map ax)),.v (bu O),.ob (.dT []),.no,.no,.no,.no,.no]) rfl).trans ?_
 refine(ay ((cH (br (fY rfl))).trans e)).trans ?_
 show ba _ [.v (bu S),.v (nI c),.v (.lst (cr.map ax)),.v (bu O),.ob (.dF kvs),s5,s6,s7,s8,s9]=_;refine bF ?_
 have c1:cy 1 (we 4) (gN 10) (dD (CW 4 (ag 10))) (ag 10) [.v (bu S),.v (nI c),.v (.lst (cr.map ax)),.v (bu O),.ob (.dF kvs),s5,s6,s7,s8,s9]=some (.lst ((l.filter λz=>decide (((sI n P Q (c+1) cr).count z) % 2=1)).map cX)):=by
  refine gv (ds:=l.map cX) ?_ (by rw[List.length_map];omega) (gp (h:=cX) (o:=cX) l λz hz=>⟨_,rfl,?_,λ_=>rfl⟩)
  ·unfold we
   show(some kvs).bind _=_;rw[Option.bind_some,i1];rfl
  ·refine fW ?_
   unfold CW;show(some kvs).bind _=_;rw[Option.bind_some];show((some (cX z)).bind rV).bind _=_;rw[Option.bind_some,show rV (cX z)=some z from iq z,Option.bind_some];exact i3 z hz
 rw[bS (av c1 rfl),C7 (by have:=List.length_filter_le (λz=>decide (((sI n P Q (c+1) cr).count z) % 2=1)) l;omega) (λk hk=>Ad (by omega) hO k (i2 k (List.mem_filter.mp hk).1)),i4]
end
theorem E5(K:List (List Int))(k:List Int):gd true (cX k) (.lst (K.map cX))=some (.bl (!decide (k∈K))):=by
 have q:=IM K k
 have d:=qF K
 unfold gd kf at q⊢;dsimp only at q⊢;rw[if_pos (by omega)] at q⊢
 injection q with q
 injection q with q
 rw[<-q];rfl
theorem xh {N:Nat}{a b:Int}(B:Bag N a b)(hN:N<=100000){n:Nat}(h0:0<n)(hn:n<=8): ∃(cr:List (List Nat)) (bg:List D),gM (aG a b) [nI n]=some (.lst (cr.map ax),bg)/\cr.length<=8/\ ∀o∈cr,Ord n o:=by
 obtain⟨d,a1,b1,e1,B1,d0,d1⟩:=kX (m:=9) B (by omega) (by decide) (by decide)
 obtain⟨m,rfl⟩: ∃m:Nat,d=m:=⟨d.toNat,by omega⟩
 have q1:ga 2 (cg (ai)) (nT 5 (aG a b) [nI n])=.nx [.arg (aG a b),.v (nI n),.own [],.no,.no]:=(iN (dJ rfl (by simp))).trans rfl
 have q2:zO (dc (aN 0 1 aS (bL (aa (aA (.int 9)) (ai)))) (bL (ai))) [.arg (aG a b),.v (nI n),.own [],.no,.no]=some (o6 0 m,[.arg (aG a1 b1),.v (nI n),.own (([]:List (List Nat)).map ax),.no,.no]):=by
  have:dc (aN 0 1 aS (bL (aa (aA (.int 9)) (ai)))) (bL (ai)) [.arg (aG a b),.v (nI n),.own [],.no,.no]=some ([.int m],[.arg (aG a1 b1),.v (nI n),.own (([]:List (List Nat)).map ax),.no,.no]):=
   fQ (cM (i:=0) (n:=1) (b0:=aG a b) (ds:=[.int 9]) rfl (br rfl) rfl rfl e1) rfl
  unfold zO;rw[this];show(if(m:Int).natAbs<4000000000 then _ else _)=_
  rw[if_pos (by omega),Int.toNat_natCast]
 have ul:(o6 0 m).length=m:=by unfold o6;simp
 obtain⟨ρ',lp,L,a',b',s3,s4,hL,hO,B',rfl⟩:=sh (g:=gN 3) (b:=aB (je 4 (gt gW (dc (aN 0 1 bh (bL (aa (ag 1) (ai)))) (bL (ai)))))
  (cP (aX (ak (gd true) (ag 4) (cV 2))) (ca (aN 2 1 gH (bL (aa (ag 4) (ai))))) (skip)))
  (P:=λi ρ=> ∃(L:List (List Nat)) (a' b':Int) (s3 s4:Sl),L.length<=i/\(∀o∈L,Ord n o)/\Bag (N+1+n*i) a' b'/\ρ=[.arg (aG a' b'),.v (nI n),.own (L.map ax),s3,s4]) (o6 0 m) 0 (λd hd i ρ hi hρ=>by
    obtain⟨L,a',b',s3,s4,hL,hO,B',rfl⟩:=hρ
    have hi:i<m:=by rw[ul] at hi;omega
    have hm:n*i<=8*8:=Nat.mul_le_mul hn (by omega)
    obtain⟨o,a2,b2,e2,Oo,B2⟩:=nW B' (n:=n) (by omega) (by omega)
    have t1:je 4 (gt gW (dc (aN 0 1 bh (bL (aa (ag 1) (ai)))) (bL (ai)))) [.arg (aG a' b'),.v (nI n),.own (L.map ax),.v d,s4]=.nx [.arg (aG a2 b2),.v (nI n),.own (L.map ax),.v d,.v (ax o)]:=
     (jW (nE (ds:=[.lst (o.map nI)]) (d:=ax o) (fQ (cM (i:=0) (n:=1) (b0:=aG a' b') (ds:=[nI n]) rfl (br rfl) rfl rfl e2) rfl) rfl)).trans rfl
    have t2:aX (ak (gd true) (ag 4) (cV 2)) [.arg (aG a2 b2),.v (nI n),.own (L.map ax),.v d,.v (ax o)]=some (!decide (zs o∈L.map zs)):=bf ((au (x:=ax o) (y:=.lst (L.map ax)) rfl rfl).trans (by rw[y0,oN];exact E5 _ _))
    have B3:Bag (N+1+n*(i+1)) a2 b2:=by rw[Nat.mul_succ,<-Nat.add_assoc];exact B2
    by_cases c:zs o∈L.map zs
    ·rw[decide_eq_true c] at t2
     exact⟨_,_,rfl,(ay t1).trans (eM t2),L,a2,b2,_,_,by omega,hO,B3,rfl⟩
    ·rw[decide_eq_false c] at t2
     refine⟨_,_,rfl,(ay t1).trans ((dN t2).trans (oI (i:=2) (b0:=L.map ax) (bs:=L.map ax) (d:=ax o) rfl (br rfl) rfl (by rw[List.length_map];omega))),L++[o],a2,b2,_,_,by simp;omega,λu hu=>?_,B3,by rw[List.map_append];rfl⟩
     rcases List.mem_append.mp hu with q|q
     ·exact hO u q
     ·rw[List.mem_singleton] at q;rw[q];exact Oo) [.arg (aG a1 b1),.v (nI n),.own (([]:List (List Nat)).map ax),.no,.no] ⟨[],a1,b1,.no,.no,by simp,by simp,by simpa using B1,rfl⟩
 rw[ul] at hL;have hs:=C7 (ks:=L.map zs) (by rw[List.length_map];omega) (λk hk=>by
  obtain⟨o,ho,rfl⟩:=List.mem_map.mp hk
  intro e;have l1:=(hO o ho).len
  have:=congrArg List.length e
  unfold zs at this;simp at this;rw[this] at l1;simp at l1;omega)
 obtain⟨cr,p,e⟩:=nC zs (dq (lt:=cm) (L.map zs)) L rfl
 refine⟨cr,aG a' b',?_,by rw[p.length_eq];omega,λo ho=>hO o (p.mem_iff.mp ho)⟩
 refine Fa (kd:=.n) (n:=5) (t:=jh) (ρ:=[.arg (aG a' b'),.v (nI n),.own (L.map ax),s3,s4]) ?_ rfl
 unfold jh;refine(ay q1).trans ((ay ((cH q2).trans lp)).trans (bF ((bS (ds:=[.lst (L.map ax)]) rfl).trans ?_)))
 rw[oN,hs,e,<-oN]
theorem wb {n:Nat}{S:iy}{o:List Nat}(Oo:Ord n o){a b col:Nat}(ha:a<n){sides:List iy}{turns:List Nat}(h:cU n S o a b col sides turns=true){T:Nat}(hT:T∈turns):T<n/\pL n (o.getD a 0) (o.getD b 0) T=true:=by
 unfold cU at h;rw[Bool.and_eq_true] at h;have e:=of_decide_eq_true h.1
 rw[<-e] at hT;exact(iL (by omega) (Oo.get ha) _ _).mp (List.mem_filter.mp hT).1
theorem E3: ∀n,n<=5-> ∀a,a<n-> ∀b,b<n-> ∀x,x<n-> ¬(pL n a b x=true/\pL n b a x=true):=by decide+kernel
theorem zY {n:Nat}(hn:n<=5){S S':iy}{o:List Nat}(Oo:Ord n o){a b col col':Nat}(ha:a<n)(hb:b<n){s1 s2:List iy}{t1 t2:List Nat}{T:Nat}(h1:T∈t1)(h2:T∈t2): ¬(cU n S o a b col s1 t1=true/\cU n S' o b a col' s2 t2=true):=λhq_=>by
 obtain⟨q1,q2⟩:=hq_
 obtain⟨hT,i1⟩:=wb Oo ha q1 h1
 obtain⟨_,i2⟩:=wb Oo hb q2 h2
 exact E3 n hn _ (Oo.get ha) _ (Oo.get hb) T hT ⟨i1,i2⟩
theorem AQ: ∀(c:Nat) (l:List Nat),c+1<l.length->lF l c (c+1)=oR l c
 |0,a::b::l,_=>rfl
 |c+1,a::l,h=>by
  rw[List.length_cons] at h;have:=AQ c l (by omega)
  unfold lF oR at this⊢;rw[List.set_cons_succ,List.set_cons_succ,List.take_succ_cons,List.drop_succ_cons,List.cons_append,List.cons_append];exact congrArg (a:: ·) this
 |0,[],h=>by simp at h
 |0,[_],h=>by simp at h
 |_+1,[],h=>by simp at h
theorem EU {n:Nat}{r x:List Nat}{c:Nat}(hr:r.length=n)(hx:x.length=n)(hc:c+1<n)(h4:n<=6)(h:NI n (r.getD c 0) (x.getD c 0) (r.getD (c+1) 0) (x.getD (c+1) 0)):cT [fM r x,nI c]=some (fM (oR r c) (oR x c)):=by
 have hm:zm r x (c:Int)=true:=by
  unfold zm EW;rw[Int.toNat_natCast];have n1:=h.ni
  unfold kb at n1;unfold C5;rw[n1];simp only[Bool.and_eq_true,decide_eq_true_eq,beq_self_eq_true,Bool.not_eq_true',Bool.or_eq_false_iff,decide_eq_false_iff_not];exact⟨⟨by omega,by omega⟩,⟨⟨h.ap,h.aq⟩,h.bp,h.bq⟩,trivial⟩
 have p1:gI (dD (ao (nF 2 gj) (aa (ag 0) (aa (ag 1) (ai))))) (ij 4 [fM r x,nI c])=some (!zm r x c):=iR (fW ((bT (ds:=[fM r x,nI c]) rfl rfl).trans (Cs hr hx (by omega) h4 c)))
 rw[hm] at p1;have a1: ∀(i:Nat) (l:List Nat),l.length=n->ag i [.v (fM r x),.v (nI c),.v (ax r),.v (ax x)]=some (ax l)->ao (nF 3 bw) (aa (ag i) (aa (ag 1) (aa (ak aO (ag 1) (aA (.int 1))) (ai)))) [.v (fM r x),.v (nI c),.v (ax r),.v (ax x)]=some (ax (oR l c)):=λi l hl hi=>by
  rw[<-AQ c l (by omega)]
  exact(bT (ds:=[ax l,nI c,nI (c+1)]) (av hi (av rfl (av ((au (x:=nI c) (y:=.int 1) rfl rfl).trans (mV c)) rfl))) rfl).trans (vB hl (by omega) hc)
 apply bZ (kd:=.s) (n:=4) (t:=eX) (ρ:=[.v (fM r x),.v (nI c),.v (ax r),.v (ax x)])
 unfold eX;exact(ay (eM p1)).trans ((ay (ρ':=[.v (fM r x),.v (nI c),.v (ax r),.v (ax x)]) (fX (ge rfl) rfl)).trans (bF (cG (av (a1 2 r hr rfl) (av (a1 3 x hx rfl) rfl)) (by simp))))
theorem AN {n:Nat}{S:iy}{c:Nat}{rs ls:List iy}{rt lt:List Nat}(hn4:4<=n)(hn:n<=5)(hS:Ln n S)(hc:c+1<n)(hrs: ∀S∈rs,Ln n S)(hls: ∀S∈ls,Ln n S)(hrt:rt.length<rs.length)(hlt:lt.length<ls.length){cr:List (List Nat)}(hO: ∀o∈cr,Ord n o)
 (hl:(sI n (λo j=>cU n S o (c+1) j (c+1) rs rt) (λo j=>cU n S o j (c+1) c ls lt) (c+1) cr).length<=40) {i5 i6 i7 i8:Nat} {ρ:aF}
 (hg: ∀o,∃ρ1,gN i7 (ax o) (ρ++[.no,.no])=some ρ1/\aa (ag 0) (aa (ag 1) (aa (ag i7) (aa (ag i5) (aa (ag i6) (ai))))) ρ1=some [bu S,nI c,ax o,dX rs rt,dX ls lt]/\ ∀e,∃ρ2,gN i8 (ax e) ρ1=some ρ2/\ag i8 ρ2=some (ax e))
 (h2:ag 2 ρ=some (.lst (cr.map ax))):
 ao (nF 1 fL) (aa (pc 2 (df (ag 2)) (gN i7) (ft) (df (ao (nF 5 eS) (aa (ag 0) (aa (ag 1) (aa (ag i7) (aa (ag i5) (aa (ag i6) (ai)))))))) (gN i8) (ft) (ag i8)) (ai)) ρ=some (.lst ((lO (sI n (λo j=>cU n S o (c+1) j (c+1) rs rt) (λo j=>cU n S o j (c+1) c ls lt) (c+1) cr)).map cX)):=by
 let P:List Nat->Nat->Bool:=λo j=>cU n S o (c+1) j (c+1) rs rt
 let Q:List Nat->Nat->Bool:=λo j=>cU n S o j (c+1) c ls lt
 have hl':=hl
 unfold sI at hl';rw[List.length_map] at hl';have cp:pc 2 (df (ag 2)) (gN i7) (ft) (df (ao (nF 5 eS) (aa (ag 0) (aa (ag 1) (aa (ag i7) (aa (ag i5) (aa (ag i6) (ai)))))))) (gN i8) (ft) (ag i8) ρ=some (.lst ((sI n P Q (c+1) cr).map cX)):=by
  have e:(sI n P Q (c+1) cr).map cX=cr.flatMap λo=>(Am n P Q (c+1) o).map ax:=by
   unfold sI;rw[<-oN,List.map_flatMap]
  rw[e];refine vT (ds:=cr.map ax) (fY h2) ?_ (by rw[<-List.map_flatMap,List.length_map];exact Nat.le_trans hl' (by omega))
  refine(lB (h:=ax) (q:=λ_=>true) (o:=λo=>(Am n P Q (c+1) o).map ax) cr λo ho=>?_).trans ?_
  ·obtain⟨ρ1,g1,g2,g3⟩:=hg o
   refine⟨ρ1,g1,rfl,λ_=>?_⟩
   refine zI (ds:=(Am n P Q (c+1) o).map ax) (fY ((bT g2 rfl).trans (A9 (by omega) (by omega) hS (hO o ho).len hc hrs hls hrt hlt))) ?_
   refine(lB (h:=ax) (q:=λ_=>true) (o:=λe=>[ax e]) (Am n P Q (c+1) o) λe _=>?_).trans ?_
   ·obtain⟨ρ2,g4,g5⟩:=g3 e
    exact⟨ρ2,g4,rfl,λ_=>wj g5⟩
   ·rw[List.filter_eq_self.mpr λ_ _=>rfl]
    congr 1
    induction Am n P Q (c+1) o with
    |nil=>rfl
    |cons y l ih=>rw[List.flatMap_cons,ih];rfl
  ·rw[List.filter_eq_self.mpr λ_ _=>rfl]
 rw[bS (av cp rfl)];exact E2 (ks:=sI n P Q (c+1) cr) (Nat.lt_of_le_of_lt hl (by omega)) (Ad (by omega) hO)
theorem AU {n:Nat}{S:iy}{c:Nat}{cr:List (List Nat)}{E:List (List Int)}(hd:h9 [bu S,nI c,.lst (cr.map ax)]=some (.lst (E.map cX)))(hl:so [bu S,nI c,.lst (cr.map ax)]=some (.lst (E.map cX)))(hE:E.length<=900):eR [bu S,nI c,.lst (cr.map ax)]=some (.bl true):=by
 let st:Sl->aF:=λs5=>[.v (bu S),.v (nI c),.v (.lst (cr.map ax)),.v (.lst (cr.map ax)),.v (.lst (E.map cX)),s5]
 have dE:=Dk E
 have dC:fw (.lst (cr.map ax))<=32:=by rw[oN];exact Dk _
 apply bZ (kd:=.s) (n:=6) (t:=ji) (ρ:=st (.own (E.map cX++[.non])))
 unfold ji;have al:ao AY (aa (cy 1 (m9 (cV 5)) (gN 6) (ft) (xm "tuple" (ag 6))) (ai)) (st (.own (E.map cX)))=some (.bl true):=by
  have c1:cy 1 (m9 (cV 5)) (gN 6) (ft) (xm "tuple" (ag 6)) (st (.own (E.map cX)))=some (.lst ((E.map λ_=>true).map D.bl)):=by
   refine gv (ds:=E.map cX) (A8 rfl) (by rw[List.length_map];omega) ((gp (h:=cX) (o:=λ_=>.bl true) (q:=λ_=>true) E λz _=>⟨_,rfl,rfl,λ_=>rfl⟩).trans ?_)
   rw[List.filter_eq_self.mpr λ_ _=>rfl,List.map_map];rfl
  rw[bS (av c1 rfl),Cp];congr 2
  rw[List.all_map];simp
 refine(ay (ρ':=[.v (bu S),.v (nI c),.v (.lst (cr.map ax)),.v (.lst (cr.map ax)),.no,.no]) ((bc (d:=.lst (cr.map ax)) rfl).trans rfl)).trans ?_
 refine(ay (ρ':=st .no) ((bc ((bT (ds:=[bu S,nI c,.lst (cr.map ax)]) rfl rfl).trans hd)).trans rfl)).trans ?_
 refine(ay (ρ':=st (.own (E.map cX))) ((iN ((bT (ds:=[bu S,nI c,.lst (cr.map ax)]) rfl rfl).trans hl)).trans rfl)).trans ?_
 refine(ay (eM (n8 (iR (b:=true) (fW rfl)) (n8 (iR (b:=true) (fW al)) (bf ((au (x:=.lst (E.map cX)) (y:=.lst (E.map cX)) rfl rfl).trans (CL dE))))))).trans ?_
 refine(ay (ρ':=st (.own (E.map cX++[.non]))) ((oI (i:=5) (b0:=E.map cX) (bs:=E.map cX) (d:=.non) rfl (br rfl) rfl (by rw[List.length_map];omega)).trans rfl)).trans ?_
 exact bF (ki (vm (bf ((au (x:=.lst (cr.map ax)) (y:=.lst (cr.map ax)) rfl rfl).trans (vW dC))) (bf ((au ((bT (ds:=[bu S,nI c,.lst (cr.map ax)]) rfl rfl).trans hl) (y:=.lst (E.map cX)) rfl).trans (vW dE)))))
theorem DQ(hR: ∀(n:Nat) (r x:List Nat) (c:Nat) (cr:List (List Nat)),4<=n->n<=5->r.length=n->x.length=n->c+1<n->NI n (r.getD c 0) (x.getD c 0) (r.getD (c+1) 0) (x.getD (c+1) 0)->cr.length<=8->(∀o∈cr,Ord n o)->eR [fM r x,nI c,.lst (cr.map ax)]=some (.bl true))(ns:List Int)(hn:ns.length<=63):Ag [lu ns]=some (.bl true):=by
 refine jx (kd:=.s) (n:=6) (t:=yH) ?_
 unfold yH;refine DF (λρ=> ∃s1 s2 s3 s4 s5,ρ=[.v (lu ns),s1,s2,s3,s4,s5]) (Bb (ds:=(List.range 2).map nI) (br (fS (av rfl rfl) (by omega))) (wf _ (λd hd ρ hρ=>?_) _ ⟨_,_,_,_,_,rfl⟩)) λρ' hρ'=>⟨ρ',bF rfl⟩
 obtain⟨k,hk,rfl⟩:=List.mem_map.mp hd
 rw[List.mem_range] at hk;obtain⟨s1,s2,s3,s4,s5,rfl⟩:=hρ
 obtain⟨a0,b0,eb,B⟩:=EO ns k (by omega) hn
 obtain⟨d1,a1,b1,et,B1,d10,d11⟩:=kX (m:=3) B (by omega) (by decide) (by decide)
 obtain⟨n,hm,hn1,hn2⟩: ∃m:Nat,aP (.lst [.int 4,.int 4,.int 5]) (.int d1)=some (nI m)/\4<=m/\m<=5:=by
  have:d1=0\/d1=1\/d1=2:=by omega
  rcases this with e|e|e<;>subst e
  ·exact⟨4,rfl,by omega,by omega⟩
  ·exact⟨4,rfl,by omega,by omega⟩
  ·exact⟨5,rfl,by omega,by omega⟩
 obtain⟨r,x,c,bg,en,⟨N2,a2,b2,B2,hN2,rfl⟩,hr,hx,hc,NI0⟩:=Ap hn1 hn2 B1 (by omega)
 obtain⟨cr,bg3,ec,hcl,hO⟩:=xh B2 (by omega) (n:=n) (by omega) (by omega)
 have hright:=hR n r x c cr hn1 hn2 hr hx hc NI0 hcl hO
 have q1:ga 2 (ao (nF 2 jV) (aa (ag 0) (aa (ag 1) (ai)))) [.v (lu ns),.v (nI k),s2,s3,s4,s5]=.nx [.v (lu ns),.v (nI k),.own (aG a0 b0),s3,s4,s5]:=(iN ((bT (ds:=[lu ns,nI k]) rfl rfl).trans eb)).trans rfl
 have q2:je 3 (ud aP (pu (cg (aa (aA (.int 4)) (aa (aA (.int 4)) (aa (aA (.int 5)) (ai)))))) (aN 2 1 aS (bL (aa (aA (.int 3)) (ai))))) [.v (lu ns),.v (nI k),.own (aG a0 b0),s3,s4,s5]=.nx [.v (lu ns),.v (nI k),.own (aG a1 b1),.v (nI n),s4,s5]:=
  (jW (BK (ge (dJ rfl (by simp))) (cM (i:=2) (n:=1) (b0:=aG a0 b0) (ds:=[.int 3]) rfl (br rfl) rfl rfl et) hm)).trans rfl
 have q3:cv (gT 2 (eV (gN 4) (eV (gN 5) (jI)))) (aN 2 1 bR (bL (aa (ag 3) (ai)))) [.v (lu ns),.v (nI k),.own (aG a1 b1),.v (nI n),s4,s5]=.nx [.v (lu ns),.v (nI k),.own (aG a2 b2),.v (nI n),.v (fM r x),.v (nI c)]:=
  fX (cM (i:=2) (n:=1) (b0:=aG a1 b1) (ds:=[nI n]) rfl (br rfl) rfl rfl en) rfl
 refine⟨_,_,rfl,(ay q1).trans ((ay q2).trans ((ay q3).trans ((Gh (BZ (b:=true) (Cz (DZ (ds:=[fM r x,nI c,.lst (cr.map ax)]) (fQ (ge rfl) (fQ (ge rfl) (fQ (cM (i:=2) (n:=1) (b0:=aG a2 b2) (ds:=[nI n]) rfl (br rfl) rfl rfl ec) rfl))) rfl hright)))).trans rfl))),⟨_,_,_,_,_,rfl⟩⟩
theorem D9 {n a b p q:Nat}(h:NI n a b p q):(if kb p a b=true then min a b else max a b)<n:=by
 have:=h.ha;have:=h.hb
 split<;>omega
theorem xO(n:Nat)(r x:List Nat)(c:Nat)(cr:List (List Nat))(h4:4<=n)(h5:n<=5)(hr:r.length=n)(hx:x.length=n)(hc:c+1<n)(h:NI n (r.getD c 0) (x.getD c 0) (r.getD (c+1) 0) (x.getD (c+1) 0))(hcl:cr.length<=8)(hO: ∀o∈cr,Ord n o):eR [fM r x,nI c,.lst (cr.map ax)]=some (.bl true):=by
 let S:iy:=(r,x)
 let O:iy:=(oR r c,oR x c)
 have hS:Ln n S:=⟨hr,hx⟩
 have hOo:Ln n O:=⟨(wc hr hc).1,(wc hx hc).1⟩
 have t1:=A5 hr hx hc h
 have t2:=zK hr hx hc h h4 h5
 have hT:=D9 h
 generalize (if kb (r.getD (c+1) 0) (r.getD c 0) (x.getD c 0)=true then min (r.getD c 0) (x.getD c 0) else max (r.getD c 0) (x.getD c 0))=T at t1 t2 hT
 let P:List Nat->Nat->Bool:=λo j=>cU n S o (c+1) j (c+1) [S,O] [T]
 let Q:List Nat->Nat->Bool:=λo j=>cU n S o j (c+1) c [O,S] [T]
 have hP: ∀o,Ord n o-> ∀j,j<n->j≠c+1->bX [bu S,bu O,nI c,ax o,nI (c+1),nI j]=some (.bl (P o j)):=λo Oo j hj ne=>by
  rw[tF (T:=T) (by omega) (by omega) hS hOo Oo.len hc hj t2]
  show _=some (D.bl (cU n S o (c+1) j (c+1) [S,O] [T]));rw[ue Oo hc hj ne hT]
 have hQ: ∀o,Ord n o-> ∀j,j<n->j≠c+1->bX [bu S,bu O,nI c,ax o,nI j,nI (c+1)]=some (.bl (Q o j)):=λo Oo j hj ne=>by
  rw[tF (T:=T) (by omega) (by omega) hS hOo Oo.len hj hc t2]
  show _=some (D.bl (cU n S o j (c+1) c [O,S] [T]));rw[xr Oo hc hj ne hT]
 have hPQ: ∀o∈cr,∀j,j<n-> ¬(P o j=true/\Q o j=true):=λo ho j hj=>zY h5 (hO o ho) hc hj (T:=T) (by simp) (by simp)
 have hl:=vo (i:=c+1) h5 hcl hPQ
 have hd:=Bk h4 h5 hc hP hQ (B9 hr hx hc (by omega)) hcl hO hPQ
 refine AU (n:=n) (S:=S) hd ?_ (by
  unfold lO;rw[(dq (lt:=cm) _).length_eq];exact Nat.le_trans (vS _) (by omega))
 apply bZ (kd:=.n) (n:=7) (t:=AV)
 unfold AV;refine(ay (ρ':=[.v (bu S),.v (nI c),.v (.lst (cr.map ax)),.v (bu O),.no,.no,.no]) ((bc ((bT (ds:=[bu S,nI c]) rfl rfl).trans (EU hr hx hc (by omega) h))).trans rfl)).trans ?_
 refine(ay (ρ':=[.v (bu S),.v (nI c),.v (.lst (cr.map ax)),.v (bu O),.v (.lst [nI T]),.no,.no]) ((bc (dJ (av ((bT (ds:=[bu S,nI c]) rfl rfl).trans t1) rfl) (by simp))).trans rfl)).trans ?_
 refine(ay (ρ':=[.v (bu S),.v (nI c),.v (.lst (cr.map ax)),.v (bu O),.v (.lst [nI T]),.v (dX [S,O] [T]),.v (dX [O,S] [T])]) (fX (ge (cG (av (cG (av (dJ rfl (by simp)) rfl) (by simp)) (av (cG (av (dJ rfl (by simp)) rfl) (by simp)) rfl)) (by simp))) rfl)).trans ?_
 refine bF (AN (i5:=5) (i6:=6) (i7:=7) (i8:=8) h4 h5 hS hc (rs:=[S,O]) (ls:=[O,S]) (rt:=[T]) (lt:=[T]) (λS' hS'=>?_) (λS' hS'=>?_) (by simp) (by simp) hO hl (λo=>⟨_,rfl,rfl,λe=>⟨_,rfl,rfl⟩⟩) rfl)
 ·rcases List.mem_cons.mp hS' with q|q
  ·rw[q];exact hS
  ·rw[List.mem_singleton] at q;rw[q];exact hOo
 ·rcases List.mem_cons.mp hS' with q|q
  ·rw[q];exact hOo
  ·rw[List.mem_singleton] at q;rw[q];exact hS
theorem D2(ns:List Int)(hn:ns.length<=63):Ag [lu ns]=some (.bl true):=DQ xO ns hn
set_option maxHeartbeats 4000000
theorem all_mk {l:W.OpenLaw}{w:World}{K:W.Frag}{h:Heap}{mg:Str->Option Value}{fa:Addr}{f0:Addr}{od0 an0:Option Addr}{sl0:Array (Option Value)}{oc0 kV0 dc0 pm0 cd0 ct0:Value}{f1:Addr}{od1 an1:Option Addr}{sl1:Array (Option Value)}{oc1 kV1 dc1 pm1 cd1 ct1:Value}{f2:Addr}{od2 an2:Option Addr}{sl2:Array (Option Value)}{oc2 kV2 dc2 pm2 cd2 ct2:Value}{f3:Addr}{od3 an3:Option Addr}{sl3:Array (Option Value)}{oc3 kV3 dc3 pm3 cd3 ct3:Value}{f4:Addr}{od4 an4:Option Addr}{sl4:Array (Option Value)}{oc4 kV4 dc4 pm4 cd4 ct4:Value}{f5:Addr}{od5 an5:Option Addr}{sl5:Array (Option Value)}{oc5 kV5 dc5 pm5 cd5 ct5:Value}{f6:Addr}{od6 an6:Option Addr}{sl6:Array (Option Value)}{oc6 kV6 dc6 pm6 cd6 ct6:Value}{f7:Addr}{od7 an7:Option Addr}{sl7:Array (Option Value)}{oc7 kV7 dc7 pm7 cd7 ct7:Value}{f8:Addr}{od8 an8:Option Addr}{sl8:Array (Option Value)}{oc8 kV8 dc8 pm8 cd8 ct8:Value}{f9:Addr}{od9 an9:Option Addr}{sl9:Array (Option Value)}{oc9 kV9 dc9 pm9 cd9 ct9:Value}{f10:Addr}{od10 an10:Option Addr}{sl10:Array (Option Value)}{oc10 kV10 dc10 pm10 cd10 ct10:Value}{f11:Addr}{od11 an11:Option Addr}{sl11:Array (Option Value)}{oc11 kV11 dc11 pm11 cd11 ct11:Value}{f12:Addr}{od12 an12:Option Addr}{sl12:Array (Option Value)}{oc12 kV12 dc12 pm12 cd12 ct12:Value}{f13:Addr}{od13 an13:Option Addr}{sl13:Array (Option Value)}{oc13 kV13 dc13 pm13 cd13 ct13:Value}{f14:Addr}{od14 an14:Option Addr}{sl14:Array (Option Value)}{oc14 kV14 dc14 pm14 cd14 ct14:Value}{f15:Addr}{od15 an15:Option Addr}{sl15:Array (Option Value)}{oc15 kV15 dc15 pm15 cd15 ct15:Value}{f16:Addr}{od16 an16:Option Addr}{sl16:Array (Option Value)}{oc16 kV16 dc16 pm16 cd16 ct16:Value}{f17:Addr}{od17 an17:Option Addr}{sl17:Array (Option Value)}{oc17 kV17 dc17 pm17 cd17 ct17:Value}{f18:Addr}{od18 an18:Option Addr}{sl18:Array (Option Value)}{oc18 kV18 dc18 pm18 cd18 ct18:Value}{f19:Addr}{od19 an19:Option Addr}{sl19:Array (Option Value)}{oc19 kV19 dc19 pm19 cd19 ct19:Value}{f20:Addr}{od20 an20:Option Addr}{sl20:Array (Option Value)}{oc20 kV20 dc20 pm20 cd20 ct20:Value}{f21:Addr}{od21 an21:Option Addr}{sl21:Array (Option Value)}{oc21 kV21 dc21 pm21 cd21 ct21:Value}{f22:Addr}{od22 an22:Option Addr}{sl22:Array (Option Value)}{oc22 kV22 dc22 pm22 cd22 ct22:Value}{f23:Addr}{od23 an23:Option Addr}{sl23:Array (Option Value)}{oc23 kV23 dc23 pm23 cd23 ct23:Value}{f24:Addr}{od24 an24:Option Addr}{sl24:Array (Option Value)}{oc24 kV24 dc24 pm24 cd24 ct24:Value}{f25:Addr}{od25 an25:Option Addr}{sl25:Array (Option Value)}{oc25 kV25 dc25 pm25 cd25 ct25:Value}{f26:Addr}{od26 an26:Option Addr}{sl26:Array (Option Value)}{oc26 kV26 dc26 pm26 cd26 ct26:Value}{f27:Addr}{od27 an27:Option Addr}{sl27:Array (Option Value)}{oc27 kV27 dc27 pm27 cd27 ct27:Value}{f28:Addr}{od28 an28:Option Addr}{sl28:Array (Option Value)}{oc28 kV28 dc28 pm28 cd28 ct28:Value}{f29:Addr}{od29 an29:Option Addr}{sl29:Array (Option Value)}{oc29 kV29 dc29 pm29 cd29 ct29:Value}(X:K.In h)(G:h.Ns mainGlobals mg)(hfa:mg "law"=some (.ref fa))
 (a0:W.nsIn K mainGlobals "order_exchanged"=some (some (.ref f0))) (l0:K.lookup f0=some ⟨oc0,od0,.func (W.fnOf "order_exchanged" "order_exchanged" (aR bv) (aM bv) (am bv) .none kV0 dc0 pm0 an0 cd0 ct0),sl0⟩) (c0:W.codeIn K cd0 "order_exchanged"=true) (k0:W.keepIn K (.ref f0)=true)
 (a1:W.nsIn K mainGlobals "places_from"=some (some (.ref f1))) (l1:K.lookup f1=some ⟨oc1,od1,.func (W.fnOf "places_from" "places_from" (aR cf) (aM cf) (am cf) .none kV1 dc1 pm1 an1 cd1 ct1),sl1⟩) (c1:W.codeIn K cd1 "places_from"=true) (k1:W.keepIn K (.ref f1)=true)
 (a2:W.nsIn K mainGlobals "columns_of"=some (some (.ref f2))) (l2:K.lookup f2=some ⟨oc2,od2,.func (W.fnOf "columns_of" "columns_of" (aR cI) (aM cI) (am cI) .none kV2 dc2 pm2 an2 cd2 ct2),sl2⟩) (c2:W.codeIn K cd2 "columns_of"=true) (k2:W.keepIn K (.ref f2)=true)
 (a3:W.nsIn K mainGlobals "rows_of"=some (some (.ref f3))) (l3:K.lookup f3=some ⟨oc3,od3,.func (W.fnOf "rows_of" "rows_of" (aR fJ) (aM fJ) (am fJ) .none kV3 dc3 pm3 an3 cd3 ct3),sl3⟩) (c3:W.codeIn K cd3 "rows_of"=true) (k3:W.keepIn K (.ref f3)=true)
 (a4:W.nsIn K mainGlobals "behind"=some (some (.ref f4))) (l4:K.lookup f4=some ⟨oc4,od4,.func (W.fnOf "behind" "behind" (aR gu) (aM gu) (am gu) .none kV4 dc4 pm4 an4 cd4 ct4),sl4⟩) (c4:W.codeIn K cd4 "behind"=true) (k4:W.keepIn K (.ref f4)=true)
 (a5:W.nsIn K mainGlobals "is_bare"=some (some (.ref f5))) (l5:K.lookup f5=some ⟨oc5,od5,.func (W.fnOf "is_bare" "is_bare" (aR fH) (aM fH) (am fH) .none kV5 dc5 pm5 an5 cd5 ct5),sl5⟩) (c5:W.codeIn K cd5 "is_bare"=true) (k5:W.keepIn K (.ref f5)=true)
 (a6:W.nsIn K mainGlobals "oddly_often"=some (some (.ref f6))) (l6:K.lookup f6=some ⟨oc6,od6,.func (W.fnOf "oddly_often" "oddly_often" (aR cj) (aM cj) (am cj) .none kV6 dc6 pm6 an6 cd6 ct6),sl6⟩) (c6:W.codeIn K cd6 "oddly_often"=true) (k6:W.keepIn K (.ref f6)=true)
 (a7:W.nsIn K mainGlobals "lies_between"=some (some (.ref f7))) (l7:K.lookup f7=some ⟨oc7,od7,.func (W.fnOf "lies_between" "lies_between" (aR bY) (aM bY) (am bY) .none kV7 dc7 pm7 an7 cd7 ct7),sl7⟩) (c7:W.codeIn K cd7 "lies_between"=true) (k7:W.keepIn K (.ref f7)=true)
 (a8:W.nsIn K mainGlobals "may_change"=some (some (.ref f8))) (l8:K.lookup f8=some ⟨oc8,od8,.func (W.fnOf "may_change" "may_change" (aR cA) (aM cA) (am cA) .none kV8 dc8 pm8 an8 cd8 ct8),sl8⟩) (c8:W.codeIn K cd8 "may_change"=true) (k8:W.keepIn K (.ref f8)=true)
 (a9:W.nsIn K mainGlobals "columns_changed"=some (some (.ref f9))) (l9:K.lookup f9=some ⟨oc9,od9,.func (W.fnOf "columns_changed" "columns_changed" (aR bx) (aM bx) (am bx) .none kV9 dc9 pm9 an9 cd9 ct9),sl9⟩) (c9:W.codeIn K cd9 "columns_changed"=true) (k9:W.keepIn K (.ref f9)=true)
 (a10:W.nsIn K mainGlobals "turn_of"=some (some (.ref f10))) (l10:K.lookup f10=some ⟨oc10,od10,.func (W.fnOf "turn_of" "turn_of" (aR fI) (aM fI) (am fI) .none kV10 dc10 pm10 an10 cd10 ct10),sl10⟩) (c10:W.codeIn K cd10 "turn_of"=true) (k10:W.keepIn K (.ref f10)=true)
 (a11:W.nsIn K mainGlobals "has_mark"=some (some (.ref f11))) (l11:K.lookup f11=some ⟨oc11,od11,.func (W.fnOf "has_mark" "has_mark" (aR eJ) (aM eJ) (am eJ) .none kV11 dc11 pm11 an11 cd11 ct11),sl11⟩) (c11:W.codeIn K cd11 "has_mark"=true) (k11:W.keepIn K (.ref f11)=true)
 (a12:W.nsIn K mainGlobals "columns_clear"=some (some (.ref f12))) (l12:K.lookup f12=some ⟨oc12,od12,.func (W.fnOf "columns_clear" "columns_clear" (aR bO) (aM bO) (am bO) .none kV12 dc12 pm12 an12 cd12 ct12),sl12⟩) (c12:W.codeIn K cd12 "columns_clear"=true) (k12:W.keepIn K (.ref f12)=true)
 (a13:W.nsIn K mainGlobals "bend_clear"=some (some (.ref f13))) (l13:K.lookup f13=some ⟨oc13,od13,.func (W.fnOf "bend_clear" "bend_clear" (aR cE) (aM cE) (am cE) .none kV13 dc13 pm13 an13 cd13 ct13),sl13⟩) (c13:W.codeIn K cd13 "bend_clear"=true) (k13:W.keepIn K (.ref f13)=true)
 (a14:W.nsIn K mainGlobals "is_bent"=some (some (.ref f14))) (l14:K.lookup f14=some ⟨oc14,od14,.func (W.fnOf "is_bent" "is_bent" (aR fx) (aM fx) (am fx) .none kV14 dc14 pm14 an14 cd14 ct14),sl14⟩) (c14:W.codeIn K cd14 "is_bent"=true) (k14:W.keepIn K (.ref f14)=true)
 (a15:W.nsIn K mainGlobals "ends_from"=some (some (.ref f15))) (l15:K.lookup f15=some ⟨oc15,od15,.func (W.fnOf "ends_from" "ends_from" (aR du) (aM du) (am du) .none kV15 dc15 pm15 an15 cd15 ct15),sl15⟩) (c15:W.codeIn K cd15 "ends_from"=true) (k15:W.keepIn K (.ref f15)=true)
 (a16:W.nsIn K mainGlobals "led"=some (some (.ref f16))) (l16:K.lookup f16=some ⟨oc16,od16,.func (W.fnOf "led" "led" (aR oy) (aM oy) (am oy) .none kV16 dc16 pm16 an16 cd16 ct16),sl16⟩) (c16:W.codeIn K cd16 "led"=true) (k16:W.keepIn K (.ref f16)=true)
 (a17:W.nsIn K mainGlobals "_law_cell"=some (some (.ref f17))) (l17:K.lookup f17=some ⟨oc17,od17,.func (W.fnOf "_law_cell" "_law_cell" (aR eB) (aM eB) (am eB) .none kV17 dc17 pm17 an17 cd17 ct17),sl17⟩) (c17:W.codeIn K cd17 "_law_cell"=true) (k17:W.keepIn K (.ref f17)=true)
 (a18:W.nsIn K mainGlobals "_law_bag"=some (some (.ref f18))) (l18:K.lookup f18=some ⟨oc18,od18,.func (W.fnOf "_law_bag" "_law_bag" (aR fC) (aM fC) (am fC) .none kV18 dc18 pm18 an18 cd18 ct18),sl18⟩) (c18:W.codeIn K cd18 "_law_bag"=true) (k18:W.keepIn K (.ref f18)=true)
 (a19:W.nsIn K mainGlobals "_law_take"=some (some (.ref f19))) (l19:K.lookup f19=some ⟨oc19,od19,.func (W.fnOf "_law_take" "_law_take" (aR eC) (aM eC) (am eC) .none kV19 dc19 pm19 an19 cd19 ct19),sl19⟩) (c19:W.codeIn K cd19 "_law_take"=true) (k19:W.keepIn K (.ref f19)=true)
 (a20:W.nsIn K mainGlobals "_law_order"=some (some (.ref f20))) (l20:K.lookup f20=some ⟨oc20,od20,.func (W.fnOf "_law_order" "_law_order" (aR dv) (aM dv) (am dv) .none kV20 dc20 pm20 an20 cd20 ct20),sl20⟩) (c20:W.codeIn K cd20 "_law_order"=true) (k20:W.keepIn K (.ref f20)=true)
 (a21:W.nsIn K mainGlobals "_law_neighbours"=some (some (.ref f21))) (l21:K.lookup f21=some ⟨oc21,od21,.func (W.fnOf "_law_neighbours" "_law_neighbours" (aR bH) (aM bH) (am bH) .none kV21 dc21 pm21 an21 cd21 ct21),sl21⟩) (c21:W.codeIn K cd21 "_law_neighbours"=true) (k21:W.keepIn K (.ref f21)=true)
 (a22:W.nsIn K mainGlobals "_law_crowd"=some (some (.ref f22))) (l22:K.lookup f22=some ⟨oc22,od22,.func (W.fnOf "_law_crowd" "_law_crowd" (aR di) (aM di) (am di) .none kV22 dc22 pm22 an22 cd22 ct22),sl22⟩) (c22:W.codeIn K cd22 "_law_crowd"=true) (k22:W.keepIn K (.ref f22)=true)
 (a23:W.nsIn K mainGlobals "_law_swapped"=some (some (.ref f23))) (l23:K.lookup f23=some ⟨oc23,od23,.func (W.fnOf "_law_swapped" "_law_swapped" (aR ck) (aM ck) (am ck) .none kV23 dc23 pm23 an23 cd23 ct23),sl23⟩) (c23:W.codeIn K cd23 "_law_swapped"=true) (k23:W.keepIn K (.ref f23)=true)
 (a24:W.nsIn K mainGlobals "_law_turn"=some (some (.ref f24))) (l24:K.lookup f24=some ⟨oc24,od24,.func (W.fnOf "_law_turn" "_law_turn" (aR eE) (aM eE) (am eE) .none kV24 dc24 pm24 an24 cd24 ct24),sl24⟩) (c24:W.codeIn K cd24 "_law_turn"=true) (k24:W.keepIn K (.ref f24)=true)
 (a25:W.nsIn K mainGlobals "_law_marked"=some (some (.ref f25))) (l25:K.lookup f25=some ⟨oc25,od25,.func (W.fnOf "_law_marked" "_law_marked" (aR cF) (aM cF) (am cF) .none kV25 dc25 pm25 an25 cd25 ct25),sl25⟩) (c25:W.codeIn K cd25 "_law_marked"=true) (k25:W.keepIn K (.ref f25)=true)
 (a26:W.nsIn K mainGlobals "_law_bent"=some (some (.ref f26))) (l26:K.lookup f26=some ⟨oc26,od26,.func (W.fnOf "_law_bent" "_law_bent" (aR eN) (aM eN) (am eN) .none kV26 dc26 pm26 an26 cd26 ct26),sl26⟩) (c26:W.codeIn K cd26 "_law_bent"=true) (k26:W.keepIn K (.ref f26)=true)
 (a27:W.nsIn K mainGlobals "_law_due"=some (some (.ref f27))) (l27:K.lookup f27=some ⟨oc27,od27,.func (W.fnOf "_law_due" "_law_due" (aR fD) (aM fD) (am fD) .none kV27 dc27 pm27 an27 cd27 ct27),sl27⟩) (c27:W.codeIn K cd27 "_law_due"=true) (k27:W.keepIn K (.ref f27)=true)
 (a28:W.nsIn K mainGlobals "_law_right"=some (some (.ref f28))) (l28:K.lookup f28=some ⟨oc28,od28,.func (W.fnOf "_law_right" "_law_right" (aR dm) (aM dm) (am dm) .none kV28 dc28 pm28 an28 cd28 ct28),sl28⟩) (c28:W.codeIn K cd28 "_law_right"=true) (k28:W.keepIn K (.ref f28)=true)
 (a29:W.nsIn K mainGlobals "law"=some (some (.ref f29))) (l29:K.lookup f29=some ⟨oc29,od29,.func (W.fnOf "law" "law" (aR j2) (aM j2) (am j2) .none kV29 dc29 pm29 an29 cd29 ct29),sl29⟩) (c29:W.codeIn K cd29 "law"=true) (k29:W.keepIn K (.ref f29)=true)
 (z_abs:W.nsIn K mainGlobals "abs"=some none)
 (z_all:W.nsIn K mainGlobals "all"=some none)
 (z_any:W.nsIn K mainGlobals "any"=some none)
 (z_isinstance:W.nsIn K mainGlobals "isinstance"=some none)
 (z_len:W.nsIn K mainGlobals "len"=some none)
 (z_list:W.nsIn K mainGlobals "list"=some none)
 (z_max:W.nsIn K mainGlobals "max"=some none)
 (z_min:W.nsIn K mainGlobals "min"=some none)
 (z_range:W.nsIn K mainGlobals "range"=some none)
 (z_set:W.nsIn K mainGlobals "set"=some none)
 (z_sorted:W.nsIn K mainGlobals "sorted"=some none)
 (z_tuple:W.nsIn K mainGlobals "tuple"=some none):
 ∃fd:FuncData,(∀(s:Shared) (v:Value),BindsTo s fd ⟨[v],[]⟩ [("_law_script",v)])/\ ∀base:Heap,K.In base->base.Ns mainGlobals mg->FnOk l.prog w K mg base rO 8 fa fd ["_law_script"] (vE K):=by
 have e:=hfa.symm.trans (W.mg_of X G a29)
 cases e
 have F0:=bt (st:=bv) l0 c0 k0
 have b0:=F0.binds (ps:=["order","one","other"]) λ_ _ _ _ _ _ us hl=>ar3 us hl (λ_ _ _=>rfl)
 have d0:Df K mg "order_exchanged" bv ["order","one","other"]:=⟨_,_,F0,W.mg_of X G a0,b0⟩
 have F1:=bt (st:=cf) l1 c1 k1
 have b1:=F1.binds (ps:=["size","start","end"]) λ_ _ _ _ _ _ us hl=>ar3 us hl (λ_ _ _=>rfl)
 have d1:Df K mg "places_from" cf ["size","start","end"]:=⟨_,_,F1,W.mg_of X G a1,b1⟩
 have F2:=bt (st:=cI) l2 c2 k2
 have b2:=F2.binds (ps:=["stand","a","b"]) λ_ _ _ _ _ _ us hl=>ar3 us hl (λ_ _ _=>rfl)
 have d2:Df K mg "columns_of" cI ["stand","a","b"]:=⟨_,_,F2,W.mg_of X G a2,b2⟩
 have F3:=bt (st:=fJ) l3 c3 k3
 have b3:=F3.binds (ps:=["stand","a","b"]) λ_ _ _ _ _ _ us hl=>ar3 us hl (λ_ _ _=>rfl)
 have d3:Df K mg "rows_of" fJ ["stand","a","b"]:=⟨_,_,F3,W.mg_of X G a3,b3⟩
 have F4:=bt (st:=gu) l4 c4 k4
 have b4:=F4.binds (ps:=["stand","a","b"]) λ_ _ _ _ _ _ us hl=>ar3 us hl (λ_ _ _=>rfl)
 have d4:Df K mg "behind" gu ["stand","a","b"]:=⟨_,_,F4,W.mg_of X G a4,b4⟩
 have F5:=bt (st:=fH) l5 c5 k5
 have b5:=F5.binds (ps:=["stand","a","b"]) λ_ _ _ _ _ _ us hl=>ar3 us hl (λ_ _ _=>rfl)
 have d5:Df K mg "is_bare" fH ["stand","a","b"]:=⟨_,_,F5,W.mg_of X G a5,b5⟩
 have F6:=bt (st:=cj) l6 c6 k6
 have b6:=F6.binds (ps:=["stands"]) λ_ _ _ _ _ _ us hl=>ar1 us hl (λ_=>rfl)
 have d6:Df K mg "oddly_often" cj ["stands"]:=⟨_,_,F6,W.mg_of X G a6,b6⟩
 have F7:=bt (st:=bY) l7 c7 k7
 have b7:=F7.binds (ps:=["at","one","other"]) λ_ _ _ _ _ _ us hl=>ar3 us hl (λ_ _ _=>rfl)
 have d7:Df K mg "lies_between" bY ["at","one","other"]:=⟨_,_,F7,W.mg_of X G a7,b7⟩
 have F8:=bt (st:=cA) l8 c8 k8
 have b8:=F8.binds (ps:=["square","c"]) λ_ _ _ _ _ _ us hl=>ar2 us hl (λ_ _=>rfl)
 have d8:Df K mg "may_change" cA ["square","c"]:=⟨_,_,F8,W.mg_of X G a8,b8⟩
 have F9:=bt (st:=bx) l9 c9 k9
 have b9:=F9.binds (ps:=["square","c"]) λ_ _ _ _ _ _ us hl=>ar2 us hl (λ_ _=>rfl)
 have d9:Df K mg "columns_changed" bx ["square","c"]:=⟨_,_,F9,W.mg_of X G a9,b9⟩
 have F10:=bt (st:=fI) l10 c10 k10
 have b10:=F10.binds (ps:=["square","c"]) λ_ _ _ _ _ _ us hl=>ar2 us hl (λ_ _=>rfl)
 have d10:Df K mg "turn_of" fI ["square","c"]:=⟨_,_,F10,W.mg_of X G a10,b10⟩
 have F11:=bt (st:=eJ) l11 c11 k11
 have b11:=F11.binds (ps:=["square","column","row"]) λ_ _ _ _ _ _ us hl=>ar3 us hl (λ_ _ _=>rfl)
 have d11:Df K mg "has_mark" eJ ["square","column","row"]:=⟨_,_,F11,W.mg_of X G a11,b11⟩
 have F12:=bt (st:=bO) l12 c12 k12
 have b12:=F12.binds (ps:=["square","columns","rows"]) λ_ _ _ _ _ _ us hl=>ar3 us hl (λ_ _ _=>rfl)
 have d12:Df K mg "columns_clear" bO ["square","columns","rows"]:=⟨_,_,F12,W.mg_of X G a12,b12⟩
 have F13:=bt (st:=cE) l13 c13 k13
 have b13:=F13.binds (ps:=["column","rows","bend"]) λ_ _ _ _ _ _ us hl=>ar3 us hl (λ_ _ _=>rfl)
 have d13:Df K mg "bend_clear" cE ["column","rows","bend"]:=⟨_,_,F13,W.mg_of X G a13,b13⟩
 have F14:=bt (st:=fx) l14 c14 k14
 have b14:=F14.binds (ps:=["square","stand","a","b","column","bend"]) λ_ _ _ _ _ _ us hl=>ar6 us hl (λ_ _ _ _ _ _=>rfl)
 have d14:Df K mg "is_bent" fx ["square","stand","a","b","column","bend"]:=⟨_,_,F14,W.mg_of X G a14,b14⟩
 have F15:=bt (st:=du) l15 c15 k15
 have b15:=F15.binds (ps:=["square","c","stand","right","left"]) λ_ _ _ _ _ _ us hl=>ar5 us hl (λ_ _ _ _ _=>rfl)
 have d15:Df K mg "ends_from" du ["square","c","stand","right","left"]:=⟨_,_,F15,W.mg_of X G a15,b15⟩
 have F16:=bt (st:=oy) l16 c16 k16
 have b16:=F16.binds (ps:=["square","c","crowd"]) λ_ _ _ _ _ _ us hl=>ar3 us hl (λ_ _ _=>rfl)
 have d16:Df K mg "led" oy ["square","c","crowd"]:=⟨_,_,F16,W.mg_of X G a16,b16⟩
 have F17:=bt (st:=eB) l17 c17 k17
 have b17:=F17.binds (ps:=["_law_script","_law_k"]) λ_ _ _ _ _ _ us hl=>ar2 us hl (λ_ _=>rfl)
 have d17:Df K mg "_law_cell" eB ["_law_script","_law_k"]:=⟨_,_,F17,W.mg_of X G a17,b17⟩
 have F18:=bt (st:=fC) l18 c18 k18
 have b18:=F18.binds (ps:=["_law_script","_law_at"]) λ_ _ _ _ _ _ us hl=>ar2 us hl (λ_ _=>rfl)
 have d18:Df K mg "_law_bag" fC ["_law_script","_law_at"]:=⟨_,_,F18,W.mg_of X G a18,b18⟩
 have F19:=bt (st:=eC) l19 c19 k19
 have b19:=F19.binds (ps:=["_law_bag_here","_law_many"]) λ_ _ _ _ _ _ us hl=>ar2 us hl (λ_ _=>rfl)
 have d19:Df K mg "_law_take" eC ["_law_bag_here","_law_many"]:=⟨_,_,F19,W.mg_of X G a19,b19⟩
 have F20:=bt (st:=dv) l20 c20 k20
 have b20:=F20.binds (ps:=["_law_bag_here","_law_n"]) λ_ _ _ _ _ _ us hl=>ar2 us hl (λ_ _=>rfl)
 have d20:Df K mg "_law_order" dv ["_law_bag_here","_law_n"]:=⟨_,_,F20,W.mg_of X G a20,b20⟩
 have F21:=bt (st:=bH) l21 c21 k21
 have b21:=F21.binds (ps:=["_law_bag_here","_law_n"]) λ_ _ _ _ _ _ us hl=>ar2 us hl (λ_ _=>rfl)
 have d21:Df K mg "_law_neighbours" bH ["_law_bag_here","_law_n"]:=⟨_,_,F21,W.mg_of X G a21,b21⟩
 have F22:=bt (st:=di) l22 c22 k22
 have b22:=F22.binds (ps:=["_law_bag_here","_law_n"]) λ_ _ _ _ _ _ us hl=>ar2 us hl (λ_ _=>rfl)
 have d22:Df K mg "_law_crowd" di ["_law_bag_here","_law_n"]:=⟨_,_,F22,W.mg_of X G a22,b22⟩
 have F23:=bt (st:=ck) l23 c23 k23
 have b23:=F23.binds (ps:=["_law_square","_law_c"]) λ_ _ _ _ _ _ us hl=>ar2 us hl (λ_ _=>rfl)
 have d23:Df K mg "_law_swapped" ck ["_law_square","_law_c"]:=⟨_,_,F23,W.mg_of X G a23,b23⟩
 have F24:=bt (st:=eE) l24 c24 k24
 have b24:=F24.binds (ps:=["_law_square","_law_c"]) λ_ _ _ _ _ _ us hl=>ar2 us hl (λ_ _=>rfl)
 have d24:Df K mg "_law_turn" eE ["_law_square","_law_c"]:=⟨_,_,F24,W.mg_of X G a24,b24⟩
 have F25:=bt (st:=cF) l25 c25 k25
 have b25:=F25.binds (ps:=["_law_square","_law_column","_law_row"]) λ_ _ _ _ _ _ us hl=>ar3 us hl (λ_ _ _=>rfl)
 have d25:Df K mg "_law_marked" cF ["_law_square","_law_column","_law_row"]:=⟨_,_,F25,W.mg_of X G a25,b25⟩
 have F26:=bt (st:=eN) l26 c26 k26
 have b26:=F26.binds (ps:=["_law_square","_law_other","_law_c","_law_stand","_law_a","_law_b"]) λ_ _ _ _ _ _ us hl=>ar6 us hl (λ_ _ _ _ _ _=>rfl)
 have d26:Df K mg "_law_bent" eN ["_law_square","_law_other","_law_c","_law_stand","_law_a","_law_b"]:=⟨_,_,F26,W.mg_of X G a26,b26⟩
 have F27:=bt (st:=fD) l27 c27 k27
 have b27:=F27.binds (ps:=["_law_square","_law_c","_law_crowd_here"]) λ_ _ _ _ _ _ us hl=>ar3 us hl (λ_ _ _=>rfl)
 have d27:Df K mg "_law_due" fD ["_law_square","_law_c","_law_crowd_here"]:=⟨_,_,F27,W.mg_of X G a27,b27⟩
 have F28:=bt (st:=dm) l28 c28 k28
 have b28:=F28.binds (ps:=["_law_square","_law_c","_law_crowd_here"]) λ_ _ _ _ _ _ us hl=>ar3 us hl (λ_ _ _=>rfl)
 have d28:Df K mg "_law_right" dm ["_law_square","_law_c","_law_crowd_here"]:=⟨_,_,F28,W.mg_of X G a28,b28⟩
 have F29:=bt (st:=j2) l29 c29 k29
 have b29:=F29.binds (ps:=["_law_script"]) λ_ _ _ _ _ _ us hl=>ar1 us hl (λ_=>rfl)
 have d29:Df K mg "law" j2 ["_law_script"]:=⟨_,_,F29,W.mg_of X G a29,b29⟩
 have B:Bt mg:=⟨W.mg_none_of X G z_abs,W.mg_none_of X G z_all,W.mg_none_of X G z_any,W.mg_none_of X G z_isinstance,W.mg_none_of X G z_len,W.mg_none_of X G z_list,W.mg_none_of X G z_max,W.mg_none_of X G z_min,W.mg_none_of X G z_range,W.mg_none_of X G z_set,W.mg_none_of X G z_sorted,W.mg_none_of X G z_tuple⟩
 refine⟨W.fnOf "law" "law" (aR j2) (aM j2) (am j2) .none kV29 dc29 pm29 an29 cd29 ct29,λs v=>.of_eq rfl,λbase _ _=>?_⟩
 have bA:=lD (P:=l.prog) (w:=w) (base:=base) B d0
 have cN:=o7 (P:=l.prog) (w:=w) (base:=base) B d1
 have dG:=qG (P:=l.prog) (w:=w) (base:=base) B d2 cN
 have gq:=xj (P:=l.prog) (w:=w) (base:=base) B d3 cN
 have lc:=AM (P:=l.prog) (w:=w) (base:=base) B d4 bA
 have me:=xb (P:=l.prog) (w:=w) (base:=base) B d5 dG gq
 have gY:=o0 (P:=l.prog) (w:=w) (base:=base) B d6
 have cq:=nz (P:=l.prog) (w:=w) (base:=base) B d7
 have iT:=ql (P:=l.prog) (w:=w) (base:=base) B d8 cq
 have eW:=lw (P:=l.prog) (w:=w) (base:=base) B d9 iT bA
 have mq:=xL (P:=l.prog) (w:=w) (base:=base) B d10 cq
 have fB:=vd (P:=l.prog) (w:=w) (base:=base) B d11
 have fU:=mW (P:=l.prog) (w:=w) (base:=base) B d12 fB
 have iQ:=qC (P:=l.prog) (w:=w) (base:=base) B d13 fB
 have jM:=xU (P:=l.prog) (w:=w) (base:=base) B d14 gq fU iQ me dG
 have jv:=tu (P:=l.prog) (w:=w) (base:=base) B d15 jM lc
 have wx:=Gz (P:=l.prog) (w:=w) (base:=base) B d16 eW gY mq jv
 have kz:=up (P:=l.prog) (w:=w) (base:=base) B d17
 have mE:=xP (P:=l.prog) (w:=w) (base:=base) B d18 kz
 have bG:=u0 (P:=l.prog) (w:=w) (base:=base) B d19
 have cz:=tI (P:=l.prog) (w:=w) (base:=base) B d20 bG
 have fy:=mD (P:=l.prog) (w:=w) (base:=base) B d21 bG cz
 have jy:=tM (P:=l.prog) (w:=w) (base:=base) B d22 bG cz
 have g9:=oS (P:=l.prog) (w:=w) (base:=base) B d23
 have kF:=uP (P:=l.prog) (w:=w) (base:=base) B d24
 have iP:=qg (P:=l.prog) (w:=w) (base:=base) B d25
 have kC:=uz (P:=l.prog) (w:=w) (base:=base) B d26 kF iP
 have mr:=wP (P:=l.prog) (w:=w) (base:=base) B d27 g9 kC
 have jq:=tU (P:=l.prog) (w:=w) (base:=base) B d28 mr wx
 exact D5 (Ey (P:=l.prog) (w:=w) (base:=base) B F29 mE fy bG jq jy) D2
end L2
theorem PySem.W.Fast.tw16885774212761261501:True:=⟨⟩
theorem PySem.W.Fast.tw17871427755486802169:True:=⟨⟩
theorem PySem.W.Fast.tw7950254359163715704:True:=⟨⟩
theorem PySem.W.Fast.tw4547909887555141912:True:=⟨⟩
theorem PySem.W.Fast.tw15291062037167621717:True:=⟨⟩
theorem PySem.W.Fast.tw17379770177257591:True:=⟨⟩
theorem PySem.W.Fast.tw7937267050539505643:True:=⟨⟩
theorem PySem.W.Fast.tw1033730657558455266:True:=⟨⟩
theorem PySem.W.Fast.tw15345197869633403260:True:=⟨⟩
theorem PySem.W.Fast.tw5951898437267892704:True:=⟨⟩
theorem PySem.W.Fast.tw2114297275517555543:True:=⟨⟩
theorem PySem.W.Fast.tw7151666179819698214:True:=⟨⟩
theorem PySem.W.Fast.tw317430456523556189:True:=⟨⟩
theorem PySem.W.Fast.tw6185966925659413576:True:=⟨⟩
theorem PySem.W.Fast.tw18273351630259827286:True:=⟨⟩
theorem PySem.W.Fast.tw8316016987136727199:True:=⟨⟩
theorem PySem.W.Fast.tw856603162768987573:True:=⟨⟩
theorem PySem.W.Fast.tw10961886423237532258:True:=⟨⟩
theorem PySem.W.Fast.tw14408471527493672582:True:=⟨⟩
theorem PySem.W.Fast.tw10645326474826156435:True:=⟨⟩
theorem PySem.W.Fast.tw13932573006638013373:True:=⟨⟩
theorem PySem.W.Fast.tw9199092978493700819:True:=⟨⟩
open PySem PySem.W PyProof.Rows
set_option maxRecDepth 100000 in
set_option maxHeartbeats 0 in
theorem PySem.Challenge.cw_rookborders_k48_led_crowds_holds : PySem.Challenge.rw_rookborders_k48_led_crowds.Holds := by
 w_on;o_law;k_head;(case hw=>w_witness2)
 k_fill
 refine L2.walkD (l:=PySem.Challenge.rw_rookborders_k48_led_crowds) (k:=8) (x:="_law_script") rfl rfl ⟨rfl,by decide,by decide⟩ (λw h Y=>W.kIn_of Y) ?F
 case F=>
  intro w mg fa h KX G hmg
  refine' L2.all_mk KX G hmg ?a0 ?l0 ?c0 ?k0 ?a1 ?l1 ?c1 ?k1 ?a2 ?l2 ?c2 ?k2 ?a3 ?l3 ?c3 ?k3 ?a4 ?l4 ?c4 ?k4 ?a5 ?l5 ?c5 ?k5 ?a6 ?l6 ?c6 ?k6 ?a7 ?l7 ?c7 ?k7 ?a8 ?l8 ?c8 ?k8 ?a9 ?l9 ?c9 ?k9 ?a10 ?l10 ?c10 ?k10 ?a11 ?l11 ?c11 ?k11 ?a12 ?l12 ?c12 ?k12 ?a13 ?l13 ?c13 ?k13 ?a14 ?l14 ?c14 ?k14 ?a15 ?l15 ?c15 ?k15 ?a16 ?l16 ?c16 ?k16 ?a17 ?l17 ?c17 ?k17 ?a18 ?l18 ?c18 ?k18 ?a19 ?l19 ?c19 ?k19 ?a20 ?l20 ?c20 ?k20 ?a21 ?l21 ?c21 ?k21 ?a22 ?l22 ?c22 ?k22 ?a23 ?l23 ?c23 ?k23 ?a24 ?l24 ?c24 ?k24 ?a25 ?l25 ?c25 ?k25 ?a26 ?l26 ?c26 ?k26 ?a27 ?l27 ?c27 ?k27 ?a28 ?l28 ?c28 ?k28 ?a29 ?l29 ?c29 ?k29 ?z_abs ?z_all ?z_any ?z_isinstance ?z_len ?z_list ?z_max ?z_min ?z_range ?z_set ?z_sorted ?z_tuple
  (case a0=>k_is)
  (case l0=>k_is)
  (case c0=>k_is)
  (case k0=>k_is)
  (case a1=>k_is)
  (case l1=>k_is)
  (case c1=>k_is)
  (case k1=>k_is)
  (case a2=>k_is)
  (case l2=>k_is)
  (case c2=>k_is)
  (case k2=>k_is)
  (case a3=>k_is)
  (case l3=>k_is)
  (case c3=>k_is)
  (case k3=>k_is)
  (case a4=>k_is)
  (case l4=>k_is)
  (case c4=>k_is)
  (case k4=>k_is)
  (case a5=>k_is)
  (case l5=>k_is)
  (case c5=>k_is)
  (case k5=>k_is)
  (case a6=>k_is)
  (case l6=>k_is)
  (case c6=>k_is)
  (case k6=>k_is)
  (case a7=>k_is)
  (case l7=>k_is)
  (case c7=>k_is)
  (case k7=>k_is)
  (case a8=>k_is)
  (case l8=>k_is)
  (case c8=>k_is)
  (case k8=>k_is)
  (case a9=>k_is)
  (case l9=>k_is)
  (case c9=>k_is)
  (case k9=>k_is)
  (case a10=>k_is)
  (case l10=>k_is)
  (case c10=>k_is)
  (case k10=>k_is)
  (case a11=>k_is)
  (case l11=>k_is)
  (case c11=>k_is)
  (case k11=>k_is)
  (case a12=>k_is)
  (case l12=>k_is)
  (case c12=>k_is)
  (case k12=>k_is)
  (case a13=>k_is)
  (case l13=>k_is)
  (case c13=>k_is)
  (case k13=>k_is)
  (case a14=>k_is)
  (case l14=>k_is)
  (case c14=>k_is)
  (case k14=>k_is)
  (case a15=>k_is)
  (case l15=>k_is)
  (case c15=>k_is)
  (case k15=>k_is)
  (case a16=>k_is)
  (case l16=>k_is)
  (case c16=>k_is)
  (case k16=>k_is)
  (case a17=>k_is)
  (case l17=>k_is)
  (case c17=>k_is)
  (case k17=>k_is)
  (case a18=>k_is)
  (case l18=>k_is)
  (case c18=>k_is)
  (case k18=>k_is)
  (case a19=>k_is)
  (case l19=>k_is)
  (case c19=>k_is)
  (case k19=>k_is)
  (case a20=>k_is)
  (case l20=>k_is)
  (case c20=>k_is)
  (case k20=>k_is)
  (case a21=>k_is)
  (case l21=>k_is)
  (case c21=>k_is)
  (case k21=>k_is)
  (case a22=>k_is)
  (case l22=>k_is)
  (case c22=>k_is)
  (case k22=>k_is)
  (case a23=>k_is)
  (case l23=>k_is)
  (case c23=>k_is)
  (case k23=>k_is)
  (case a24=>k_is)
  (case l24=>k_is)
  (case c24=>k_is)
  (case k24=>k_is)
  (case a25=>k_is)
  (case l25=>k_is)
  (case c25=>k_is)
  (case k25=>k_is)
  (case a26=>k_is)
  (case l26=>k_is)
  (case c26=>k_is)
  (case k26=>k_is)
  (case a27=>k_is)
  (case l27=>k_is)
  (case c27=>k_is)
  (case k27=>k_is)
  (case a28=>k_is)
  (case l28=>k_is)
  (case c28=>k_is)
  (case k28=>k_is)
  (case a29=>k_is)
  (case l29=>k_is)
  (case c29=>k_is)
  (case k29=>k_is)
  (case z_abs=>k_is)
  (case z_all=>k_is)
  (case z_any=>k_is)
  (case z_isinstance=>k_is)
  (case z_len=>k_is)
  (case z_list=>k_is)
  (case z_max=>k_is)
  (case z_min=>k_is)
  (case z_range=>k_is)
  (case z_set=>k_is)
  (case z_sorted=>k_is)
  (case z_tuple=>k_is)
