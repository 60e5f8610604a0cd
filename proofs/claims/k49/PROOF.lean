import PyProof.Rows.All
import Wide.All
import OpenK.AllK
import Wide.FinOn
import PyProof.EqAt
import PyProof.EqKinds
import PyProof.TupleCall
import PyProof.NeKinds
import PyProof.FactsAll.tuple_2
import PyProof.FactsAll.tuple_3
import PyProof.ListRange
import KE.KSortTup
import PyProof.EnumMake
import PyProof.AutoSeq1
import PyProof.Rows.SeqMore
import KE.KIsAll
import PyProof.ExcArgsOwn
import PyProof.ExcBaseAll.ValueError
import PyProof.ExcAttrAll.ValueError
import OpenK.KOwn
import PyProof.RulesAs
import PyProof.AutoRange
import PyProof.SeqRoads2
import PyProof.ZipIter
import PyProof.StrCalls2
import KE.KDictSum
import PyProof.SumAny
import KE.KRevIter
import PyProof.Rows.FStr
import PyProof.Rows.FStrParts
import KE.KRevSl
import Lean
import PySem.Challenge.RW_rookborders_k49_tied_crowds
set_option bootstrap.genMatcherCode false
set_option Elab.async false
set_option linter.all false
set_option maxRecDepth 100000
set_option maxHeartbeats 1000000
namespace L2
open PySem
theorem pk {n:Nat}{l:List Nat}(nd:l.Nodup)(h: ∀z∈l,z<n):l.length<=n:=by
 have p:l.Perm ((List.range n).filter λz=>decide (z∈l)):=(List.perm_ext_iff_of_nodup nd (List.Pairwise.filter _ List.nodup_range)).mpr λz=>by
  rw[List.mem_filter,List.mem_range,decide_eq_true_eq];exact⟨λq=>⟨h z q,q⟩,λq=>q.2⟩
 rw[p.length_eq];exact Nat.le_trans (List.length_filter_le _ _) (by simp)
def ja:Nat->Nat
 |0=>0
 |n+1=>5*ja n+1
theorem qS(m:Nat): ∀n,ja (m+n)=5^n*ja m+ja n
 |0=>by simp[ja]
 |n+1=>by
  show 5*ja (m+n)+1=_;rw[qS m n,Nat.pow_succ];show _=5^n*5*ja m+(5*ja n+1);rw[Nat.mul_add,Nat.mul_right_comm,Nat.mul_comm 5 (5^n*ja m)];omega
theorem wD: ∀n,ja n % 2=n % 2
 |0=>rfl
 |n+1=>by have:=wD n;show(5*ja n+1) % 2=_;omega
theorem nV: ∀n,5^n=4*ja n+1
 |0=>rfl
 |n+1=>by rw[Nat.pow_succ,nV n];show _=4*(5*ja n+1)+1;omega
theorem Iz(k a:Nat)(h:a % 2=1):Nat.Coprime (2^k) a:=by
 refine Nat.Coprime.pow_left k ?_
 show Nat.gcd 2 a=1;rw[Nat.gcd_rec,h];decide
theorem wA: ∀(k d:Nat),2^k∣ja d->2^k∣d
 |0,d,_=>by simp
 |k+1,d,h=>by
  have hp:=wD d
  have h2:2∣ja d:=Nat.dvd_trans ⟨2^k,by rw[Nat.pow_succ,Nat.mul_comm]⟩ h
  obtain⟨e,rfl⟩: ∃e,d=e+e:=⟨d / 2,by have:=Nat.mod_eq_zero_of_dvd h2;omega⟩
  have e1:ja (e+e)=2*(ja e*(2*ja e+1)):=by
   rw[qS,nV];have:(4*ja e+1)*ja e+ja e=(2*(2*ja e+1))*ja e:=by
    rw[<-Nat.succ_mul];congr 1;omega
   rw[this,Nat.mul_assoc,Nat.mul_comm (2*ja e+1)]
  rw[e1,Nat.pow_succ,Nat.mul_comm] at h;have h3:=Nat.dvd_of_mul_dvd_mul_left (by omega) h
  have h4:=(Iz k (2*ja e+1) (by omega)).dvd_of_dvd_mul_right h3
  obtain⟨q,hq⟩:=wA k e h4
  exact⟨q,by rw[Nat.pow_succ];rw[show 2^k*2*q=2^k*q+2^k*q by rw[Nat.mul_right_comm];omega,<-hq]⟩
def wb(M:Nat):Nat->Nat->Nat
 |0,i=>i
 |n+1,i=>(wb M n i*5+1) % M
theorem qJ(M i:Nat): ∀n,wb M n i % M=(5^n*i+ja n) % M
 |0=>by simp[wb,ja]
 |n+1=>by
  show(wb M n i*5+1) % M % M=_;rw[Nat.mod_mod,Nat.add_mod,Nat.mul_mod,qJ M i n,<-Nat.mul_mod,<-Nat.add_mod];congr 1
  show(5^n*i+ja n)*5+1=5^(n+1)*i+(5*ja n+1);rw[Nat.pow_succ,Nat.add_mul,Nat.mul_right_comm];omega
theorem Cs {k i m d:Nat}(h:wb (2^k) m i % 2^k=wb (2^k) (m+d) i % 2^k):2^k∣d:=by
 rw[qJ,qJ,qS,Nat.pow_add] at h;have e:5^m*5^d*i+(5^d*ja m+ja d)=5^m*i+ja m+ja d*(4*(5^m*i+ja m)+1):=by
  rw[nV d]
  generalize 5^m=a;generalize ja m=b;generalize ja d=c
  grind
 rw[e] at h;have h2:(ja d*(4*(5^m*i+ja m)+1)) % 2^k=0:=by
  have hd:=Nat.sub_mod_eq_zero_of_mod_eq h.symm
  rw[Nat.add_sub_cancel_left] at hd;exact hd
 exact wA k d ((Iz k _ (by omega)).dvd_of_dvd_mul_right (Nat.dvd_of_mod_eq_zero h2))
theorem E9 {k:Nat}{i:Nat}(hi:i<2^k){j:Nat}(hj:j<2^k): ∃n,n<2^k/\wb (2^k) n i=j:=by
 have lt: ∀n,wb (2^k) n i<2^k:=λn=>by
  cases n with
  |zero=>exact hi
  |succ n=>exact Nat.mod_lt _ (Nat.two_pow_pos k)
 have nd:((List.range (2^k)).map λn=>wb (2^k) n i).Nodup:=by
  rw[List.Nodup,List.pairwise_map];refine List.Pairwise.imp_of_mem (λ{a b} ha hb hab e=>?_) List.pairwise_lt_range
  rw[List.mem_range] at hb;obtain⟨d,rfl⟩:=Nat.exists_eq_add_of_lt hab
  have:=Cs (k:=k) (i:=i) (m:=a) (d:=d+1) (by rw[show a+(d+1)=a+d+1 by omega,<-e])
  have:=Nat.le_of_dvd (by omega) this
  omega
 by_cases h:j∈(List.range (2^k)).map λn=>wb (2^k) n i
 ·obtain⟨n,hn,e⟩:=List.mem_map.mp h
  exact⟨n,List.mem_range.mp hn,e⟩
 ·exfalso
  have h1:=pk (n:=2^k) (List.nodup_cons.mpr ⟨h,nd⟩) (λz hz=>by
   rcases List.mem_cons.mp hz with rfl|hz
   ·exact hj
   ·obtain⟨n,_,rfl⟩:=List.mem_map.mp hz;exact lt n)
  simp at h1;omega
abbrev Pb:=SetTable.Probe
def vU(mask:Nat)(p:Pb):Pb:=
 if p.more>0 then {p with j:=p.j+1,more:=p.more-1} else
 {p with j:=(SetTable.leap mask p.i p.perturb).1,more:=SetTable.runEnd mask (SetTable.leap mask p.i p.perturb).1- (SetTable.leap mask p.i p.perturb).1,i:=(SetTable.leap mask p.i p.perturb).1,perturb:=(SetTable.leap mask p.i p.perturb).2}
theorem uq(t:SetTable)(p:Pb):t.advance p=vU t.mask p:=rfl
theorem x0(mask:Nat)(p:Pb)(d:Option Nat):vU mask {p with dummy:=d}={vU mask p with dummy:=d}:=by
 unfold vU;dsimp only;split<;>rfl
def j9(mask i perturb:Nat)(d:Option Nat):Pb:={j:=i,more:=SetTable.runEnd mask i-i,i:=i,perturb:=perturb,dummy:=d}
def eI(mask:Nat):Nat->Pb->Pb
 |0,p=>p
 |n+1,p=>eI mask n (vU mask p)
theorem ln(mask m:Nat): ∀(n:Nat) (p:Pb),eI mask (n+m) p=eI mask m (eI mask n p)
 |0,p=>by rw[Nat.zero_add];rfl
 |n+1,p=>by rw[Nat.succ_add];exact ln mask m n (vU mask p)
theorem iD(mask n:Nat)(p:Pb):eI mask (n+1) p=vU mask (eI mask n p):=ln mask 1 n p
theorem kH(mask:Nat)(d:Option Nat): ∀(n:Nat) (p:Pb),eI mask n {p with dummy:=d}={eI mask n p with dummy:=d}
 |0,p=>rfl
 |n+1,p=>by
  show eI mask n (vU mask {p with dummy:=d})=_
  rw[x0,kH mask d n];rfl
theorem qP(mask:Nat): ∀(n:Nat) (p:Pb),n<=p.more->eI mask n p={p with j:=p.j+n,more:=p.more-n}
 |0,p,_=>rfl
 |n+1,p,h=>by
  show eI mask n (vU mask p)=_;have:vU mask p={p with j:=p.j+1,more:=p.more-1}:=if_pos (by omega)
  rw[this,qP mask n _ (by show n<=p.more-1;omega)]
  show({p with j:=p.j+1+n,more:=p.more-1-n}:Pb)={p with j:=p.j+(n+1),more:=p.more- (n+1)}
  rw[show p.j+1+n=p.j+(n+1) by omega,show p.more-1-n=p.more- (n+1) by omega]
theorem sP(mask:Nat)(p:Pb):eI mask (p.more+1) p=j9 mask ((p.i*5+1+p.perturb / 32) % (mask+1)) (p.perturb / 32) p.dummy:=by
 rw[iD,qP mask p.more p (Nat.le_refl _)];unfold vU;dsimp only;rw[Nat.sub_self,if_neg (by omega)]
 rfl
theorem xz(mask i perturb:Nat)(d:Option Nat):(j9 mask i perturb d).more<=9:=by
 show SetTable.runEnd mask i-i<=9;unfold SetTable.runEnd;split<;>omega
def lp(mask:Nat):Nat->Nat×Nat->Nat×Nat
 |0,x=>x
 |n+1,x=>lp mask n ((x.1*5+1+x.2 / 32) % (mask+1),x.2 / 32)
theorem vE(mask:Nat)(d:Option Nat): ∀(n i perturb:Nat),∃m,m<=10*n/\eI mask m (j9 mask i perturb d)=j9 mask (lp mask n (i,perturb)).1 (lp mask n (i,perturb)).2 d
 |0,i,perturb=>⟨0,by omega,rfl⟩
 |n+1,i,perturb=>by
  obtain⟨m,h1,h2⟩:=vE mask d n ((i*5+1+perturb / 32) % (mask+1)) (perturb / 32)
  have lm:=xz mask i perturb d
  refine⟨(j9 mask i perturb d).more+1+m,by omega,?_⟩
  rw[ln,sP];exact h2
theorem BU {k mask:Nat}(hk:mask+1=2^k): ∀(n i:Nat),lp mask n (i,0)=(wb (2^k) n i,0):=by
 have key: ∀(n:Nat) (x:Nat),wb (2^k) n ((x*5+1) % 2^k)=wb (2^k) (n+1) x:=by
  intro n
  induction n with
  |zero=>intro x;rfl
  |succ n ih=>intro x;show(wb (2^k) n ((x*5+1) % 2^k)*5+1) % 2^k=_;rw[ih x];rfl
 intro n
 induction n with
 |zero=>intro i;rfl
 |succ n ih=>
  intro i;show lp mask n ((i*5+1+0 / 32) % (mask+1),0 / 32)=_;rw[Nat.zero_div,Nat.add_zero,hk,ih,key]
theorem AK(mask:Nat): ∀(m n:Nat) (x:Nat×Nat),lp mask (m+n) x=lp mask n (lp mask m x)
 |0,n,x=>by rw[Nat.zero_add];rfl
 |m+1,n,x=>by rw[Nat.succ_add];exact AK mask m n _
theorem wB(mask:Nat): ∀(n i perturb:Nat),(lp mask n (i,perturb)).2=perturb / 32^n
 |0,i,perturb=>by simp[lp]
 |n+1,i,perturb=>by
  show(lp mask n _).2=_;rw[wB,Nat.div_div_eq_div_mul,<-Nat.pow_succ']
theorem C8(mask:Nat): ∀(n:Nat) (x:Nat×Nat),x.1<=mask->(lp mask n x).1<=mask
 |0,x,h=>h
 |n+1,x,_=>C8 mask n _ (Nat.lt_succ_iff.mp (Nat.mod_lt _ (by omega)))
theorem yX {k mask:Nat}(hk:mask+1=2^k){i perturb:Nat}(hi:i<=mask)(hp:perturb<2^64){j:Nat}(hj:j<=mask): ∃n,n<=13+mask/\(lp mask n (i,perturb)).1=j:=by
 have e13:lp mask 13 (i,perturb)=((lp mask 13 (i,perturb)).1,0):=by
  have:=wB mask 13 i perturb
  rw[Nat.div_eq_of_lt (Nat.lt_of_lt_of_le hp (by decide))] at this
  exact Prod.ext rfl this
 obtain⟨n,hn,e⟩:=E9 (k:=k) (i:=(lp mask 13 (i,perturb)).1) (by have:=C8 mask 13 (i,perturb) hi;omega) (j:=j) (by omega)
 refine⟨13+n,by omega,?_⟩
 rw[AK,e13,BU hk];exact e
def qj(mask:Nat)(h:Int)(d:Option Nat):Pb:=j9 mask (SetTable.bits h % (mask+1)) (SetTable.bits h) d
def Jx(mask:Nat)(h:Int)(m:Nat):Nat:=(eI mask m (qj mask h none)).j
theorem Fc(mask:Nat)(h:Int)(m:Nat)(d:Option Nat):(eI mask m (qj mask h d)).j=Jx mask h m:=by
 have:qj mask h d={qj mask h none with dummy:=d}:=rfl
 rw[this,kH];rfl
theorem wE(h:Int):SetTable.bits h<2^64:=by
 unfold SetTable.bits;have h1:0<=h % (2^64:Int):=Int.emod_nonneg _ (by decide)
 have h2:h % (2^64:Int)<2^64:=Int.emod_lt_of_pos _ (by decide)
 have h3:((2:Int)^64)=((2^64:Nat):Int):=by decide
 omega
theorem EX {k mask:Nat}(hk:mask+1=2^k)(h:Int){j:Nat}(hj:j<=mask): ∃m,m<=10*(13+mask)/\Jx mask h m=j:=by
 obtain⟨n,hn,e⟩:=yX hk (i:=SetTable.bits h % (mask+1)) (perturb:=SetTable.bits h) (Nat.lt_succ_iff.mp (Nat.mod_lt _ (by omega))) (wE h) hj
 obtain⟨m,hm,e2⟩:=vE mask none n (SetTable.bits h % (mask+1)) (SetTable.bits h)
 refine⟨m,by omega,?_⟩
 show(eI mask m (j9 mask (SetTable.bits h % (mask+1)) (SetTable.bits h) none)).j=j;rw[e2];exact e
def Ris(xs:Array Nat):Prop:=xs.toList.Pairwise (·< ·)
theorem Ris.lt {xs:Array Nat}(r:Ris xs){i j:Nat}(hij:i<j){a b:Nat}(ha:xs[i]? =some a)(hb:xs[j]? =some b):a<b:=by
 rw[<-Array.getElem?_toList] at ha hb;obtain⟨h1,e1⟩:=List.getElem?_eq_some_iff.mp ha
 obtain⟨h2,e2⟩:=List.getElem?_eq_some_iff.mp hb
 have:=List.pairwise_iff_getElem.mp r i j h1 h2 hij
 rw[e1,e2] at this;exact this
theorem Ris.inj {xs:Array Nat}(r:Ris xs){i j:Nat}{a:Nat}(ha:xs[i]? =some a)(hb:xs[j]? =some a):i=j:=by
 rcases Nat.lt_trichotomy i j with h|h|h
 ·exact absurd (r.lt h ha hb) (by omega)
 ·exact h
 ·exact absurd (r.lt h hb ha) (by omega)
structure Bel(xs:Array Nat)(j p:Nat):Prop where
 le:p<=xs.size
 lo: ∀i a,i<p->xs[i]? =some a->a<j
 hi: ∀i a,p<=i->xs[i]? =some a->j<=a
theorem vc {xs:Array Nat}(r:Ris xs)(j:Nat): ∀(fuel lo hi:Nat),hi-lo<=fuel->lo<=hi->hi<=xs.size->(∀i a,i<lo->xs[i]? =some a->a<j)->(∀i a,hi<=i->xs[i]? =some a->j<=a)->Bel xs j (SetTable.below.go xs j fuel lo hi)
 |0,lo,hi,h1,h2,h3,h4,h5=>by
  have:lo=hi:=by omega
  subst this;exact⟨h3,h4,h5⟩
 |fuel+1,lo,hi,h1,h2,h3,h4,h5=>by
  unfold SetTable.below.go
  by_cases hlt:lo<hi
  ·rw[if_pos hlt]
   dsimp only;have hm:(lo+hi) / 2<xs.size:=by omega
   have em:xs[(lo+hi) / 2]? =some xs[(lo+hi) / 2]:=Array.getElem?_eq_getElem hm
   have eg:xs.getD ((lo+hi) / 2) j=xs[(lo+hi) / 2]:=by simp[Array.getD,hm]
   rw[eg]
   by_cases c:xs[(lo+hi) / 2]<j
   ·rw[if_pos c]
    refine vc r j fuel _ hi (by omega) (by omega) h3 (λi a hi' ha=>?_) h5
    by_cases e:i=(lo+hi) / 2
    ·subst e;rw[em] at ha;cases ha;exact c
    ·exact Nat.lt_trans (r.lt (by omega) ha em) c
   ·rw[if_neg c]
    refine vc r j fuel lo _ (by omega) (by omega) (by omega) h4 (λi a hi' ha=>?_)
    by_cases e:i=(lo+hi) / 2
    ·subst e;rw[em] at ha;cases ha;omega
    ·have:=r.lt (by omega) em ha;omega
  ·rw[if_neg hlt]
   have:lo=hi:=by omega
   subst this;exact⟨h3,h4,h5⟩
theorem Gy {xs:Array Nat}(r:Ris xs)(j:Nat):Bel xs j (SetTable.below xs j):=vc r j _ _ _ (by omega) (by omega) (by omega) (λi a h _=>absurd h (by omega)) λi a h e=>by
 rw[Array.getElem?_eq_none h] at e;cases e
theorem ql {xs:Array Nat}(r:Ris xs){j i:Nat}(h:xs[i]? =some j):SetTable.below xs j=i:=by
 have b:=Gy r j
 rcases Nat.lt_trichotomy i (SetTable.below xs j) with c|c|c
 ·exact absurd (b.lo i j c h) (by omega)
 ·exact c.symm
 ·have lt:SetTable.below xs j<xs.size:=Nat.lt_trans c (Array.getElem?_eq_some_iff.mp h).1
  have e:xs[SetTable.below xs j]? =some xs[SetTable.below xs j]:=Array.getElem?_eq_getElem lt
  have h1:=b.hi _ _ (Nat.le_refl _) e
  have h2:=r.lt c e h
  omega
theorem jG {xs:Array Nat}(r:Ris xs)(j:Nat):SetTable.has xs j=true↔j∈xs.toList:=by
 unfold SetTable.has;rw[beq_iff_eq];constructor
 ·intro h
  rw[<-Array.getElem?_toList] at h;exact List.mem_of_getElem? h
 ·intro h
  obtain⟨i,hi⟩:=List.mem_iff_getElem?.mp h
  rw[Array.getElem?_toList] at hi;rw[ql r hi];exact hi
structure TOk(t:SetTable)(hs:List Int):Prop where
 pw: ∃k,3<=k/\k<=12/\t.mask+1=2^k
 sz:t.place.size=hs.length
 sp:Ris t.place
 sd:Ris t.dummies
 lp: ∀j∈t.place.toList,j<=t.mask
 ld: ∀j∈t.dummies.toList,j<=t.mask
 dj: ∀j∈t.dummies.toList,j∉t.place.toList
 fl:t.fill<=t.mask
 rc: ∀x∈hs.zip t.place.toList,∃m,Jx t.mask x.1 m=x.2/\ ∀m',m'<m->Jx t.mask x.1 m'∈t.place.toList\/Jx t.mask x.1 m'∈t.dummies.toList
def pi(t:SetTable)(j:Nat):Prop:=j∈t.place.toList\/j∈t.dummies.toList
section
variable {t:SetTable}{hs:List Int}(T:TOk t hs)
include T
theorem TOk.mask:t.mask<=4095:=by
 obtain⟨k,h3,h12,e⟩:=T.pw
 have:=Nat.pow_le_pow_right (n:=2) (by omega) h12
 have:(2:Nat)^12=4096:=by decide
 omega
theorem TOk.noway:t.gaveWay=false:=by
 obtain⟨k,h3,h12,e⟩:=T.pw
 unfold SetTable.gaveWay;have:2^k % 2=0:=by
  obtain⟨m,rfl⟩:=Nat.exists_eq_add_of_le h3
  rw[Nat.pow_add];omega
 rw[beq_eq_false_iff_ne];omega
theorem my {j i:Nat}(h:t.place[i]? =some j):t.slot j=.live i:=by
 unfold SetTable.slot;rw[ql T.sp h,if_pos (by rw[h];exact beq_self_eq_true _)]
theorem oj {j:Nat}(h:j∈t.dummies.toList):t.slot j=.dummy:=by
 unfold SetTable.slot;have e: ¬(t.place[SetTable.below t.place j]? ==some j)=true:=λw=>by
  rw[beq_iff_eq,<-Array.getElem?_toList] at w;exact T.dj j h (List.mem_of_getElem? w)
 dsimp only;rw[if_neg e,if_pos ((jG T.sd j).mpr h)]
theorem ux {j:Nat}(h: ¬pi t j):t.slot j=.empty:=by
 unfold SetTable.slot;have e: ¬(t.place[SetTable.below t.place j]? ==some j)=true:=λw=>by
  rw[beq_iff_eq,<-Array.getElem?_toList] at w;exact h (.inl (List.mem_of_getElem? w))
 dsimp only;rw[if_neg e,if_neg λw=>h (.inr ((jG T.sd j).mp w))]
theorem TOk.room: ∃j,j<=t.mask/\ ¬pi t j:=by
 refine Classical.byContradiction λh=>?_
 have all: ∀j,j<=t.mask->pi t j:=λj hj=>Classical.byContradiction λn=>h ⟨j,hj,n⟩
 have nd:(t.place.toList++t.dummies.toList).Nodup:=by
  refine List.nodup_append.mpr ⟨T.sp.imp λh=>Nat.ne_of_lt h,T.sd.imp λh=>Nat.ne_of_lt h,λa ha b hb e=>?_⟩
  subst e;exact T.dj _ hb ha
 have:t.mask+1<=(t.place.toList++t.dummies.toList).length:=by
  have h1:(List.range (t.mask+1)).length<=(t.place.toList++t.dummies.toList).length:=by
   refine List.Nodup.length_le_of_subset List.nodup_range λj hj=>?_
   rw[List.mem_range] at hj;rw[List.mem_append];exact all j (by omega)
  simpa using h1
 have fl:=T.fl
 unfold SetTable.fill at fl;rw[List.length_append,Array.length_toList,Array.length_toList] at this;omega
theorem TOk.first(h:Int): ∃M,M<=10*(13+t.mask)/\ ¬pi t (Jx t.mask h M)/\ ∀m,m<M->pi t (Jx t.mask h m):=by
 obtain⟨k,_,_,e⟩:=T.pw
 obtain⟨j,hj,hn⟩:=T.room
 obtain⟨m,hm,em⟩:=EX e h hj
 have ex: ∀n,(∃m,m<=n/\ ¬pi t (Jx t.mask h m))-> ∃M,M<=n/\ ¬pi t (Jx t.mask h M)/\ ∀m,m<M->pi t (Jx t.mask h m):=by
  intro n
  induction n with
  |zero=>rintro⟨m,hm,q⟩;obtain rfl:m=0:=(by omega);exact⟨0,by omega,q,λ_ h=>absurd h (by omega)⟩
  |succ n ih=>
   rintro⟨m,hm,q⟩
   by_cases c: ∃m,m<=n/\ ¬pi t (Jx t.mask h m)
   ·obtain⟨M,h1,h2,h3⟩:=ih c;exact⟨M,by omega,h2,h3⟩
   ·have:m=n+1:=Classical.byContradiction λw=>c ⟨m,by omega,q⟩
    subst this;exact⟨n+1,by omega,q,λm' hm'=>Classical.byContradiction λw=>c ⟨m',by omega,w⟩⟩
 obtain⟨M,h1,h2,h3⟩:=ex (10*(13+t.mask)) ⟨m,hm,by rw[em];exact hn⟩
 exact⟨M,h1,h2,h3⟩
end
def GQ(t:SetTable)(h:Int)(M:Nat)(d:Option Nat):Prop:= ∀x,d=some x->x∈t.dummies.toList/\ ∃m,m<M/\Jx t.mask h m=x
def Fl(t:SetTable)(hashAt:Nat->Int)(h:Int)(m n:Nat):Prop:= ∀m',m<=m'->m'<n-> ∀i:Nat,t.place[i]? =some (Jx t.mask h m')->hashAt i≠h
theorem rh(mask:Nat)(h:Int)(m:Nat)(d:Option Nat):eI mask m (qj mask h d)=⟨Jx mask h m,(eI mask m (qj mask h none)).more,(eI mask m (qj mask h none)).i,(eI mask m (qj mask h none)).perturb,d⟩:=kH mask d m (qj mask h none)
section
variable {t:SetTable}{hs:List Int}(T:TOk t hs)
include T
theorem n5(hashAt:Nat->Int){h:Int}{M:Nat}(h1: ¬pi t (Jx t.mask h M))(h2: ∀m,m<M->pi t (Jx t.mask h m)): ∀(fuel m:Nat) (d:Option Nat),M<m+fuel->m<=M->GQ t h M d->
 ∃r,SetTable.probe.go t hashAt h fuel (eI t.mask m (qj t.mask h d))=some r/\
  ((∃d',r=.empty (Jx t.mask h M) d'/\GQ t h M d'/\Fl t hashAt h m M)\/
   (∃c i d',m<=c/\c<M/\t.place[i]? =some (Jx t.mask h c)/\hashAt i=h/\r=.candidate (Jx t.mask h c) i (eI t.mask (c+1) (qj t.mask h d'))/\GQ t h M d'/\Fl t hashAt h m c))
 |0,m,d,q1,q2,_=>absurd q1 (by omega)
 |fuel+1,m,d,q1,q2,hd=>by
  unfold SetTable.probe.go;rw[Fc]
  by_cases em:m=M
  ·subst em
   rw[ux T h1];have ed:(eI t.mask m (qj t.mask h d)).dummy=d:=by rw[rh]
   exact⟨_,rfl,.inl ⟨d,by rw[ed],hd,λm' a b=>absurd a (by omega)⟩⟩
  ·have lt:m<M:=by omega
   rcases h2 m lt with hu|hu
   ·obtain⟨i,hi⟩:=List.mem_iff_getElem?.mp hu
    rw[Array.getElem?_toList] at hi;rw[my T hi];dsimp only
    by_cases eh:hashAt i=h
    ·rw[if_pos (beq_iff_eq.mpr eh),uq,<-iD]
     exact⟨_,rfl,.inr ⟨m,i,d,Nat.le_refl _,lt,hi,eh,rfl,hd,λm' a b=>absurd a (by omega)⟩⟩
    ·rw[if_neg (λw=>eh (beq_iff_eq.mp w)),uq,<-iD]
     obtain⟨r,hr,hc⟩:=n5 hashAt h1 h2 fuel (m+1) d (by omega) (by omega) hd
     have nc: ∀n,Fl t hashAt h (m+1) n->Fl t hashAt h m n:=λn q m' a b i' hi'=>by
      by_cases e:m'=m
      ·subst e;rw[T.sp.inj hi' hi];exact eh
      ·exact q m' (by omega) b i' hi'
     refine⟨r,hr,?_⟩
     rcases hc with⟨d',e,dd,q⟩|⟨c,i',d',a,b,e1,e2,e3,dd,q⟩
     ·exact .inl ⟨d',e,dd,nc _ q⟩
     ·exact .inr ⟨c,i',d',by omega,b,e1,e2,e3,dd,nc _ q⟩
   ·rw[oj T hu]
    dsimp only;have e:(⟨Jx t.mask h m,(eI t.mask m (qj t.mask h d)).more,(eI t.mask m (qj t.mask h d)).i,(eI t.mask m (qj t.mask h d)).perturb,some (Jx t.mask h m)⟩:Pb)=eI t.mask m (qj t.mask h (some (Jx t.mask h m))):=by
     rw[rh,rh t.mask h m (some _)]
    rw[uq,e,<-iD];obtain⟨r,hr,hc⟩:=n5 hashAt h1 h2 fuel (m+1) (some (Jx t.mask h m)) (by omega) (by omega) (λx hx=>by cases hx;exact⟨hu,m,lt,rfl⟩)
    have nc: ∀n,Fl t hashAt h (m+1) n->Fl t hashAt h m n:=λn q m' a b i' hi'=>by
     by_cases e:m'=m
     ·subst e;exact absurd (List.mem_of_getElem? (by rw[Array.getElem?_toList];exact hi')) (T.dj _ hu)
     ·exact q m' (by omega) b i' hi'
    refine⟨r,hr,?_⟩
    rcases hc with⟨d',e,dd,q⟩|⟨c,i',d',a,b,e1,e2,e3,dd,q⟩
    ·exact .inl ⟨d',e,dd,nc _ q⟩
    ·exact .inr ⟨c,i',d',by omega,b,e1,e2,e3,dd,nc _ q⟩
end
theorem fH {α:Type}(xs:Array α)(p:Nat):(SetTable.eraseAt xs p).toList=xs.toList.eraseIdx p:=by
 unfold SetTable.eraseAt;rw[List.eraseIdx_eq_take_drop_succ];simp[List.extract_eq_take_drop,List.take_of_length_le]
theorem pG {l:List Nat}(r:l.Pairwise (·< ·)){p j:Nat}(hp:l[p]? =some j)(x:Nat):x∈l.eraseIdx p↔x∈l/\x≠j:=by
 rw[List.mem_eraseIdx_iff_getElem?];constructor
 ·rintro⟨i,ne,e⟩
  refine⟨List.mem_of_getElem? e,λw=>ne ?_⟩
  subst w;obtain⟨h1,e1⟩:=List.getElem?_eq_some_iff.mp e
  obtain⟨h2,e2⟩:=List.getElem?_eq_some_iff.mp hp
  rcases Nat.lt_trichotomy i p with c|c|c
  ·have:=List.pairwise_iff_getElem.mp r i p h1 h2 c;omega
  ·exact c
  ·have:=List.pairwise_iff_getElem.mp r p i h2 h1 c;omega
 ·rintro⟨h,ne⟩
  obtain⟨i,hi⟩:=List.mem_iff_getElem?.mp h
  exact⟨i,λw=>by subst w;rw[hp] at hi;cases hi;exact ne rfl,hi⟩
theorem nP {xs:Array Nat}(r:Ris xs){j:Nat}(n:j∉xs.toList):Ris (SetTable.insertAt xs (SetTable.below xs j) j):=by
 have b:=Gy r j
 unfold Ris;rw[SetTable.toList_insertAt,List.pairwise_append];have hlo: ∀a∈xs.toList.take (SetTable.below xs j),a<j:=λa ha=>by
  obtain⟨i,hi⟩:=List.mem_iff_getElem?.mp ha
  rw[List.getElem?_take] at hi;split at hi
  ·rename_i c;rw[Array.getElem?_toList] at hi;exact b.lo i a c hi
  ·cases hi
 have hhi: ∀a∈xs.toList.drop (SetTable.below xs j),j<a:=λa ha=>by
  obtain⟨i,hi⟩:=List.mem_iff_getElem?.mp ha
  rw[List.getElem?_drop] at hi;have hm:=List.mem_of_getElem? hi
  rw[Array.getElem?_toList] at hi;have:=b.hi _ a (Nat.le_add_right _ _) hi
  have:a≠j:=λw=>n (w▸hm)
  omega
 refine⟨List.Pairwise.sublist (List.take_sublist _ _) r,?_,λa ha c hc=>?_⟩
 ·exact List.pairwise_cons.mpr ⟨hhi,List.Pairwise.sublist (List.drop_sublist _ _) r⟩
 ·rcases List.mem_cons.mp hc with rfl|hc
  ·exact hlo a ha
  ·exact Nat.lt_trans (hlo a ha) (hhi c hc)
theorem oM {α:Type}(xs:Array α)(p:Nat)(x y:α):y∈(SetTable.insertAt xs p x).toList↔y=x\/y∈xs.toList:=by
 rw[SetTable.toList_insertAt,List.mem_append,List.mem_cons]
 conv=>rhs;rw[<-List.take_append_drop p xs.toList,List.mem_append]
 constructor
 ·rintro(h|h|h)
  ·exact .inr (.inl h)
  ·exact .inl h
  ·exact .inr (.inr h)
 ·rintro(h|h|h)
  ·exact .inr (.inl h)
  ·exact .inl h
  ·exact .inr (.inr h)
def fO {α:Type}(l:List α)(p:Nat)(x:α):List α:=l.take p++x::l.drop p
theorem Bq {α β:Type}(l:List α)(m:List β)(p:Nat)(a:α)(b:β)(h:l.length=m.length):(fO l p a).zip (fO m p b)=fO (l.zip m) p (a,b):=by
 unfold fO;rw[List.zip_append (by rw[List.length_take,List.length_take,h]),List.zip_cons_cons]
 unfold List.zip;rw[List.take_zipWith,List.drop_zipWith]
theorem TOk.put {t:SetTable}{hs:List Int}(T:TOk t hs){h:Int}{j:Nat}(hj:j<=t.mask)(n:j∉t.place.toList)(rc: ∃m,Jx t.mask h m=j/\ ∀m',m'<m->pi t (Jx t.mask h m'))
 (fl:(t.put j).1.fill<=t.mask):TOk (t.put j).1 (fO hs (t.put j).2 h):=by
 have el:(t.put j).1.place.toList=fO t.place.toList (t.put j).2 j:=SetTable.toList_insertAt _ _ _
 have mp: ∀y,y∈(t.put j).1.place.toList↔y=j\/y∈t.place.toList:=oM t.place _ j
 have md: ∀y,y∈(t.put j).1.dummies.toList↔y∈t.dummies.toList/\y≠j:=λy=>by
  show y∈(if SetTable.has t.dummies j=true then SetTable.eraseAt t.dummies (SetTable.below t.dummies j) else t.dummies).toList↔_
  split
  ·rename_i c
   have c2:=(jG T.sd j).mp c
   obtain⟨i,hi⟩:=List.mem_iff_getElem?.mp c2
   rw[fH,ql T.sd (by rw[<-Array.getElem?_toList];exact hi)]
   exact pG T.sd hi y
  ·rename_i c
   exact⟨λq=>⟨q,λw=>c ((jG T.sd j).mpr (w▸q))⟩,λq=>q.1⟩
 have us: ∀y,pi t y->y∈(t.put j).1.place.toList\/y∈(t.put j).1.dummies.toList:=λy q=>by
  rcases q with q|q
  ·exact .inl ((mp y).mpr (.inr q))
  ·by_cases e:y=j
   ·exact .inl ((mp y).mpr (.inl e))
   ·exact .inr ((md y).mpr ⟨q,e⟩)
 refine⟨T.pw,?_,nP T.sp n,?_,λy q=>?_,λy q=>T.ld y ((md y).mp q).1,λy q w=>?_,fl,λx hx=>?_⟩
 ·rw[<-Array.length_toList,el]
  unfold fO;have:=T.sz
  rw[<-Array.length_toList] at this;simp[this]
 ·show Ris (if SetTable.has t.dummies j=true then SetTable.eraseAt t.dummies (SetTable.below t.dummies j) else t.dummies)
  split
  ·unfold Ris
   rw[fH];exact List.Pairwise.sublist (List.eraseIdx_sublist _ _) T.sd
  ·exact T.sd
 ·rcases(mp y).mp q with rfl|q
  ·exact hj
  ·exact T.lp y q
 ·have q':=(md y).mp q
  rcases(mp y).mp w with rfl|w
  ·exact q'.2 rfl
  ·exact T.dj y q'.1 w
 ·rw[el,Bq _ _ _ _ _ (by rw[Array.length_toList];exact T.sz.symm)] at hx
  unfold fO at hx;have hx:x=(h,j)\/x∈hs.zip t.place.toList:=by
   rcases List.mem_append.mp hx with q|q
   ·exact .inr (List.mem_of_mem_take q)
   ·rcases List.mem_cons.mp q with q|q
    ·exact .inl q
    ·exact .inr (List.mem_of_mem_drop q)
  rcases hx with rfl|hx
  ·obtain⟨m,e,q⟩:=rc
   exact⟨m,e,λm' hm=>us _ (q m' hm)⟩
  ·obtain⟨m,e,q⟩:=T.rc x hx
   exact⟨m,e,λm' hm=>us _ (q m' hm)⟩
theorem TOk.drop {t:SetTable}{hs:List Int}(T:TOk t hs){i j:Nat}(hi:t.place[i]? =some j):TOk (t.drop i) (hs.eraseIdx i):=by
 have ed:t.drop i={t with place:=SetTable.eraseAt t.place i,dummies:=SetTable.insertAt t.dummies (SetTable.below t.dummies j) j}:=by
  unfold SetTable.drop;rw[hi]
 have hi':t.place.toList[i]? =some j:=by rw[Array.getElem?_toList];exact hi
 have jm:j∈t.place.toList:=List.mem_of_getElem? hi'
 have lt:i<t.place.size:=(Array.getElem?_eq_some_iff.mp hi).1
 rw[ed];have el:(SetTable.eraseAt t.place i).toList=t.place.toList.eraseIdx i:=fH _ _
 have mp: ∀y,y∈(SetTable.eraseAt t.place i).toList↔y∈t.place.toList/\y≠j:=λy=>by rw[el];exact pG T.sp hi' y
 have md:=oM t.dummies (SetTable.below t.dummies j) j
 have us: ∀y,pi t y->y∈(SetTable.eraseAt t.place i).toList\/y∈(SetTable.insertAt t.dummies (SetTable.below t.dummies j) j).toList:=λy q=>by
  rcases q with q|q
  ·by_cases e:y=j
   ·exact .inr ((md y).mpr (.inl e))
   ·exact .inl ((mp y).mpr ⟨q,e⟩)
  ·exact .inr ((md y).mpr (.inr q))
 refine⟨T.pw,?_,?_,nP T.sd λw=>T.dj j w jm,λy q=>T.lp y ((mp y).mp q).1,λy q=>?_,λy q w=>?_,?_,λx hx=>?_⟩
 ·show(SetTable.eraseAt t.place i).size=_
  rw[<-Array.length_toList,el,List.length_eraseIdx,List.length_eraseIdx,Array.length_toList,T.sz]
 ·show Ris (SetTable.eraseAt t.place i)
  unfold Ris;rw[el];exact List.Pairwise.sublist (List.eraseIdx_sublist _ _) T.sp
 ·rcases(md y).mp q with rfl|q
  ·exact T.lp y jm
  ·exact T.ld y q
 ·have w':=(mp y).mp w
  rcases(md y).mp q with rfl|q
  ·exact w'.2 rfl
  ·exact T.dj y q w'.1
 ·show(SetTable.eraseAt t.place i).size+(SetTable.insertAt t.dummies (SetTable.below t.dummies j) j).size<=t.mask
  have fl:=T.fl
  unfold SetTable.fill at fl;rw[<-Array.length_toList,el,List.length_eraseIdx,<-Array.length_toList (xs:=SetTable.insertAt _ _ _),SetTable.toList_insertAt,if_pos (by rw[Array.length_toList];exact lt)]
  simp;omega
 ·have hx:x∈(hs.eraseIdx i).zip (t.place.toList.eraseIdx i):=by rw[<-el];exact hx
  have:x∈hs.zip t.place.toList:=by
   obtain⟨n,hn⟩:=List.mem_iff_getElem?.mp hx
   rw[List.getElem?_zip_eq_some,List.getElem?_eraseIdx,List.getElem?_eraseIdx] at hn;obtain⟨h1,h2⟩:=hn
   split at h1
   ·rw[if_pos (by assumption)] at h2;exact List.mem_iff_getElem?.mpr ⟨n,List.getElem?_zip_eq_some.mpr ⟨h1,h2⟩⟩
   ·rw[if_neg (by assumption)] at h2;exact List.mem_iff_getElem?.mpr ⟨n+1,List.getElem?_zip_eq_some.mpr ⟨h1,h2⟩⟩
  obtain⟨m,e,q⟩:=T.rc x this
  exact⟨m,e,λm' hm=>us _ (q m' hm)⟩
abbrev mJ:=Array (Option Nat)
def A6(ow:mJ)(j:Nat):Prop:=ow[j]? =some none
def BD(ow:mJ)(j:Nat):Prop:= ∃k,ow[j]? =some (some k)
theorem fre_is {ow:mJ}{j:Nat}:(ow.getD j (some 0)).isNone=true↔A6 ow j:=by
 unfold A6 Array.getD
 by_cases h:j<ow.size
 ·simp only[h,dite_true]
  rw[Array.getElem?_eq_getElem h];show(ow[j]).isNone=true↔_;rw[Option.isNone_iff_eq_none,Option.some.injEq]
 ·simp[h]
theorem uS {ow:mJ}{j:Nat}(h:j<ow.size)(n: ¬A6 ow j):BD ow j:=by
 unfold A6 at n;unfold BD;rw[Array.getElem?_eq_getElem h] at n⊢;cases e:ow[j] with
 |none=>rw[e] at n;exact absurd rfl n
 |some k=>exact⟨k,rfl⟩
def Jl(mask i p m:Nat):Nat:=(eI mask m (j9 mask i p none)).j
theorem mI {mask i:Nat}(hi:i<=mask):SetTable.runEnd mask i<=mask/\i<=SetTable.runEnd mask i:=by
 unfold SetTable.runEnd;split<;>omega
theorem uE {mask i p m:Nat}(h:i+m<=SetTable.runEnd mask i):Jl mask i p m=i+m:=by
 unfold Jl;rw[qP mask m _ (show m<=SetTable.runEnd mask i-i by omega)]
 rfl
theorem wa(mask i p m:Nat):Jl mask i p ((SetTable.runEnd mask i-i)+1+m)=Jl mask ((i*5+1+p / 32) % (mask+1)) (p / 32) m:=by
 unfold Jl;rw[ln];have:=sP mask (j9 mask i p none)
 have e:(j9 mask i p none).more=SetTable.runEnd mask i-i:=rfl
 rw[e] at this;rw[this];rfl
theorem vQ {mask:Nat}{ow:mJ}(hz:ow.size=mask+1): ∀(fuel i p:Nat),i<=mask->(∃n,n<fuel/\A6 ow (lp mask n (i,p)).1)->
 ∃j m,SetTable.layClean.free mask ow fuel i p=some j/\A6 ow j/\Jl mask i p m=j/\ ∀m',m'<m->BD ow (Jl mask i p m')
 |0,i,p,_,⟨n,h,_⟩=>absurd h (Nat.not_lt_zero _)
 |fuel+1,i,p,hi,⟨n,h,hf⟩=>by
  have re:=mI hi
  unfold SetTable.layClean.free;cases e:(List.range (SetTable.runEnd mask i+1-i)).find? λk=>(ow.getD (i+k) (some 0)).isNone with
  |some k=>
   have h1:=List.find?_some e
   have hk:k<SetTable.runEnd mask i+1-i:=List.mem_range.mp (List.mem_of_find?_eq_some e)
   refine⟨i+k,k,rfl,fre_is.mp h1,uE (by omega),λm' hm=>?_⟩
   rw[uE (by omega)]
   refine uS (by omega) λw=>?_
   rw[List.find?_range_eq_some] at e;have:=e.2.2 m' hm
   rw[fre_is.mpr w] at this;exact absurd this (by decide)
  |none=>
   have no: ∀k,k<SetTable.runEnd mask i+1-i-> ¬A6 ow (i+k):=λk hk w=>by
    have:=List.find?_eq_none.mp e k (List.mem_range.mpr hk)
    exact this (fre_is.mpr w)
   dsimp only;obtain⟨j,m,g1,g2,g3,g4⟩:=vQ hz fuel ((i*5+1+p / 32) % (mask+1)) (p / 32) (Nat.lt_succ_iff.mp (Nat.mod_lt _ (by omega))) (by
    cases n with
    |zero=>exact absurd hf (no 0 (by omega))
    |succ n=>exact⟨n,by omega,hf⟩)
   refine⟨j,(SetTable.runEnd mask i-i)+1+m,g1,g2,by rw[wa];exact g3,λm' hm=>?_⟩
   by_cases c:m'<=SetTable.runEnd mask i-i
   ·rw[uE (by omega)]
    exact uS (by omega) (no m' (by omega))
   ·obtain⟨m2,rfl⟩:=Nat.exists_eq_add_of_le (show SetTable.runEnd mask i-i+1<=m' by omega)
    rw[wa];exact g4 m2 (by omega)
structure LInv(mask:Nat)(ow:mJ)(hs:List Int):Prop where
 sz:ow.size=mask+1
 lt: ∀(j k:Nat),ow[j]? =some (some k)->k<hs.length
 un: ∀(j j' k:Nat),ow[j]? =some (some k)->ow[j']? =some (some k)->j=j'
 ex: ∀(k:Nat) (h:Int),hs[k]? =some h-> ∃j m:Nat,ow[j]? =some (some k)/\Jx mask h m=j/\ ∀m',m'<m->BD ow (Jx mask h m')
theorem LInv.room {mask:Nat}{ow:mJ}{hs:List Int}(I:LInv mask ow hs)(hl:hs.length<=mask): ∃j,j<=mask/\A6 ow j:=by
 refine Classical.byContradiction λh=>?_
 have all: ∀j,j<=mask->BD ow j:=λj hj=>uS (by rw[I.sz];omega) λw=>h ⟨j,hj,w⟩
 let f:Nat->Nat:=λj=>((ow[j]?).getD none).getD 0
 have hf: ∀j,j<=mask->ow[j]? =some (some (f j)):=λj hj=>by
  obtain⟨k,e⟩:=all j hj
  show _=some (some (((ow[j]?).getD none).getD 0));rw[e];rfl
 have nd:((List.range (mask+1)).map f).Nodup:=by
  rw[List.Nodup,List.pairwise_map];refine List.Pairwise.imp_of_mem (λ{a b} ha hb hab e=>?_) List.pairwise_lt_range
  rw[List.mem_range] at ha hb;have:=I.un a b (f a) (hf a (by omega)) (by rw[e];exact hf b (by omega))
  omega
 have:=pk nd (n:=hs.length) λz hz=>by
  obtain⟨j,hj,rfl⟩:=List.mem_map.mp hz
  exact I.lt j _ (hf j (by rw[List.mem_range] at hj;omega))
 simp at this;omega
theorem AD {k mask:Nat}(hk:mask+1=2^k){ow:mJ}{hs:List Int}(I:LInv mask ow hs)(hl:hs.length<=mask)(h:Int):
 ∃j,SetTable.layClean.free mask ow (SetTable.turns mask) (SetTable.bits h % (mask+1)) (SetTable.bits h)=some j/\LInv mask (ow.setIfInBounds j (some hs.length)) (hs++[h]):=by
 obtain⟨jf,h1,h2⟩:=I.room hl
 have hi:SetTable.bits h % (mask+1)<=mask:=Nat.lt_succ_iff.mp (Nat.mod_lt _ (by omega))
 obtain⟨n,hn,e⟩:=yX hk hi (wE h) h1
 obtain⟨j,m,g1,g2,g3,g4⟩:=vQ I.sz (SetTable.turns mask) _ _ hi ⟨n,by unfold SetTable.turns;omega,by rw[e];exact h2⟩
 have jl:j<ow.size:=by
  unfold A6 at g2;exact(Array.getElem?_eq_some_iff.mp g2).1
 have gs: ∀x,(ow.setIfInBounds j (some hs.length))[x]? =if j=x then some (some hs.length) else ow[x]? :=λx=>by
  rw[Array.getElem?_setIfInBounds];split<;>rfl
 have occ': ∀x,BD ow x->BD (ow.setIfInBounds j (some hs.length)) x:=λx hq_=>by
  obtain⟨q,hq⟩:=hq_
  unfold BD;rw[gs];split
  ·exact⟨_,rfl⟩
  ·exact⟨q,hq⟩
 refine⟨j,g1,by rw[Array.size_setIfInBounds];exact I.sz,λx q hq=>?_,λx x' q hq hq'=>?_,λq z hz=>?_⟩
 ·rw[gs] at hq
  rw[List.length_append,List.length_singleton];split at hq
  ·cases hq;omega
  ·have:=I.lt x q hq;omega
 ·rw[gs] at hq hq'
  split at hq
  ·rename_i c
   cases hq
   split at hq'
   ·rename_i c';rw[<-c,<-c']
   ·have:=I.lt _ _ hq';omega
  ·split at hq'
   ·cases hq';have:=I.lt _ _ hq;omega
   ·exact I.un x x' q hq hq'
 ·by_cases c:q<hs.length
  ·rw[List.getElem?_append_left c] at hz
   obtain⟨x,m',e1,e2,e3⟩:=I.ex q z hz
   refine⟨x,m',?_,e2,λm'' hm=>occ' _ (e3 m'' hm)⟩
   rw[gs,if_neg λw=>?_]
   ·exact e1
   ·subst w;unfold A6 at g2;rw[g2] at e1;cases e1
  ·have hq:q=hs.length:=by
    have:=(List.getElem?_eq_some_iff.mp hz).1
    rw[List.length_append,List.length_singleton] at this;omega
   subst hq;rw[List.getElem?_append_right (Nat.le_refl _),Nat.sub_self] at hz;cases hz
   exact⟨j,m,by rw[gs,if_pos rfl],g3,λm' hm=>occ' _ (g4 m' hm)⟩
theorem wc {k mask:Nat}(hk:mask+1=2^k): ∀(rest hs:List Int) (ow:mJ),LInv mask ow hs->hs.length+rest.length<=mask+1->
 ∃ow',rest.foldl (λacc h=>do
  let(owner,k) <-acc
  let j <-SetTable.layClean.free mask owner (SetTable.turns mask) (SetTable.bits h % (mask+1)) (SetTable.bits h)
  pure (owner.setIfInBounds j (some k),k+1)) (some (ow,hs.length))=some (ow',hs.length+rest.length)/\LInv mask ow' (hs++rest)
 | [],hs,ow,I,_=>⟨ow,rfl,by rw[List.append_nil];exact I⟩
 |h::rest,hs,ow,I,hl=>by
  rw[List.length_cons] at hl;obtain⟨j,e,I'⟩:=AD hk I (by omega) h
  obtain⟨ow',e2,I2⟩:=wc hk rest (hs++[h]) _ I' (by rw[List.length_append,List.length_singleton];omega)
  rw[List.length_append,List.length_singleton] at e2;refine⟨ow',?_,by rw[List.append_assoc] at I2;exact I2⟩
  rw[List.foldl_cons];have:(do
   let(owner,k) <-some (ow,hs.length)
   let j <-SetTable.layClean.free mask owner (SetTable.turns mask) (SetTable.bits h % (mask+1)) (SetTable.bits h)
   pure (owner.setIfInBounds j (some k),k+1):Option (mJ×Nat))=some (ow.setIfInBounds j (some hs.length),hs.length+1):=by
   show(SetTable.layClean.free mask ow (SetTable.turns mask) (SetTable.bits h % (mask+1)) (SetTable.bits h)).bind (λj=>some (ow.setIfInBounds j (some hs.length),hs.length+1))=_
   rw[e];rfl
  rw[this,e2,List.length_cons];congr 2;omega
theorem xh(mask:Nat):LInv mask (Array.replicate (mask+1) none) [] where
 sz:=by simp
 lt:=λj k h=>by
  rw[Array.getElem?_replicate] at h;split at h<;>cases h
 un:=λj j' k h=>by
  rw[Array.getElem?_replicate] at h;split at h<;>cases h
 ex:=λk h e=>by simp at e
def h7(mask:Nat)(ow:mJ):List (Nat×Nat):=(List.range (mask+1)).filterMap λj=>(ow.getD j none).map (j, ·)
theorem yN {mask:Nat}{ow:mJ}(hz:ow.size=mask+1){x:Nat×Nat}:x∈h7 mask ow↔ow[x.1]? =some (some x.2):=by
 unfold h7;rw[List.mem_filterMap];constructor
 ·rintro⟨j,hj,e⟩
  rw[List.mem_range] at hj;have:j<ow.size:=by omega
  simp only[Array.getD,this,dite_true] at e;obtain⟨k,e1,rfl⟩:=Option.map_eq_some_iff.mp e
  show ow[j]? =some (some k);rw[Array.getElem?_eq_getElem this,<-e1];rfl
 ·intro h
  obtain⟨h1,h2⟩:=Array.getElem?_eq_some_iff.mp h
  refine⟨x.1,List.mem_range.mpr (by omega),?_⟩
  simp only[Array.getD,h1,dite_true];have:ow.getInternal x.1 h1=some x.2:=h2
  rw[this];rfl
theorem sU(mask:Nat)(ow:mJ):((h7 mask ow).map (·.1)).Pairwise (·< ·):=by
 unfold h7;have: ∀l:List Nat,(l.filterMap λj=>(ow.getD j none).map (j, ·)).map (·.1)=l.filter λj=>(ow.getD j none).isSome:=by
  intro l
  induction l with
  |nil=>rfl
  |cons j l ih=>
   rw[List.filterMap_cons,List.filter_cons];cases e:ow.getD j none with
   |none=>exact ih
   |some k=>show j::_=_;rw[ih];rfl
 rw[this];exact List.Pairwise.filter _ List.pairwise_lt_range
theorem CC {k mask:Nat}(h3:3<=k)(h12:k<=12)(hk:mask+1=2^k)(finger moves:Nat)(led plain:Bool)(hs:Array Int)(hl:hs.size<=mask):
 ∃place order:Array Nat,SetTable.laid mask finger moves led plain hs=some (⟨mask,place, #[],finger,led,moves,plain⟩,order)/\order.toList.Perm (List.range hs.size)/\
  TOk ⟨mask,place, #[],finger,led,moves,plain⟩ (order.toList.map λk=>hs.toList.getD k 0):=by
 obtain⟨ow,e,I⟩:=wc hk hs.toList [] _ (xh mask) (by simp;omega)
 rw[List.nil_append] at I;have elay:SetTable.layClean mask hs=some ow:=by
  unfold SetTable.layClean;rw[<-Array.foldl_toList];have e:hs.toList.foldl _ (some (Array.replicate (mask+1) none,0))=_:=e
  rw[e];rfl
 have mem:= @yN mask ow I.sz
 have o1:((h7 mask ow).map (·.2)).Nodup:=by
  rw[List.Nodup,List.pairwise_map];have:=sU mask ow
  rw[List.pairwise_map] at this;refine this.imp_of_mem λ{a b} ha hb hab w=>?_
  have h1:=mem.mp ha
  have h2:=mem.mp hb
  rw[<-w] at h2;have:=I.un _ _ _ h1 h2
  omega
 have o2: ∀k,k∈(h7 mask ow).map (·.2)↔k∈List.range hs.size:=λk=>by
  rw[List.mem_map,List.mem_range];constructor
  ·rintro⟨x,hx,rfl⟩
   have:=I.lt _ _ (mem.mp hx)
   simpa using this
  ·intro h
   obtain⟨j,m,h1,_⟩:=I.ex k (hs.toList[k]'(by simpa using h)) (List.getElem?_eq_getElem _)
   exact⟨(j,k),mem.mpr h1,rfl⟩
 have occ: ∀x,BD ow x->x∈(h7 mask ow).map (·.1):=λx ⟨q,hq⟩=>List.mem_map.mpr ⟨(x,q),mem.mpr hq,rfl⟩
 refine⟨((h7 mask ow).map (·.1)).toArray,((h7 mask ow).map (·.2)).toArray,?_,?_,⟨k,h3,h12,hk⟩,?_,?_,?_,?_,?_,?_,?_,?_⟩
 ·unfold SetTable.laid
  rw[elay];rfl
 ·exact(List.perm_ext_iff_of_nodup o1 List.nodup_range).mpr o2
 ·simp
 ·exact sU mask ow
 ·exact List.Pairwise.nil
 ·intro j hj
  obtain⟨x,hx,rfl⟩:=List.mem_map.mp hj
  have:=(Array.getElem?_eq_some_iff.mp (mem.mp hx)).1
  show x.1<=mask;rw[I.sz] at this;omega
 ·intro j hj;cases hj
 ·intro j hj;cases hj
 ·show((h7 mask ow).map (·.1)).toArray.size+0<=mask
  have hp:=((List.perm_ext_iff_of_nodup o1 List.nodup_range).mpr o2).length_eq
  simp at hp⊢;omega
 ·intro x hx
  have hx:x∈((((h7 mask ow).map (·.2)).map λk=>hs.toList.getD k 0)).zip ((h7 mask ow).map (·.1)):=hx
  rw[List.map_map,List.zip_map'] at hx;obtain⟨y,hy,rfl⟩:=List.mem_map.mp hx
  have hy':=mem.mp hy
  have lt:=I.lt _ _ hy'
  obtain⟨j,m,e1,e2,e3⟩:=I.ex y.2 (hs.toList[y.2]'lt) (List.getElem?_eq_getElem _)
  have ej:=I.un _ _ _ e1 hy'
  have eg:hs.toList.getD y.2 0=hs.toList[y.2]'lt:=by rw[List.getD,List.getElem?_eq_getElem lt];rfl
  refine⟨m,?_,λm' hm=>.inl ?_⟩
  ·show Jx mask (hs.toList.getD y.2 0) m=y.1
   rw[eg,e2,ej]
  ·show Jx mask (hs.toList.getD y.2 0) m'∈((h7 mask ow).map (·.1))
   rw[eg];exact occ _ (e3 m' hm)
theorem lj: ∀(fuel s n:Nat),n<s*2^fuel-> ∃e,e<=fuel/\SetTable.sizeAbove.go n fuel s=s*2^e/\n<s*2^e/\(e=0\/s*2^e<=2*n)
 |0,s,n,h=>⟨0,by omega,by simp[SetTable.sizeAbove.go],h,.inl rfl⟩
 |fuel+1,s,n,h=>by
  unfold SetTable.sizeAbove.go
  by_cases c:s<=n
  ·rw[if_pos c]
   obtain⟨e,h1,h2,h3,h4⟩:=lj fuel (s*2) n (by rw[Nat.pow_succ'] at h;rw[Nat.mul_assoc];exact h)
   refine⟨e+1,by omega,by rw[h2,Nat.pow_succ',Nat.mul_assoc],by rw[Nat.pow_succ',<-Nat.mul_assoc];exact h3,.inr ?_⟩
   rw[Nat.pow_succ',<-Nat.mul_assoc];rcases h4 with rfl|h4
   ·simp;omega
   ·exact h4
  ·rw[if_neg c]
   exact⟨0,by omega,by simp,by simp;omega,.inl rfl⟩
theorem lv {n:Nat}(hn:n<=4095): ∃k,3<=k/\k<=12/\SetTable.sizeAbove n=2^k/\n<2^k:=by
 obtain⟨e,h1,h2,h3,h4⟩:=lj 64 8 n (Nat.lt_of_le_of_lt hn (by decide))
 have hp:8*2^e=2^(3+e):=by rw[Nat.pow_add]
 refine⟨3+e,by omega,?_,h2.trans hp,by rw[<-hp];exact h3⟩
 rcases h4 with rfl|h4
 ·omega
 ·refine Classical.byContradiction λc=>?_
  have:=Nat.pow_le_pow_right (n:=2) (by omega) (show 13<=3+e by omega)
  rw[<-hp] at this;have:(2:Nat)^13=8192:=by decide
  omega
open PySem PySem.Spec PyProof.Rows
def th(ks:List Int):Int:=reduceHash (Builtin.Tuple.tupleHashOf (ks.map hashInt))
abbrev KI(prog:Program)(w:World):HeapKind prog w (List Int):=tupleKind (intKind prog w)
theorem zH(prog:Program)(w:World)(ks:List Int):(KI prog w).hash ks=th ks:=rfl
def BL(x:List Int×Addr):Int×Value:=(th x.1,.ref x.2)
abbrev lE:=List (List Int×Addr)
def sL(xs:lE):List Int:=xs.map λx=>th x.1
def BB(prog:Program)(w:World)(h:Heap)(xs:lE):Prop:= ∀x∈xs,(KI prog w).is h x.1 x.2
structure SetAt(w:World)(o:Obj)(es:Array (Int×Value))(ep:Nat)(t:SetTable)(xs:lE):Prop where
 ex:o.ExactSet
 hd:o.data=.set es ep t
 he:es.toList=xs.map BL
 T:TOk t (sL xs)
 led:t.led= !w.params.followText "set-order"
 pl:t.plain=true
 nd:(xs.map (·.1)).Nodup
section
variable {prog:Program}{w:World}{A:Around}{E:Value->Shared->Prop}{s:Shared}{a b:Addr}{o:Obj}{es:Array (Int×Value)}{ep:Nat}{t:SetTable}{xs:lE}{k:List Int}
theorem SetAt.size(S:SetAt w o es ep t xs):es.size=xs.length:=by
 have:=congrArg List.length S.he
 simpa using this
theorem SetAt.fits(S:SetAt w o es ep t xs):t.fits es.size=true:=by
 have h1:=S.T.sz
 have h2:=S.T.fl
 unfold sL at h1;rw[List.length_map] at h1;unfold SetTable.fits;rw[S.size,h1];simp[h2]
theorem SetAt.at_(S:SetAt w o es ep t xs)(i:Nat):es[i]? =(xs[i]?).map BL:=by
 rw[<-Array.getElem?_toList,S.he,List.getElem?_map]
theorem mO {k:List Int}(hk:(KI prog w).is s.heap k b){Q:Bool->Shared->Prop}(h:Q false s):wpAny (model prog w) A (ofAClassStatement 8 (.ref b)) Q E s:=by
 have hT:=IsTupleKey.typeIs (s:=s) hk
 obtain⟨o,items,n,ho,hc,hd,hi⟩:=hk
 unfold ofAClassStatement;refine wpAny_bind (wpAny_typeOf hT ?_)
 dsimp only;rw[if_pos (by decide)]
 refine wpAny_bind (wpAny_pure ?_)
 simp only[Bool.not_true,Bool.false_eq_true,if_false];refine wpAny_bind (wpAny_seqItems ho hd ?_)
 dsimp only;refine wpAny_bind ?_
 rw[<-Array.forIn_toList];refine wpAny_forIn_list _ (λrest r s'=>r.1=none/\s'=s/\ ∀v∈rest,carriedByValue v=true) _ ?_ ?_ _ _ ⟨rfl,rfl,hi.byValue⟩
 ·rintro v rest r s' ⟨hr,rfl,hall⟩
  have hv:=hall v List.mem_cons_self
  have:ofAClassStatement 7 v=pure false:=by
   cases v with
   |ref a=>simp[carriedByValue] at hv
   |_=>rfl
  rw[this];refine wpAny_bind (wpAny_pure ?_)
  simp only[Bool.false_eq_true,if_false];exact wpAny_pure ⟨rfl,rfl,λu hu'=>hall u (List.mem_cons_of_mem _ hu')⟩
 ·rintro⟨r1,r2⟩ s' ⟨hr,rfl,_⟩
  simp only at hr;subst hr;exact wpAny_pure h
theorem qm {k:List Int}(hk:(KI prog w).is s.heap k b){vs:List Value}(hv: ∀v∈vs,∃k' c,v=.ref c/\(KI prog w).is s.heap k' c){Q:Bool->Shared->Prop}(h:Q false s):wpAny (model prog w) A (searchCouldBeSeen (.ref b) vs) Q E s:=by
 unfold searchCouldBeSeen;refine wpAny_bind ?_
 refine wpAny_forIn_list _ (λrest r s'=>r.1=none/\s'=s/\ ∀v∈rest,∃k' c,v=.ref c/\(KI prog w).is s.heap k' c) _ ?_ ?_ _ _ ⟨rfl,rfl,hv⟩
 ·rintro v rest r s' ⟨hr,rfl,hall⟩
  obtain⟨k',c,rfl,hc⟩:=hall v List.mem_cons_self
  dsimp only;split
  ·exact wpAny_pure ⟨rfl,rfl,λu hu'=>hall u (List.mem_cons_of_mem _ hu')⟩
  ·refine wpAny_bind ((KI prog w).quiet hk ?_)
   simp only[Bool.not_true,Bool.false_eq_true,if_false];refine wpAny_bind ((KI prog w).quiet hc ?_)
   simp only[Bool.not_true,Bool.false_eq_true,if_false];refine wpAny_bind (mO hk ?_)
   simp only[Bool.false_eq_true,if_false];refine wpAny_bind (mO hc ?_)
   simp only[Bool.false_eq_true,if_false];exact wpAny_pure ⟨rfl,rfl,λu hu'=>hall u (List.mem_cons_of_mem _ hu')⟩
 ·rintro⟨r1,r2⟩ s' ⟨hr,rfl,_⟩
  simp only at hr;subst hr;exact wpAny_pure h
def Ib(es:Array (Int×Value))(i:Nat):Int:=(es[i]?.map (·.1)).getD 0
theorem xJ {α:Type}{m:Sem Bool}{U R:Sem α}{c:Bool}{Q:α->Shared->Prop}(hK:wpAny (model prog w) A R Q E s)(hm:wpAny (model prog w) A m (λb s'=>b=false/\s'=s) E s):
 wpAny (model prog w) A (if c=true then(m>>=λx=>if x=true then U else R) else R) Q E s:=by
 split
 ·refine wpAny_bind (wpAny_mono hm (λb s' ⟨h1,h2⟩=>?_) λ_ _ x=>x)
  subst h1 h2;simp only[Bool.false_eq_true,if_false];exact hK
 ·exact hK
theorem mX(ho:s.heap.get? a=some o)(S:SetAt w o es ep t xs)(hE:BB prog w s.heap xs)(hu:A.units<cLine)(hk:(KI prog w).is s.heap k b)(adding:Bool){M:Nat}(hM:M<=10*(13+t.mask))
 (h1: ¬pi t (Jx t.mask (th k) M)) (h2: ∀m,m<M->pi t (Jx t.mask (th k) m)) {Q:SetFound->Shared->Prop}
 (hyes: ∀(i:Nat) (c:Addr),xs[i]? =some (k,c)->Q (.there (if adding then none else some i)) s)
 (hno:k∉xs.map (·.1)-> ∀(d:Option Nat),GQ t (th k) M d->Q (.free (d.getD (Jx t.mask (th k) M)) d.isSome) s):
 ∀(fuel m:Nat) (st:Option Pb) (d:Option Nat),M<m+fuel->m<=M->GQ t (th k) M d->st.getD (t.probeStart (th k))=eI t.mask m (qj t.mask (th k) d)->
  (∀(i:Nat) (c:Addr) (j:Nat),xs[i]? =some (k,c)->t.place[i]? =some j-> ∃m0,m<=m0/\m0<M/\Jx t.mask (th k) m0=j)->
  wpAny (model prog w) A (setSearchFrom a (.ref b) (th k) adding fuel st) Q E s
 |0,m,st,d,q1,q2,_,_,_=>absurd q1 (by omega)
 |fuel+1,m,st,d,q1,q2,hd,hst,hin=>by
  have T:=S.T
  have kiu:(KI prog w).room A:=hu
  have hsz: ∀i:Nat,(∃j,t.place[i]? =some j)↔ ∃x,xs[i]? =some x:=λi=>by
   have e1:=T.sz
   unfold sL at e1;rw[List.length_map] at e1;constructor
   ·rintro⟨j,hj⟩
    have:=(Array.getElem?_eq_some_iff.mp hj).1
    exact⟨_,List.getElem?_eq_getElem (show i<xs.length by omega)⟩
   ·rintro⟨x,hx⟩
    have:=(List.getElem?_eq_some_iff.mp hx).1
    exact⟨_,Array.getElem?_eq_getElem (show i<t.place.size by omega)⟩
  unfold setSearchFrom;refine wpAny_bind (wpAny_setState_of ho S.hd S.fits ?_)
  dsimp only;rw[T.noway];simp only[Bool.false_eq_true,if_false];rw[hst];unfold SetTable.probe;obtain⟨r,hr,hc⟩:=n5 T (Ib es) h1 h2 (10*SetTable.turns t.mask) m d (by unfold SetTable.turns;omega) q2 hd
  generalize hP:SetTable.probe.go t _ (th k) _ _=P
  obtain rfl:P=some r:=hP.symm.trans hr
  dsimp only;have hat: ∀(i:Nat) (x:List Int×Addr),xs[i]? =some x->Ib es i=th x.1:=λi x hx=>by
   unfold Ib;rw[S.at_,hx];rfl
  rcases hc with⟨d',rfl,dd,nc⟩|⟨c,i,d',a1,a2,a3,a4,rfl,dd,nc⟩
  ·have nk:k∉xs.map (·.1):=λw=>by
    obtain⟨x,hx,rfl⟩:=List.mem_map.mp w
    obtain⟨i,hi⟩:=List.mem_iff_getElem?.mp hx
    obtain⟨j,hj⟩:=(hsz i).mpr ⟨x,hi⟩
    obtain⟨m0,g1,g2,g3⟩:=hin i x.2 j hi hj
    exact nc m0 g1 g2 i (by rw[g3];exact hj) (hat i x hi)
   have:=hno nk d' dd
   dsimp only;cases d' with
   |none=>exact wpAny_pure this
   |some z=>
    dsimp only;have e:(adding&&t.slot z !=SetTable.Slot.dummy)=false:=by
     rw[oj T (dd z rfl).1];simp
    rw[e];simp only[Bool.false_eq_true,if_false];exact wpAny_pure this
  ·obtain⟨x,hx⟩:=(hsz i).mp ⟨_,a3⟩
   have ex:es[i]? =some (th x.1,.ref x.2):=by rw[S.at_,hx];rfl
   have hxm:=List.mem_of_getElem? hx
   have hxk:=hE x hxm
   dsimp only;refine xJ ?_ (qm hk (λv hv=>?_) ⟨rfl,rfl⟩)
   ·rw[ex]
    dsimp only;refine wpAny_bind (wpAny_holding ((KI prog w).eqBool (x:=x.1) (y:=k) kiu hxk hk ?_))
    refine wpAny_bind (wpAny_setState_of ho S.hd S.fits ?_)
    dsimp only;have sm:t.sameMemory t.moves t.mask=some true:=by unfold SetTable.sameMemory;rw[if_pos (beq_self_eq_true _)]
    by_cases ek:x.1=k
    ·rw[decide_eq_true ek]
     have hy:=hyes i x.2 (by rw[hx,<-ek])
     cases adding with
     |true=>simp only[Bool.and_self,if_true];exact wpAny_pure hy
     |false=>
      simp only[Bool.false_and,Bool.false_eq_true,if_false];rw[sm];dsimp only;rw[if_pos rfl,my T a3];dsimp only;rw[ex];dsimp only;refine wpAny_bind (wpAny_isSame_ref_self ?_)
      simp only[if_true];refine wpAny_bind (wpAny_pure ?_)
      dsimp only;exact wpAny_pure hy
    ·rw[decide_eq_false ek,Bool.and_false]
     simp only[Bool.false_eq_true,if_false];rw[sm];dsimp only;rw[if_pos rfl,my T a3];dsimp only;rw[ex];dsimp only;refine wpAny_bind (wpAny_isSame_ref_self ?_)
     simp only[if_true];refine wpAny_bind (wpAny_pure ?_)
     dsimp only;refine mX ho S hE hu hk adding hM h1 h2 hyes hno fuel (c+1) _ d' (by omega) (by omega) dd rfl λi' c' j' hi' hj'=>?_
     obtain⟨m0,g1,g2,g3⟩:=hin i' c' j' hi' hj'
     refine⟨m0,?_,g2,g3⟩
     refine Classical.byContradiction λw=>?_
     by_cases e:m0=c
     ·subst e
      have:=T.sp.inj a3 (by rw[g3];exact hj')
      subst this;rw[hx] at hi';cases hi'
      exact ek rfl
     ·exact nc m0 g1 (by omega) i' (by rw[g3];exact hj') (hat i' _ hi')
   ·obtain⟨e,he,rfl⟩:=List.mem_map.mp hv
    have he:e∈es:=(Array.mem_filter.mp (Array.mem_toList_iff.mp he)).1
    have he:e∈xs.map BL:=by rw[<-S.he];exact Array.mem_toList_iff.mpr he
    obtain⟨y,hy,rfl⟩:=List.mem_map.mp he
    exact⟨y.1,y.2,rfl,hE y hy⟩
end
theorem DL(mask:Nat)(p:Pb)(h:p.j+p.more<=mask):(vU mask p).j+(vU mask p).more<=mask:=by
 unfold vU;split
 ·dsimp only;omega
 ·have hi:(SetTable.leap mask p.i p.perturb).1<=mask:=Nat.lt_succ_iff.mp (Nat.mod_lt _ (by omega))
  have:=mI hi
  dsimp only;omega
theorem G8(mask:Nat)(h:Int)(m:Nat):Jx mask h m<=mask:=by
 have: ∀m,(eI mask m (qj mask h none)).j+(eI mask m (qj mask h none)).more<=mask:=λm=>by
  induction m with
  |zero=>
   have hi:SetTable.bits h % (mask+1)<=mask:=Nat.lt_succ_iff.mp (Nat.mod_lt _ (by omega))
   have:=mI hi
   show SetTable.bits h % (mask+1)+(SetTable.runEnd mask (SetTable.bits h % (mask+1)) -SetTable.bits h % (mask+1))<=mask;omega
  |succ m ih=>rw[iD];exact DL mask _ ih
 have:=this m
 unfold Jx;omega
structure SetOk(w:World)(o:Obj)(es:Array (Int×Value))(ep:Nat)(t:SetTable)(xs:lE):Prop extends SetAt w o es ep t xs where
 f5:t.fill*5<t.mask*3
section
variable {prog:Program}{w:World}{A:Around}{E:Value->Shared->Prop}{s:Shared}{a b:Addr}{o:Obj}{es:Array (Int×Value)}{ep:Nat}{t:SetTable}{xs:lE}{k:List Int}
theorem nU(ho:s.heap.get? a=some o)(S:SetAt w o es ep t xs)(hE:BB prog w s.heap xs)(hu:A.units<cLine)(hk:(KI prog w).is s.heap k b)(adding:Bool){Q:SetFound->Shared->Prop}
 (hyes: ∀(i:Nat) (c:Addr),xs[i]? =some (k,c)->Q (.there (if adding then none else some i)) s)
 (hno:k∉xs.map (·.1)-> ∀(j:Nat) (wd:Bool),j<=t.mask->(wd=true->j∈t.dummies.toList)->(wd=false-> ¬pi t j)->(∃m,Jx t.mask (th k) m=j/\ ∀m',m'<m->pi t (Jx t.mask (th k) m'))->Q (.free j wd) s):
 wpAny (model prog w) A (setSearch a (.ref b) (th k) adding) Q E s:=by
 obtain⟨M,hM,h1,h2⟩:=S.T.first (th k)
 have mk:=S.T.mask
 unfold setSearch;refine mX ho S hE hu hk adding hM h1 h2 hyes (λnk d dd=>?_) 100000 0 none none (by omega) (by omega) (λx hx=>by cases hx) rfl λi c j hi hj=>?_
 ·cases d with
  |none=>exact hno nk _ _ (G8 _ _ _) (λw=>by cases w) (λ_=>h1) ⟨M,rfl,h2⟩
  |some z=>
   obtain⟨z1,m,z2,z3⟩:=dd z rfl
   exact hno nk z true (S.T.ld z z1) (λ_=>z1) (λw=>by cases w) ⟨m,z3,λm' hm=>h2 m' (by omega)⟩
 ·obtain⟨m0,e,q⟩:=S.T.rc (th k,j) (List.mem_iff_getElem?.mpr ⟨i,List.getElem?_zip_eq_some.mpr ⟨by unfold sL;rw[List.getElem?_map,hi];rfl,by rw[Array.getElem?_toList];exact hj⟩⟩)
  refine⟨m0,by omega,?_,e⟩
  have ju:pi t j:=.inl (List.mem_of_getElem? (by rw[Array.getElem?_toList];exact hj))
  rcases Nat.lt_trichotomy m0 M with c|c|c
  ·exact c
  ·subst c;rw[e] at h1;exact absurd ju h1
  ·exact absurd (q M c) h1
theorem n4(b:Addr)(es:Array (Int×Value)):byScan (.ref b) es=false:=rfl
theorem tJ(ho:s.heap.get? a=some o)(S:SetAt w o es ep t xs)(hE:BB prog w s.heap xs)(hu:A.units<cLine)(hk:(KI prog w).is s.heap k b){Q:Option Nat->Shared->Prop}
 (hyes: ∀(i:Nat) (c:Addr),xs[i]? =some (k,c)->Q (some i) s) (hno:k∉xs.map (·.1)->Q none s):wpAny (model prog w) A (setFind a (.ref b) (th k)) Q E s:=by
 unfold setFind setFindIn;refine wpAny_bind (wpAny_setState_of ho S.hd S.fits ?_)
 dsimp only;rw[n4];simp only[Bool.false_eq_true,if_false];refine wpAny_bind (nU ho S hE hu hk false (λi c hi=>?_) λnk j wd _ _ _ _=>?_)
 ·exact wpAny_pure (hyes i c hi)
 ·exact wpAny_pure (hno nk)
theorem yz {k:List Int}(hk:(KI prog w).is s.heap k b){Q:Bool->Shared->Prop}(h:Q true s):wpAny (model prog w) A (hashByValue 8 (.ref b)) Q E s:=by
 have hT:=IsTupleKey.typeIs (s:=s) hk
 obtain⟨o,items,n,ho,hc,hd,hi⟩:=hk
 unfold hashByValue;refine wpAny_bind (wpAny_specialOf hT F.slot_tuple_hash.lookup ?_)
 refine wpAny_bind (wpAny_seqItems ho hd ?_)
 dsimp only;refine wpAny_bind ?_
 show wpAny _ _ (forIn items _ _) _ _ _;rw[<-Array.forIn_toList];have hall: ∀v∈items.toList,∃(i:Int) (tk:Tok),v=.int i tk:=by
  intro v hv;clear ho hd hT
  generalize items.toList=l at hi hv
  induction hi with
  |nil=>cases hv
  | @cons k v' ks vs h1 _ ih=>
    rcases List.mem_cons.mp hv with rfl|hv
    ·obtain⟨tk,rfl⟩:=Value.isInt_shape h1;exact⟨_,_,rfl⟩
    ·exact ih hv
 refine wpAny_forIn_list _ (λrest r s'=>r.1=none/\s'=s/\ ∀v∈rest,∃(i:Int) (tk:Tok),v=.int i tk) _ ?_ ?_ _ _ ⟨rfl,rfl,hall⟩
 ·rintro v rest r s' ⟨hr,rfl,hall⟩
  obtain⟨i,tk,rfl⟩:=hall v List.mem_cons_self
  have:hashByValue 7 (.int i tk)=pure true:=rfl
  rw[this];refine wpAny_bind (wpAny_pure ?_)
  simp only[Bool.not_true,Bool.false_eq_true,if_false];exact wpAny_pure ⟨rfl,rfl,λu hu'=>hall u (List.mem_cons_of_mem _ hu')⟩
 ·rintro⟨r1,r2⟩ s' ⟨hr,rfl,_⟩
  simp only at hr;subst hr;exact wpAny_pure h
theorem wW(S:SetAt w o es ep t xs):(es.map (·.1)).toList=sL xs:=by
 rw[Array.toList_map,S.he,List.map_map];rfl
def xc(xs:lE)(ix:List Nat):lE:=ix.map λi=>xs.getD i ([],0)
theorem pV {xs:lE}{ix:List Nat}(p:ix.Perm (List.range xs.length)):(xc xs ix).Perm xs:=by
 have e:(List.range xs.length).map (λi=>xs.getD i ([],0))=xs:=by
  refine List.ext_getElem (by simp) λi h1 h2=>?_
  simp[List.getD,h2]
 have:=p.map λi=>xs.getD i ([],0)
 rw[e] at this;exact this
theorem xb(S:SetAt w o es ep t xs){wanted:Nat}(hw:wanted<=4095)(hl:xs.length*5<wanted*3): ∃(place order:Array Nat) (mv:Nat),t.relaid (es.map (·.1)) wanted=some (⟨SetTable.sizeAbove wanted-1,place, #[],t.finger,t.led,mv,t.plain⟩,order)/\
 order.toList.Perm (List.range xs.length)/\(∀(o':Obj) (ep':Nat),o'.ExactSet->o'.data=.set (order.filterMap (es[·]?)) ep' ⟨SetTable.sizeAbove wanted-1,place, #[],t.finger,t.led,mv,t.plain⟩->
  SetOk w o' (order.filterMap (es[·]?)) ep' ⟨SetTable.sizeAbove wanted-1,place, #[],t.finger,t.led,mv,t.plain⟩ (xc xs order.toList))/\(order.filterMap (es[·]?)).size=es.size:=by
 obtain⟨q,h3,h12,e,hlt⟩:=lv hw
 have sz:(es.map (·.1)).size=xs.length:=by rw[Array.size_map,S.size]
 have hk:SetTable.sizeAbove wanted-1+1=2^q:=by rw[e];omega
 obtain⟨place,order,g1,g2,g3⟩:=CC h3 h12 hk t.finger (t.movedTo (SetTable.sizeAbove wanted-1)) t.led t.plain (es.map (·.1)) (by rw[sz,e];omega)
 rw[sz] at g2;have lt: ∀i∈order.toList,i<xs.length:=λi hi=>List.mem_range.mp (g2.mem_iff.mp hi)
 have el:(order.filterMap (es[·]?)).toList=(xc xs order.toList).map BL:=by
  rw[Array.toList_filterMap];unfold xc;rw[List.map_map];have key: ∀l:List Nat,(∀i∈l,i<xs.length)->l.filterMap (λi=>es[i]?)=l.map (BL∘λi=>xs.getD i ([],0)):=by
   intro l
   induction l with
   |nil=>intro _;rfl
   |cons i l ih=>
    intro hl;have h1:=hl i List.mem_cons_self
    have e1:es[i]? =some (BL (xs.getD i ([],0))):=by
     rw[S.at_,List.getElem?_eq_getElem h1];simp[List.getD,h1]
    rw[List.filterMap_cons,e1,List.map_cons,ih λj hj=>hl j (List.mem_cons_of_mem _ hj)]
    rfl
  exact key _ lt
 have et:sL (xc xs order.toList)=order.toList.map λk=>(es.map (·.1)).toList.getD k 0:=by
  unfold sL xc;rw[List.map_map];refine List.map_congr_left λi hi=>?_
  have:=lt i hi
  rw[wW S];show th (xs.getD i ([],0)).1=(sL xs).getD i 0;unfold sL;simp[List.getD,this]
 have pp:=pV g2
 refine⟨place,order,_,g1,g2,λo' ep' hex hd=>?_,?_⟩
 ·refine⟨⟨hex,hd,el,by rw[et];exact g3,S.led,S.pl,?_⟩,?_⟩
  ·exact((pp.map (·.1)).nodup_iff).mpr S.nd
  ·have z:=g3.sz
   rw[List.length_map,g2.length_eq,List.length_range] at z;show(place.size+0)*5<(SetTable.sizeAbove wanted-1)*3;have z:place.size=xs.length:=z
   rw[z,e];omega
 ·rw[<-Array.length_toList,el,List.length_map,pp.length_eq,S.size]
theorem AX(ho:s.heap.get? a=some o)(S:SetAt w o es ep t xs){wanted:Nat}(hw:wanted<=4095)(hl:xs.length*5<wanted*3){Q:Unit->Shared->Prop}
 (h: ∀h' o' es' ep' t' xs',Heap.SameBut a s.heap h'->h'.get? a=some o'->SetOk w o' es' ep' t' xs'->xs'.Perm xs->Q () {s with heap:=h'}):wpAny (model prog w) A (setRelay a wanted) Q E s:=by
 obtain⟨place,order,mv,g1,g2,g3,g4⟩:=xb S hw hl
 obtain⟨q,h3,h12,e,hlt⟩:=lv hw
 have e0:setRelay a wanted=(do
  let(es,_,t) <-setState a
  if SetTable.sizeAbove wanted>sizeLine then unsupported "set:memory"
  let(es,t) <-(do
   let some (t,order):=t.relaid (es.map (·.1)) wanted|unsupported "internal:set-table-without-room"
   let es':=order.filterMap (es[·]?)
   if es'.size !=es.size then unsupported "internal:set-table-lost-an-element"
   pure (es',t):Sem (Array (Int×Value)×SetTable))
  storeSet a es t):=rfl
 rw[e0];refine wpAny_bind (wpAny_setState_of ho S.hd S.fits ?_)
 dsimp only;have p12:2^q<=2^12:=Nat.pow_le_pow_right (by omega) h12
 rw[if_neg (by rw[e,sizeLine_eq];have:(2:Nat)^12=4096:=by decide
               omega),g1]
 dsimp only;rw[g4,bne_self_eq_false];simp only[Bool.false_eq_true,if_false];refine wpAny_bind (wpAny_pure ?_)
 dsimp only;have sl:(order.filterMap (es[·]?)).size<=sizeLine:=by
  rw[g4,S.size,sizeLine_eq];omega
 refine wpAny_storeSet_of ho S.hd ?_ sl
 have hg:=Heap.get?_update_self (Obj.putSet (order.filterMap (es[·]?)) ⟨SetTable.sizeAbove wanted-1,place, #[],t.finger,t.led,mv,t.plain⟩) ho (by rw[putSet_of _ _ S.hd];rfl)
 rw[putSet_of _ _ S.hd] at hg;exact h _ _ _ _ _ _ (Heap.SameBut.update s.heap a _) hg (g3 _ _ S.ex rfl) (pV g2)
end
theorem AI {t:SetTable}{hs:List Int}(T:TOk t hs){j:Nat}(wd:Bool)(h1:wd=true->j∈t.dummies.toList)(h2:wd=false-> ¬pi t j):(t.put j).1.fill=if wd then t.fill else t.fill+1:=by
 have e1:(SetTable.insertAt t.place (SetTable.below t.place j) j).size=t.place.size+1:=by
  have:=congrArg List.length (SetTable.toList_insertAt t.place (SetTable.below t.place j) j)
  rw[Array.length_toList] at this;rw[this];have b:=(Gy T.sp j).le
  simp;omega
 show(SetTable.insertAt t.place (SetTable.below t.place j) j).size+(if SetTable.has t.dummies j=true then SetTable.eraseAt t.dummies (SetTable.below t.dummies j) else t.dummies).size=_
 rw[e1];unfold SetTable.fill;cases wd with
 |true=>
  have hm:=h1 rfl
  obtain⟨i,hi⟩:=List.mem_iff_getElem?.mp hm
  rw[Array.getElem?_toList] at hi;have lt:=(Array.getElem?_eq_some_iff.mp hi).1
  have e2:(SetTable.eraseAt t.dummies (SetTable.below t.dummies j)).size=t.dummies.size-1:=by
   rw[<-Array.length_toList,fH,List.length_eraseIdx,ql T.sd hi,if_pos (by rw[Array.length_toList];exact lt),Array.length_toList]
  rw[if_pos ((jG T.sd j).mpr hm),if_pos rfl,e2];omega
 |false=>
  have hn:=h2 rfl
  rw[if_neg λw=>hn (.inr ((jG T.sd j).mp w)),if_neg (by decide)];omega
theorem oh {α β:Type}(f:α->β): ∀(l:List α) (i:Nat),(l.map f).eraseIdx i=(l.eraseIdx i).map f
 | [],_=>rfl
 |_::_,0=>rfl
 |a::l,i+1=>by rw[List.map_cons,List.eraseIdx_cons_succ,List.eraseIdx_cons_succ,List.map_cons,oh f l i]
section
variable {prog:Program}{w:World}{A:Around}{E:Value->Shared->Prop}{s:Shared}{a b:Addr}{o:Obj}{es:Array (Int×Value)}{ep:Nat}{t:SetTable}{xs:lE}{k:List Int}
theorem z6 {α:Type}(l:List α)(p:Nat)(x:α):(fO l p x).Perm (l++[x]):=by
 unfold fO;refine List.perm_middle.trans ?_
 rw[List.take_append_drop];exact(List.perm_append_singleton x l).symm
theorem Bj(ho:s.heap.get? a=some o)(S:SetOk w o es ep t xs)(hE:BB prog w s.heap xs)(hu:A.units<cLine)(hk:(KI prog w).is s.heap k b)(hlen:xs.length<=1000){Q:Bool->Shared->Prop}
 (hyes:k∈xs.map (·.1)->Q false s)
 (hno:k∉xs.map (·.1)-> ∀h' o' es' ep' t' xs',Heap.SameBut a s.heap h'->h'.get? a=some o'->SetOk w o' es' ep' t' xs'->xs'.Perm (xs++[(k,b)])->Q true {s with heap:=h'}):
 wpAny (model prog w) A (setAddHashed a (.ref b) (th k)) Q E s:=by
 have S':=S.toSetAt
 unfold setAddHashed setAddHashedIn;refine wpAny_holding (wpAny_bind (wpAny_setState_of ho S.hd S'.fits ?_))
 dsimp only;rw[n4];simp only[Bool.false_eq_true,if_false];refine wpAny_bind (nU ho S' hE hu hk true (λi c hi=>?_) λnk j wd hj hd1 hd2 hrc=>?_)
 ·exact wpAny_pure (hyes (List.mem_map.mpr ⟨(k,c),List.mem_of_getElem? hi,rfl⟩))
 ·dsimp only
  refine wpAny_bind (wpAny_setState_of ho S.hd S'.fits ?_)
  dsimp only;have T:=S.T
  have nj:j∉t.place.toList:=λw=>by
   cases wd with
   |true=>exact T.dj j (hd1 rfl) w
   |false=>exact hd2 rfl (.inl w)
  have fp:=AI T wd hd1 hd2
  have f5:=S.f5
  obtain⟨q,q3,q12,qe⟩:=T.pw
  have p3:2^3<=2^q:=Nat.pow_le_pow_right (by omega) q3
  have fl:(t.put j).1.fill<=t.mask:=by rw[fp];split<;>omega
  have T2:=T.put hj nj hrc fl
  have pl:(t.put j).1.plain=true:=S.pl
  have hsz:=S'.size
  have el:(SetTable.insertAt es (t.put j).2 (th k,Value.ref b)).toList=(fO xs (t.put j).2 (k,b)).map BL:=by
   rw[SetTable.toList_insertAt,S.he];unfold fO;rw[List.map_append,List.map_cons,List.map_take,List.map_drop];rfl
  have et:sL (fO xs (t.put j).2 (k,b))=fO (sL xs) (t.put j).2 (th k):=by
   unfold sL fO;rw[List.map_append,List.map_cons,List.map_take,List.map_drop]
  have pp:=z6 xs (t.put j).2 (k,b)
  have nd2:((fO xs (t.put j).2 (k,b)).map (·.1)).Nodup:=by
   refine((pp.map (·.1)).nodup_iff).mpr ?_
   rw[List.map_append,List.nodup_append];exact⟨S.nd,by simp,λx hx y hy=>by
    simp only[List.map_cons,List.map_nil,List.mem_singleton] at hy;subst hy;exact λe=>nk (e▸hx)⟩
  have sz2:(SetTable.insertAt es (t.put j).2 (th k,Value.ref b)).size=xs.length+1:=by
   rw[<-Array.length_toList,el,List.length_map,pp.length_eq];simp
  have S2: ∀(o':Obj) (ep':Nat),o'.ExactSet->o'.data=.set (SetTable.insertAt es (t.put j).2 (th k,Value.ref b)) ep' (t.put j).1->SetAt w o' (SetTable.insertAt es (t.put j).2 (th k,Value.ref b)) ep' (t.put j).1 (fO xs (t.put j).2 (k,b)):=
   λo' ep' hex hd=>⟨hex,hd,el,by rw[et];exact T2,S.led,pl,nd2⟩
  have hg:=Heap.get?_update_self (Obj.putSet (SetTable.insertAt es (t.put j).2 (th k,Value.ref b)) (t.put j).1) ho (by rw[putSet_of _ _ S.hd];rfl)
  rw[putSet_of _ _ S.hd] at hg;rw[pl];simp only[if_true];refine wpAny_bind (yz hk ?_)
  simp only[if_true];refine wpAny_bind (wpAny_storeSet_of ho S.hd ?_ (by rw[sz2,sizeLine_eq];omega))
  have hb:=Heap.SameBut.update s.heap a (Obj.putSet (SetTable.insertAt es (t.put j).2 (th k,Value.ref b)) (t.put j).1)
  split
  ·rename_i hc
   rw[Bool.and_eq_true] at hc;refine wpAny_bind (AX (s:={s with heap:=s.heap.update a (Obj.putSet (SetTable.insertAt es (t.put j).2 (th k,Value.ref b)) (t.put j).1)}) hg (S2 _ _ S.ex rfl) ?_ ?_ λh' o' es' ep' t' xs' g1 g2 g3 g4=>?_)
   ·rw[hsz];unfold SetTable.grown;split<;>omega
   ·rw[hsz,pp.length_eq];unfold SetTable.grown
    rw[List.length_append,List.length_singleton];split<;>omega
   ·exact wpAny_pure (hno nk h' o' es' ep' t' xs' (hb.trans g1) g2 g3 (g4.trans pp))
  ·rename_i hc
   refine wpAny_pure (hno nk _ _ _ _ _ _ hb hg ⟨S2 _ _ S.ex rfl,?_⟩ pp)
   show(t.put j).1.fill*5<t.mask*3;rw[fp];cases wd with
   |true=>exact f5
   |false=>
    have hc: ¬(t.put j).1.tooFull=true:=λw=>hc (by rw[w];rfl)
    unfold SetTable.tooFull at hc;rw[decide_eq_true_eq,fp] at hc;have:(t.put j).1.mask=t.mask:=rfl
    rw[this] at hc;simp only[Bool.false_eq_true,if_false] at hc⊢;omega
theorem ss(ho:s.heap.get? a=some o)(S:SetOk w o es ep t xs)(hE:BB prog w s.heap xs)(hu:A.units<cLine)(hk:(KI prog w).is s.heap k b)(hlen:xs.length<=1000){Q:Bool->Shared->Prop}
 (hno:k∉xs.map (·.1)->Q false s)
 (hyes:k∈xs.map (·.1)-> ∀h' o' es' ep' t' xs',Heap.SameBut a s.heap h'->h'.get? a=some o'->SetOk w o' es' ep' t' xs'->(∃i c,xs[i]? =some (k,c)/\xs'=xs.eraseIdx i)->Q true {s with heap:=h'}):
 wpAny (model prog w) A (setDiscardHashed a (.ref b) (th k)) Q E s:=by
 have S':=S.toSetAt
 unfold setDiscardHashed;refine wpAny_bind (tJ ho S' hE hu hk (λi c hi=>?_) λnk=>?_)
 ·dsimp only
  refine wpAny_bind (wpAny_setState_of ho S.hd S'.fits ?_)
  dsimp only;have T:=S.T
  have zz:=T.sz
  unfold sL at zz;rw[List.length_map] at zz;have il:=(List.getElem?_eq_some_iff.mp hi).1
  have hp:t.place[i]? =some (t.place[i]'(by omega)):=Array.getElem?_eq_getElem (by omega)
  have T2:=T.drop hp
  have el:(SetTable.eraseAt es i).toList=(xs.eraseIdx i).map BL:=by
   rw[fH,S.he,oh]
  have et:sL (xs.eraseIdx i)=(sL xs).eraseIdx i:=by unfold sL;rw[oh]
  have sz2:(SetTable.eraseAt es i).size<=1000:=by
   rw[<-Array.length_toList,el,List.length_map];exact Nat.le_trans (List.length_eraseIdx_le _ _) hlen
  have hg:=Heap.get?_update_self (Obj.putSet (SetTable.eraseAt es i) (t.drop i)) ho (by rw[putSet_of _ _ S.hd];rfl)
  rw[putSet_of _ _ S.hd] at hg;have ed:t.drop i={t with place:=SetTable.eraseAt t.place i,dummies:=SetTable.insertAt t.dummies (SetTable.below t.dummies (t.place[i]'(by omega))) (t.place[i]'(by omega))}:=by
   unfold SetTable.drop;rw[hp]
  refine wpAny_bind (wpAny_storeSet_of ho S.hd ?_ (by rw[sizeLine_eq];omega))
  refine wpAny_bind (wpAny_point ?_)
  refine wpAny_pure (hyes (List.mem_map.mpr ⟨(k,c),List.mem_of_getElem? hi,rfl⟩) _ _ _ _ _ (xs.eraseIdx i) (Heap.SameBut.update s.heap a _) hg ⟨⟨S.ex,rfl,el,by rw[et];exact T2,by rw[ed];exact S.led,by rw[ed];exact S.pl,?_⟩,?_⟩ ⟨i,c,hi,rfl⟩)
  ·rw[<-oh]
   exact List.Nodup.sublist (List.eraseIdx_sublist _ _) S.nd
  ·have f5:=S.f5
   have ff:(t.drop i).fill=t.fill:=by
    rw[ed];show(SetTable.eraseAt t.place i).size+(SetTable.insertAt t.dummies _ _).size=t.place.size+t.dummies.size;rw[<-Array.length_toList,fH,List.length_eraseIdx,<-Array.length_toList (xs:=SetTable.insertAt _ _ _),SetTable.toList_insertAt,if_pos (by rw[Array.length_toList];omega)]
    have b:=(Gy T.sd (t.place[i]'(by omega))).le
    simp;omega
   rw[ff,ed];exact f5
 ·exact wpAny_pure (hno nk)
end
abbrev bS:=Sum Int Str
def pH:bS->Value->Bool
 | .inl k,v=>Value.isInt k v
 | .inr x,v=>Value.isStrOf x v
def Il(w:World):bS->Int
 | .inl k=>hashInt k
 | .inr x=>hashStr w x
theorem cc: ∀ {k:bS} {v:Value},pH k v=true->(∃i t,k=Sum.inl i/\v=Value.int i t)\/(∃x t,k=Sum.inr x/\v=Value.str x t)
 | .inl i,v,h=>by
   obtain⟨t,e⟩:=Value.isInt_shape (k:=i) (v:=v) h
   exact .inl ⟨i,t,rfl,e⟩
 | .inr x,v,h=>by
   obtain⟨t,e⟩:=Value.isStrOf_shape (x:=x) (v:=v) h
   exact .inr ⟨x,t,rfl,e⟩
theorem xg(i:Int)(t:Tok):pH (.inl i) (.int i t)=true:=by simp[pH,Value.isInt]
theorem xr(x:Str)(t:Tok):pH (.inr x) (.str x t)=true:=by simp[pH,Value.isStrOf]
theorem EF(a b:Int):decide ((Sum.inl a:bS)=Sum.inl b)=(a==b):=by
 by_cases e:a=b
 ·subst e;simp
 ·have h: ¬(Sum.inl a:bS)=Sum.inl b:=λq=>e (Sum.inl.inj q)
  rw[decide_eq_false h];exact(beq_eq_false_iff_ne.mpr e).symm
theorem EN(a b:Str):decide ((Sum.inr a:bS)=Sum.inr b)=decide (a=b):=by
 by_cases e:a=b
 ·subst e;simp
 ·have h: ¬(Sum.inr a:bS)=Sum.inr b:=λq=>e (Sum.inr.inj q)
  rw[decide_eq_false h,decide_eq_false e]
theorem Ej(a:Int)(b:Str):decide ((Sum.inl a:bS)=Sum.inr b)=false:=decide_eq_false (λq=>nomatch q)
theorem Eu(a:Str)(b:Int):decide ((Sum.inr a:bS)=Sum.inl b)=false:=decide_eq_false (λq=>nomatch q)
def ce(prog:Program)(w:World):PySem.KeyKind prog w bS where
 is:=pH
 hash:=Il w
 inj:=λv a b ha hb=>by
  rcases cc ha with⟨i,t,rfl,rfl⟩|⟨x,t,rfl,rfl⟩
  ·rcases cc hb with⟨j,u,rfl,e⟩|⟨y,u,rfl,e⟩
   ·injection e with e1 _;rw[e1]
   ·exact nomatch e
  ·rcases cc hb with⟨j,u,rfl,e⟩|⟨y,u,rfl,e⟩
   ·exact nomatch e
   ·injection e with e1 _;rw[e1]
 byValue:=λk v h=>by
  rcases cc h with⟨i,t,rfl,rfl⟩|⟨x,t,rfl,rfl⟩<;>rfl
 pyHash:=λhv h=>by
  rcases cc hv with⟨i,t,rfl,rfl⟩|⟨x,t,rfl,rfl⟩
  ·exact wpAny_pyHash_int h
  ·exact wpAny_pyHash_str h
 eqBool:=λhu hv h=>by
  rcases cc hu with⟨i,t,rfl,rfl⟩|⟨x,t,rfl,rfl⟩
  ·rcases cc hv with⟨j,u,rfl,rfl⟩|⟨y,u,rfl,rfl⟩
   ·rw[EF] at h;exact wpAny_eqBool_int h
   ·rw[Ej] at h;exact SeqAt.EqAt.int_str i t y u _ _ _ _ h
  ·rcases cc hv with⟨j,u,rfl,rfl⟩|⟨y,u,rfl,rfl⟩
   ·rw[Eu] at h;exact SeqAt.EqAt.str_int x t j u _ _ _ _ h
   ·rw[EN] at h;exact wpAny_eqBool_str h
 «strs»:=λk x t v h=>by
  rcases cc h with⟨i,u,rfl,e⟩|⟨y,u,rfl,e⟩
  ·exact nomatch e
  ·injection e with e1 _
   subst e1;cases v<;>rfl
theorem rW(prog:Program)(w:World)(i:Int)(t:Tok):(ce prog w).is (.inl i) (.int i t)=true:=xg i t
theorem tD(prog:Program)(w:World)(x:Str)(t:Tok):(ce prog w).is (.inr x) (.str x t)=true:=xr x t
inductive V where
 |non|bl (b:Bool)|int (i:Int)|str (x:Str)|byt (b:Array UInt8)|flt (b:UInt64)|ref (a:Addr)|ty (n:String)
 deriving DecidableEq
def RelV:V->Value->Prop
 | .non,u=>u=Value.none
 | .bl b,u=>u=Value.bool b
 | .int i,u=> ∃t,u=Value.int i t
 | .str x,u=> ∃t,u=Value.str x t
 | .byt b,u=> ∃t,u=Value.bytes b t
 | .flt b,u=> ∃t,u=Value.float b t
 | .ref a,u=>u=Value.ref a
 | .ty n,u=>u=Value.type n
abbrev Vals:List V->List Value->Prop:=Paired RelV
theorem Vals.length {xs:List V}{us:List Value}(r:Vals xs us):xs.length=us.length:=Paired.length r
theorem Vals.get: ∀ {xs:List V} {us:List Value} {i:Nat} {x:V},Vals xs us->xs[i]? =some x-> ∃u,us[i]? =some u/\RelV x u
 |_,_,_,_,.nil,e=>by simp at e
 |_,_,0,_,.cons r _,e=>by simp at e;subst e;exact⟨_,rfl,r⟩
 |_,_,i+1,x,.cons _ t,e=>by
  obtain⟨u,h1,h2⟩:=Vals.get (i:=i) (x:=x) t (by simpa using e)
  exact⟨u,by simpa using h1,h2⟩
theorem Vals.set {x:V}{u:Value}(r:RelV x u): ∀ {xs:List V} {us:List Value} (i:Nat),Vals xs us->Vals (xs.set i x) (us.set i u)
 |_,_,_,.nil=>.nil
 |_,_,0,.cons _ t=>.cons r t
 |_,_,i+1,.cons q t=>.cons q (Vals.set r i t)
theorem Vals.append: ∀ {xs ys:List V} {us ws:List Value},Vals xs us->Vals ys ws->Vals (xs++ys) (us++ws)
 |_,_,_,_,.nil,s=>s
 |_,_,_,_,.cons r t,s=>.cons r (Vals.append t s)
theorem Vals.take: ∀ {xs:List V} {us:List Value} (n:Nat),Vals xs us->Vals (xs.take n) (us.take n)
 |_,_,0,_=>.nil
 |_,_,_+1,.nil=>.nil
 |_,_,n+1,.cons r t=>.cons r (Vals.take n t)
theorem Vals.drop: ∀ {xs:List V} {us:List Value} (n:Nat),Vals xs us->Vals (xs.drop n) (us.drop n)
 |_,_,0,r=>r
 |_,_,_+1,.nil=>.nil
 |_,_,n+1,.cons _ t=>Vals.drop n t
def RelO:Option V->Option Value->Prop
 |some v,some u=>RelV v u
 |none,none=>True
 |_,_=>False
def KV {κ:Type}:List (κ×V)->List (κ×Value)->Prop:=Paired λ(p:κ×V) (q:κ×Value)=>p.1=q.1/\RelV p.2 q.2
def kV:bS->V
 | .inl i=>.int i
 | .inr x=>.str x
inductive HO where
 |lst (xs:List V)
 |tup (xs:List V)
 |dK (kvs:List (bS×V))|dT (kvs:List (List bS×V))
 |set (S:Int->Bool) (n:Nat)
 |tst (xs:List (List Int×Addr))
 |ins (C dx:Addr) (fs:List (Str×V))
 |own (x:Addr)
 |xd (fs:List (Str×V))
 |met (f x:Addr)
 |rng (lo hi:Int)
 |frz (o:Obj) (u:HO)
 |tbl (ps:Array Value)
 |ext (φ:Heap->Prop)
abbrev Hp:=Addr->Option HO
def bN(H:Hp)(a:Addr)(o:HO):Hp:=λb=>if b=a then some o else H b
theorem aL {H:Hp}{a:Addr}{o:HO}:bN H a o a=some o:=by unfold bN;rw[if_pos rfl]
theorem aH {H:Hp}{a b:Addr}{o:HO}(h:b≠a):bN H a o b=H b:=by unfold bN;rw[if_neg h]
theorem FL {H:Hp}{a b:Addr}{o u:HO}(h:H a=some o)(h':H b=some u)(d:o≠u):a≠b:=by
 intro e;subst e;rw[h] at h';exact d (Option.some.inj h')
theorem be {H:Hp}{a b:Addr}{o:HO}(h:H a=some o)(h':H b=none):a≠b:=by
 intro e;subst e;rw[h] at h';cases h'
section
variable(P:Program)(w:World)
def ObjOk(H:Hp)(h:Heap)(a:Addr):HO->Prop
 | .lst xs=>xs.length<=sizeLine/\ ∃(its:List Value) (n:Nat),Vals xs its/\h.get? a=some {cls:=.type "list",data:=.seq its.toArray n}
 | .tup xs=>xs.length<=sizeLine/\ ∃its:List Value,Vals xs its/\IsTup h a its.toArray/\ ∃o,h.get? a=some o/\o.dict=none
 | .dK kvs=>kvs.length<=sizeLine/\(a==sysModules)=false/\ ∃vs,KV kvs vs/\h.DictOf (ce P w) a vs
 | .dT kvs=>kvs.length<=sizeLine/\(a==sysModules)=false/\ ∃xs:List (List bS×Addr×Value),
    Paired (λ(p:List bS×V) (q:List bS×Addr×Value)=>p.1=q.1/\H q.2.1=some (.tup (p.1.map kV))/\RelV p.2 q.2.2) kvs xs/\
    ∃o es ep,h.get? a=some o/\o.ExactDict/\o.data=.dict es ep/\es.toList=xs.map (entryOfKey (tupleKind (ce P w)))/\(xs.map (·.1)).Nodup
 | .set S n=>h.SetOf (intKind P w) a S n
 | .tst xs=> ∃o es ep t,h.get? a=some o/\SetOk w o es ep t xs
 | .ins C dx fs=>H dx=some (.own a)/\fs.length<=1000/\dx≠a/\h.get? a=some (W.instObj C dx)/\
    ∃mA,h.Ns1 dx mA/\(∀f,RelO (fs.lookup f) (mA f))/\PySem.Within mA (fs.map (·.1))
 | .own _=> ∃o,h.get? a=some o
 | .xd fs=> ∃mA,h.Ns1 a mA/\ ∀f,RelO (fs.lookup f) (mA f)
 | .rng lo hi=> ∃t u v,h.get? a=some {cls:=.type "range",data:=.fields #[.int lo t,.int hi u,.int 1 v]}
 | .frz o u=>h.get? a=some o/\ObjOk H h a u
 | .tbl ps=>h.get? a=some {cls:=.none,data:=.fields ps}
 | .met f x=>h.get? a=some (W.methodObj (.ref f) (.ref x))
 | .ext φ=>φ h/\(∃o,h.get? a=some o)/\ ∀h1 h2:Heap,φ h1->(∀o,h1.get? a=some o->h2.get? a=some o)->φ h2
def HOk(H:Hp)(h:Heap):Prop:= ∀a o,H a=some o->ObjOk P w H h a o
end
section
variable {P:Program}{w:World}{H H':Hp}{h h':Heap}{a:Addr}{o:HO}
theorem ObjOk.lt(x:ObjOk P w H h a o):a<h.objs.size:=by
 cases o with
 |lst xs=>obtain⟨_,_,_,_,e⟩:=x;exact Heap.lt_size e
 |tup xs=>obtain⟨_,_,_,p,_⟩:=x;exact p.lt
 |dK kvs=>obtain⟨_,_,_,_,o,_,_,e,_⟩:=x;exact Heap.lt_size e
 |dT kvs=>obtain⟨_,_,_,_,o,_,_,e,_⟩:=x;exact Heap.lt_size e
 |set S n=>obtain⟨o,_,_,_,e,_⟩:=x;exact Heap.lt_size e
 |tst xs=>obtain⟨o,_,_,_,e,_⟩:=x;exact Heap.lt_size e
 |ins C dx fs=>obtain⟨_,_,_,e,_⟩:=x;exact Heap.lt_size e
 |own y=>obtain⟨_,e⟩:=x;exact Heap.lt_size e
 |xd fs=>obtain⟨_,⟨_,_,_,e,_⟩,_⟩:=x;exact Heap.lt_size e
 |rng lo hi=>obtain⟨_,_,_,e⟩:=x;exact Heap.lt_size e
 |frz ob u=>obtain⟨e,_⟩:=x;exact Heap.lt_size e
 |tbl ps=>exact Heap.lt_size (show h.get? a=some _ from x)
 |met f y=>exact Heap.lt_size (show h.get? a=some _ from x)
 |ext φ=>obtain⟨_,⟨_,e⟩,_⟩:=x;exact Heap.lt_size e
theorem Paired.mapP {α β:Type}{F G:α->β->Prop}: ∀ {l₁:List α} {l₂:List β},Paired F l₁ l₂->(∀a b,F a b->G a b)->Paired G l₁ l₂
 |_,_,.nil,_=>.nil
 |_,_,.cons r t,f=>.cons (f _ _ r) (Paired.mapP t f)
theorem ObjOk.stay(x:ObjOk P w H h a o)(k: ∀b u,(b=a\/H b=some (.own a))->h.get? b=some u->h'.get? b=some u)
 (ho: ∀b,H b=some (.own a)->H' b=some (.own a)) (ht: ∀b xs,H b=some (.tup xs)->H' b=some (.tup xs)):ObjOk P w H' h' a o:=by
 induction o with
 |lst xs=>obtain⟨z,its,n,r,e⟩:=x;exact⟨z,its,n,r,k _ _ (.inl rfl) e⟩
 |tup xs=>obtain⟨z,its,r,⟨ob,e,c⟩,ob2,e2,c2⟩:=x;exact⟨z,its,r,⟨ob,k _ _ (.inl rfl) e,c⟩,ob2,k _ _ (.inl rfl) e2,c2⟩
 |dK kvs=>obtain⟨z,y,vs,r,ob,es,ep,e,c⟩:=x;exact⟨z,y,vs,r,ob,es,ep,k _ _ (.inl rfl) e,c⟩
 |dT kvs=>
  obtain⟨z,y,xs,r,ob,es,ep,e,c⟩:=x
  exact⟨z,y,xs,Paired.mapP r λp q z=>⟨z.1,ht _ _ z.2.1,z.2.2⟩,ob,es,ep,k _ _ (.inl rfl) e,c⟩
 |set S n=>obtain⟨ob,es,ep,t,e,c⟩:=x;exact⟨ob,es,ep,t,k _ _ (.inl rfl) e,c⟩
 |tst xs=>obtain⟨ob,es,ep,t,e,c⟩:=x;exact⟨ob,es,ep,t,k _ _ (.inl rfl) e,c⟩
 |ins C dx fs=>
  obtain⟨d,z,ne,e,mA,⟨od,es,ep,e2,c⟩,r⟩:=x
  exact⟨ho _ d,z,ne,k _ _ (.inl rfl) e,mA,⟨od,es,ep,k _ _ (.inr d) e2,c⟩,r⟩
 |own y=>obtain⟨ob,e⟩:=x;exact⟨ob,k _ _ (.inl rfl) e⟩
 |xd fs=>obtain⟨mA,⟨od,es,ep,e,c⟩,r⟩:=x;exact⟨mA,⟨od,es,ep,k _ _ (.inl rfl) e,c⟩,r⟩
 |rng lo hi=>obtain⟨t,u,v,e⟩:=x;exact⟨t,u,v,k _ _ (.inl rfl) e⟩
 |frz ob u ih=>obtain⟨e,q⟩:=x;exact⟨k _ _ (.inl rfl) e,ih q⟩
 |tbl ps=>
  have e:h.get? a=some {cls:=.none,data:=.fields ps}:=x
  show h'.get? a=some {cls:=.none,data:=.fields ps};exact k a _ (.inl rfl) e
 |met f y=>
  have e:h.get? a=some (W.methodObj (.ref f) (.ref y)):=x
  show h'.get? a=some (W.methodObj (.ref f) (.ref y));exact k a _ (.inl rfl) e
 |ext φ=>obtain⟨p,⟨o,e⟩,st⟩:=x;exact⟨st _ _ p λo q=>k _ _ (.inl rfl) q,⟨o,k _ _ (.inl rfl) e⟩,st⟩
theorem HOk.lt(x:HOk P w H h)(e:H a=some o):a<h.objs.size:=(x a o e).lt
theorem HOk.fresh(x:HOk P w H h)(e:h.objs.size<=a):H a=none:=by
 cases q:H a with
 |none=>rfl
 |some u=>exact absurd (Nat.lt_of_lt_of_le (x.lt q) e) (Nat.lt_irrefl _)
theorem HOk.kept(x:HOk P w H h)(k: ∀b u,h.get? b=some u->h'.get? b=some u):HOk P w H h':=λa o e=>
 (x a o e).stay (λb u _ q=>k b u q) (λ_ q=>q) λ_ _ q=>q
theorem HOk.laid(x:HOk P w H h)(k: ∀b u,h.get? b=some u->h'.get? b=some u)(hp:h.objs.size<=a)(new:ObjOk P w (bN H a o) h' a o):HOk P w (bN H a o) h':=λb u e=>by
 have hn:=x.fresh hp
 by_cases hb:b=a
 ·subst hb;rw[aL] at e;cases e;exact new
 ·rw[aH hb] at e
  exact(x b u e).stay (λc v _ q=>k c v q) (λc q=>by rw[aH (be q hn)];exact q) λc xs q=>by rw[aH (be q hn)];exact q
end
def Rd(H:Hp)(a:Addr)(u:HO):Prop:=H a=some u\/ ∃o,H a=some (.frz o u)
theorem Rd.ok {P:Program}{w:World}{H:Hp}{h:Heap}{a:Addr}{u:HO}(r:Rd H a u)(x:HOk P w H h):ObjOk P w H h a u:=by
 rcases r with r|⟨o,r⟩
 ·exact x a u r
 ·obtain⟨_,q⟩:=x a _ r
  exact q
def GZ:Option HO->Prop
 |some (.lst _)=>True
 |some (.dK _)=>True
 |some (.dT _)=>True
 |some (.set _ _)=>True
 |some (.tst _)=>True
 |some (.ins _ _ _)=>True
 |some (.ext _)=>True
 |_=>False
section
variable {P:Program}{w:World}{H:Hp}{h h':Heap}{x e:Addr}{o':HO}
theorem HOk.write(ok:HOk P w H h)(mu:GZ (H x))(he:e=x\/H e=some (.own x))(k: ∀b u,b≠e->h.get? b=some u->h'.get? b=some u)(heo: ∃u,h'.get? e=some u)
 (new:ObjOk P w (bN H x o') h' x o'):HOk P w (bN H x o') h':=λb u q=>by
 have nown: ∀c y,H c=some (.own y)->c≠x:=λc y r z=>by subst z;rw[r] at mu;exact mu
 have ntup: ∀c xs,H c=some (.tup xs)->c≠x:=λc xs r z=>by subst z;rw[r] at mu;exact mu
 by_cases hb:b=x
 ·subst hb;rw[aL] at q;cases q;exact new
 ·rw[aH hb] at q
  by_cases hbe:b=e
  ·have q':H b=some (.own x):=by
    rcases he with z|z
    ·exact absurd (hbe.trans z) hb
    ·rw[hbe];exact z
   rw[q] at q';cases q';obtain⟨v,hv⟩:=heo
   exact⟨v,by rw[hbe];exact hv⟩
  ·refine(ok b u q).stay (λc v hc r=>k c v ?_ r) (λc r=>by rw[aH (nown c b r)];exact r) λc xs r=>by rw[aH (ntup c xs r)];exact r
   rcases hc with rfl|hc
   ·exact hbe
   ·rintro rfl
    rcases he with z|z
    ·exact nown c b hc z
    ·rw[hc] at z;cases z;exact hb rfl
end
structure Un(fs ex:List Addr)(H H':Hp)(h h':Heap):Prop where
 keep: ∀b o,h.get? b=some o->H b=none->b∉fs->b∉ex->h'.get? b=some o
 slot: ∀b o,h.get? b=some o->H b=none->b∈fs->b∉ex-> ∃sl,h'.get? b=some {o with slots:=sl}
 free: ∀b o,h.get? b=some o->H b=none->b∉ex->H' b=none
 there: ∀b o,h.get? b=some o->b∉ex-> ∃o',h'.get? b=some o'
 tups: ∀b xs,H b=some (.tup xs)->H' b=some (.tup xs)
 frzs: ∀b o u,H b=some (.frz o u)->H' b=some (.frz o u)
 tbls: ∀b ps,H b=some (.tbl ps)-> ∃more,H' b=some (.tbl (ps++more))
section
variable {fs fs' ex ex':List Addr}{H H1 H2:Hp}{h h1 h2 h':Heap}{a x e:Addr}{o:HO}
theorem Un.any(u:Un fs ex H H1 h h1){b:Addr}{ob:Obj}(q:h.get? b=some ob)(n:H b=none)(hx:b∉ex): ∃sl,h1.get? b=some {ob with slots:=sl}:=by
 by_cases hb:b∈fs
 ·exact u.slot b ob q n hb hx
 ·exact⟨ob.slots,u.keep b ob q n hb hx⟩
theorem Un.trans(a:Un fs ex H H1 h h1)(b:Un fs ex H1 H2 h1 h2):Un fs ex H H2 h h2 where
 keep:=λc ob q n hc hx=>b.keep c ob (a.keep c ob q n hc hx) (a.free c ob q n hx) hc hx
 slot:=λc ob q n hc hx=>by
  obtain⟨sl,e1⟩:=a.slot c ob q n hc hx
  obtain⟨sl',e2⟩:=b.slot c _ e1 (a.free c ob q n hx) hc hx
  exact⟨sl',e2⟩
 free:=λc ob q n hx=>by
  obtain⟨o',e1⟩:=a.there c ob q hx
  exact b.free c o' e1 (a.free c ob q n hx) hx
 there:=λc ob q hx=>by
  obtain⟨o',e1⟩:=a.there c ob q hx
  exact b.there c o' e1 hx
 tups:=λc xs q=>b.tups c xs (a.tups c xs q)
 frzs:=λc ob xs q=>b.frzs c ob xs (a.frzs c ob xs q)
 tbls:=λc ps q=>by
  obtain⟨m1,e1⟩:=a.tbls c ps q
  obtain⟨m2,e2⟩:=b.tbls c _ e1
  exact⟨m1++m2,by rw[e2,Array.append_assoc]⟩
theorem Un.kept(k: ∀b u,h.get? b=some u->h'.get? b=some u):Un fs ex H H h h':=
 ⟨λb ob q _ _ _=>k b ob q,λb ob q _ _ _=>⟨ob.slots,k b ob q⟩,λ_ _ _ n _=>n,λb ob q _=>⟨ob,k b ob q⟩,λ_ _ q=>q,λ_ _ _ q=>q,λ_ ps q=>⟨#[],by rw[q];simp⟩⟩
theorem Un.refl:Un fs ex H H h h:=Un.kept λ_ _ q=>q
theorem Un.laid(k: ∀b u,h.get? b=some u->h'.get? b=some u)(hp:h.objs.size<=a)(hn:H a=none):Un fs ex H (bN H a o) h h' where
 keep:=λb u q _ _ _=>k b u q
 slot:=λb u q _ _ _=>⟨u.slots,k b u q⟩
 free:=λb u q n _=>by rw[aH (Nat.ne_of_lt (Nat.lt_of_lt_of_le (Heap.lt_size q) hp))];exact n
 there:=λb u q _=>⟨u,k b u q⟩
 tups:=λb xs q=>by rw[aH (be q hn)];exact q
 frzs:=λb u xs q=>by rw[aH (be q hn)];exact q
 tbls:=λb ps q=>⟨#[],by rw[aH (be q hn),q];simp⟩
theorem Un.write(mu:GZ (H x))(he:e=x\/H e=some (.own x))(k: ∀b u,b≠e->h.get? b=some u->h'.get? b=some u)(heo: ∃u,h'.get? e=some u):Un fs ex H (bN H x o) h h':=by
 have hx: ∀b,H b=none->b≠x:=λb n z=>by subst z;rw[n] at mu;exact mu
 have hb: ∀b,H b=none->b≠e:=λb n z=>by
  subst z;rcases he with r|r
  ·exact hx b n r
  ·rw[n] at r;cases r
 have hm: ∀b u,H b=some u-> ¬GZ (some u)->b≠x:=λb u q nm z=>by subst z;rw[q] at mu;exact nm mu
 refine⟨λb u q n _ _=>k b u (hb b n) q,λb u q n _ _=>⟨u.slots,k b u (hb b n) q⟩,λb u q n _=>by rw[aH (hx b n)];exact n,λb u q _=>?_,
  λb xs q=>by rw[aH (hm b _ q λz=>z)];exact q,λb u xs q=>by rw[aH (hm b _ q λz=>z)];exact q,λb ps q=>⟨#[],by rw[aH (hm b _ q λz=>z),q];simp⟩⟩
 by_cases hbe:b=e
 ·subst hbe;exact heo
 ·exact⟨u,k b u hbe q⟩
end
def trk(h:Heap)(H:Hp):List Addr:=(List.range h.objs.size).filter λa=>(H a).isSome
def rF(h:Heap)(H:Hp):Heap:=W.hideAll h (trk h H)
theorem wO(h:Heap)(H:Hp):(rF h H).objs.size=h.objs.size:=W.hideAll_size _ _
theorem AZ {h:Heap}{H:Hp}{b:Addr}{o:Obj}(e:h.get? b=some o)(n:H b=none):(rF h H).get? b=some o:=
 W.hideAll_get _ e λhm=>by
  have q:(H b).isSome=true:=(List.mem_filter.mp hm).2
  rw[n] at q;simp at q
theorem C3 {h:Heap}{H:Hp}{b:Addr}{o:Obj}(e:(rF h H).get? b=some o):h.get? b=some o/\H b=none:=by
 have e':h.get? b=some o:=W.of_hideAll (trk h H) e
 refine⟨e',?_⟩
 cases q:H b with
 |none=>rfl
 |some x=>
  have hm:b∈trk h H:=List.mem_filter.mpr ⟨List.mem_range.mpr (Heap.lt_size e'),by simp[q]⟩
  have z:(rF h H).get? b=none:=W.hideAll_none (trk h H) hm
  rw[z] at e;cases e
structure Mod(K:W.Frag)(mg:Str->Option Value)(base:Heap):Prop where
 kin:K.In base
 glob:base.Ns mainGlobals mg
 blt: ∃mb,base.Ns builtinsNs mb/\ ∀x:Str,x≠"__name__"->mb x=bootBuiltins x
 nolimit:base.NoLimit
structure Cx where
 prog:Program
 w:World
 K:W.Frag
 mg:Str->Option Value
 base:Heap
 A:Around
 N:List Str
 s₀:Shared
 H₀:Hp
 env:Env
 outer:List Env
 stack:List Env
 ex:List Addr
 fn:Str->Bool
 calm:Bool
 pn:List (Addr×Obj)
 xe:Value->Shared->Prop
def pO(l:List Env):List Addr:=l.filterMap (·.frame)
abbrev Cx.fs(X:Cx):List Addr:=pO X.outer
def qB(sc:Scope)(x:Str):Prop:=sc.names.lookup x=some .local\/sc.names.lookup x=some .cell\/sc.names.lookup x=some .free
def yd(sc:Scope)(x:Str):Prop:=sc.names.lookup x=some .local\/sc.names.lookup x=some .cell
def Hj(env:Env)(h:Heap)(m:Str->Option Value)(x:Str)(u:Value):Prop:=
 (env.kindOf x=some .local/\m x=some u)\/((env.kindOf x=some .cell\/env.kindOf x=some .free)/\ ∃c,env.cells.lookup x=some c/\h.IsCell c (some u))
structure Cx.Ok(X:Cx):Prop where
 mod:Mod X.K X.mg X.base
 kind:X.env.scope.kind=.function
 glob:X.env.globals=mainGlobals
 blt:X.env.builtins=builtinsNs
 above:X.s₀.heap.objs.size<=X.env.locals
 inj: ∀x y c,X.env.cells.lookup x=some c->X.env.cells.lookup y=some c->x=y
 has: ∀x,(X.env.kindOf x=some .cell\/X.env.kindOf x=some .free)-> ∃c,X.env.cells.lookup x=some c
 cab: ∀x c,X.fn x=true->X.env.cells.lookup x=some c->X.s₀.heap.objs.size<=c
 hd:X.calm=true->X.A.handled=none
 frames:X.A.frames=some X.stack
 stk:X.stack=X.outer\/(X.stack=X.env::X.outer/\X.env.frame=some X.env.locals)
 exf: ∀b∈X.ex,b≠X.env.locals/\ ∀x c,X.env.cells.lookup x=some c->c≠b
 bs: ∀b o,X.base.get? b=some o->X.s₀.heap.get? b=some o/\X.H₀ b=none
 bsz:X.base.objs.size<=X.s₀.heap.objs.size
 noex: ∀b o,X.base.get? b=some o->b∉X.ex
 exfs: ∀b∈X.ex,b∉X.fs
 funs:X.s₀.heap.FunFrames X.base X.outer
 frf: ∀b∈X.fs,X.H₀ b=none
structure Inv(X:Cx)(ae:List (Addr×Obj))(σ:List (Option V))(H:Hp)(s:Shared):Prop where
 ok:X.Ok
 os:s.os=X.s₀.os
 bare:AllBare s.gens
 base:Un X.fs X.ex X.H₀ H X.s₀.heap s.heap
 loc: ∃m,s.heap.Ns X.env.locals m/\ ∀(i:Nat) (x:Str) (v:V),X.N[i]? =some x->σ[i]? =some (some v)->qB X.env.scope x-> ∃u,RelV v u/\Hj X.env s.heap m x u
 cell: ∀x c,X.env.cells.lookup x=some c-> ∃v,s.heap.IsCell c v
 free:H X.env.locals=none
 freeC: ∀x c,X.env.cells.lookup x=some c->H c=none
 pin: ∀p∈X.pn++ae,s.heap.get? p.1=some p.2/\H p.1=none/\p.1≠X.env.locals/\p.1∉X.fs/\ ∀v,p.2.data≠ .cell v
 hok:HOk X.prog X.w H s.heap
 len:σ.length=X.N.length
section
variable {X:Cx}{ae:List (Addr×Obj)}{σ:List (Option V)}{H H':Hp}{s:Shared}{h':Heap}
theorem Cx.Ok.nofr(ok:X.Ok){b:Addr}{o:Obj}(e:X.base.get? b=some o):b∉X.fs:=λhb=>by
 have:=(ok.funs.mem hb).1
 rw[e] at this;cases this
theorem Inv.bs(I:Inv X ae σ H s): ∀b o,X.base.get? b=some o->s.heap.get? b=some o/\H b=none:=λb o e=>
 ⟨I.base.keep b o (I.ok.bs b o e).1 (I.ok.bs b o e).2 (I.ok.nofr e) (I.ok.noex b o e),I.base.free b o (I.ok.bs b o e).1 (I.ok.bs b o e).2 (I.ok.noex b o e)⟩
theorem Inv.bk(I:Inv X ae σ H s): ∀b o,X.base.get? b=some o->s.heap.get? b=some o:=λb o e=>(I.bs b o e).1
theorem Inv.mod(I:Inv X ae σ H s):Mod X.K X.mg X.base:=I.ok.mod
theorem Inv.kIn(I:Inv X ae σ H s):X.K.In s.heap:=I.ok.mod.kin.keeps I.bk
theorem Inv.fr(I:Inv X ae σ H s): ∃m,Fr X.base X.env.locals s.heap m:=
 let⟨m,hn,_⟩:=I.loc
 ⟨m,hn,I.bk,Nat.le_trans I.ok.bsz I.ok.above⟩
theorem Inv.lt(I:Inv X ae σ H s):X.env.locals<s.heap.objs.size:=let⟨_,hn,_⟩:=I.loc;hn.lt
theorem Inv.sz(I:Inv X ae σ H s):X.s₀.heap.objs.size<=s.heap.objs.size:=Nat.le_trans I.ok.above (Nat.le_of_lt I.lt)
theorem Inv.nofs(I:Inv X ae σ H s){a:Addr}(h:s.heap.objs.size<=a):a∉X.fs:=λhb=>by
 obtain⟨_,o,ho,_⟩:=I.ok.funs.mem hb
 exact absurd (Nat.lt_of_lt_of_le (Heap.lt_size ho) (Nat.le_trans I.sz h)) (Nat.lt_irrefl _)
theorem Inv.cne(I:Inv X ae σ H s): ∀x c,X.env.cells.lookup x=some c->c≠X.env.locals:=λx c e z=>by
 obtain⟨v,o,ho,hd⟩:=I.cell x c e
 obtain⟨m,⟨o',es,ep,ho',hd',_⟩,_⟩:=I.loc
 rw[z,ho'] at ho;cases ho;rw[hd'] at hd;cases hd
theorem Inv.funs(I:Inv X ae σ H s):s.heap.FunFrames X.base X.outer:=by
 have all: ∀(l:List Env),(∀b∈pO l,b∈X.fs)->X.s₀.heap.FunFrames X.base l->s.heap.FunFrames X.base l:=by
  intro l
  induction l with
  |nil=>intro _ _;trivial
  |cons env r ih=>
   intro hs hl;obtain⟨hk,⟨L,o,hf,hn,ho,hd⟩,hr⟩:=hl
   have hL:L∈X.fs:=hs L (by unfold pO;rw[List.filterMap_cons,hf];exact List.mem_cons_self)
   obtain⟨sl,e⟩:=I.base.slot L o ho (I.ok.frf L hL) hL λz=>I.ok.exfs L z hL
   exact⟨hk,⟨L,_,hf,hn,e,hd⟩,ih (λb hb=>hs b (by unfold pO;rw[List.filterMap_cons,hf];exact List.mem_cons_of_mem _ hb)) hr⟩
 exact all X.outer (λ_ hb=>hb) I.ok.funs
theorem Inv.stack(I:Inv X ae σ H s):s.heap.FunFrames X.base X.stack:=by
 rcases I.ok.stk with e|⟨e,hf⟩
 ·rw[e];exact I.funs
 ·rw[e]
  obtain⟨m,hn,_⟩:=I.loc
  refine .cons (by rw[I.ok.kind];decide) hf hn ?_ I.funs
  exact Heap.get?_none_of_le (Nat.le_trans I.ok.bsz I.ok.above)
theorem Inv.stkSub(I:Inv X ae σ H s): ∀b∈pO X.stack,b∈X.env.locals::X.fs:=λb hb=>by
 rcases I.ok.stk with e|⟨e,hf⟩
 ·rw[e] at hb;exact List.mem_cons_of_mem _ hb
 ·rw[e] at hb
  unfold pO at hb;rw[List.filterMap_cons,hf] at hb;exact hb
theorem Inv.stkFree(I:Inv X ae σ H s): ∀b∈pO X.stack,H b=none:=λb hb=>by
 rcases List.mem_cons.mp (I.stkSub b hb) with e|hb
 ·rw[e];exact I.free
 ·obtain⟨_,o,ho,_⟩:=I.ok.funs.mem hb
  exact I.base.free b o ho (I.ok.frf b hb) λz=>I.ok.exfs b z hb
theorem Inv.step {g':Array GenState}{t':Nat}{d':Drawn}{ch:List Addr}(I:Inv X ae σ H s)
 (hch: ∀b∈ch,(b∈X.ex\/X.s₀.heap.objs.size<=b)/\b≠X.env.locals/\(∀x c,X.env.cells.lookup x=some c->c≠b)/\ ∀p∈X.pn++ae,p.1≠b)
 (keep: ∀b o,b≠X.env.locals->b∉X.fs->b∉ch->s.heap.get? b=some o->H b=none->h'.get? b=some o)
 (slot: ∀b o,b≠X.env.locals->b∈X.fs->b∉ch->s.heap.get? b=some o->H b=none-> ∃sl,h'.get? b=some {o with slots:=sl}) (free: ∀b o,b∉ch->s.heap.get? b=some o->H b=none->H' b=none)
 (there: ∀b o,b∉ch->s.heap.get? b=some o-> ∃o',h'.get? b=some o')
 (tups: ∀b xs,H b=some (.tup xs)->H' b=some (.tup xs)) (frzs: ∀b o u,H b=some (.frz o u)->H' b=some (.frz o u)) (tbls: ∀b ps,H b=some (.tbl ps)-> ∃more,H' b=some (.tbl (ps++more)))
 (ns: ∀m,s.heap.Ns X.env.locals m->h'.Ns X.env.locals m) (hok:HOk X.prog X.w H' h') (hg:AllBare g'):
 Inv X ae σ H' {s with heap:=h',gens:=g',drawn:=d',toks:=t'}:=by
 have neL: ∀b o,X.s₀.heap.get? b=some o->b≠X.env.locals:=λb o e=>Nat.ne_of_lt (Nat.lt_of_lt_of_le (Heap.lt_size e) I.ok.above)
 have neC: ∀b o,X.s₀.heap.get? b=some o->b∉X.ex->b∉ch:=λb o e hx hb=>by
  rcases(hch b hb).1 with z|z
  ·exact hx z
  ·exact absurd (Nat.lt_of_lt_of_le (Heap.lt_size e) z) (Nat.lt_irrefl _)
 have cellK: ∀x c,X.env.cells.lookup x=some c-> ∀v,s.heap.IsCell c v->h'.IsCell c v:=λx c e v hq_=>by
  obtain⟨o,ho,hd⟩:=hq_
  have nch:c∉ch:=λz=>(hch c z).2.2.1 x c e rfl
  by_cases hc:c∈X.fs
  ·obtain⟨sl,q⟩:=slot c o (I.cne x c e) hc nch ho (I.freeC x c e)
   exact⟨_,q,hd⟩
  ·exact⟨o,keep c o (I.cne x c e) hc nch ho (I.freeC x c e),hd⟩
 refine⟨I.ok,I.os,hg,⟨λb o e n hb hx=>?_,λb o e n hb hx=>?_,λb o e n hx=>?_,λb o e hx=>?_,λb xs e=>tups b xs (I.base.tups b xs e),λb o xs e=>frzs b o xs (I.base.frzs b o xs e),λb ps e=>?_⟩,?_,λx c e=>?_,?_,λx c e=>?_,λp hp=>?_,hok,I.len⟩
 ·exact keep b o (neL b o e) hb (neC b o e hx) (I.base.keep b o e n hb hx) (I.base.free b o e n hx)
 ·obtain⟨sl,e1⟩:=I.base.slot b o e n hb hx
  obtain⟨sl',e2⟩:=slot b _ (neL b o e) hb (neC b o e hx) e1 (I.base.free b o e n hx)
  exact⟨sl',e2⟩
 ·obtain⟨o',e1⟩:=I.base.there b o e hx
  exact free b o' (neC b o e hx) e1 (I.base.free b o e n hx)
 ·obtain⟨o',e1⟩:=I.base.there b o e hx
  exact there b o' (neC b o e hx) e1
 ·obtain⟨m1,e1⟩:=I.base.tbls b ps e
  obtain⟨m2,e2⟩:=tbls b _ e1
  exact⟨m1++m2,by rw[e2,Array.append_assoc]⟩
 ·obtain⟨m,hn,hl⟩:=I.loc
  refine⟨m,ns m hn,λi x v e1 e2 e3=>?_⟩
  obtain⟨u,r,l⟩:=hl i x v e1 e2 e3
  refine⟨u,r,?_⟩
  rcases l with l|⟨k,c,e,z⟩
  ·exact .inl l
  ·exact .inr ⟨k,c,e,cellK x c e _ z⟩
 ·obtain⟨v,z⟩:=I.cell x c e
  exact⟨v,cellK x c e v z⟩
 ·obtain⟨m,⟨o,_,_,ho,_⟩,_⟩:=I.loc
  exact free _ o (λz=>(hch _ z).2.1 rfl) ho I.free
 ·obtain⟨v,o,ho,hd⟩:=I.cell x c e
  exact free c o (λz=>(hch c z).2.2.1 x c e rfl) ho (I.freeC x c e)
 ·obtain⟨e,n,ne,nf,d⟩:=I.pin p hp
  have nch:p.1∉ch:=λz=>(hch p.1 z).2.2.2 p hp rfl
  exact⟨keep p.1 p.2 ne nf nch e n,free p.1 p.2 nch e n,ne,nf,d⟩
theorem Inv.un {t':Nat}(I:Inv X ae σ H s)(u:Un X.fs [] H H' s.heap h')(hok:HOk X.prog X.w H' h'):Inv X ae σ H' {s with heap:=h',toks:=t'}:=by
 obtain⟨m,⟨o,es,ep,ho,r⟩,_⟩:=id I.loc
 obtain⟨sl,hL⟩:=u.any ho I.free (by simp)
 exact I.step (g':=s.gens) (d':=s.drawn) (ch:=[]) (λ_ z=>nomatch z) (λb o _ hb _ e n=>u.keep b o e n hb (by simp)) (λb o _ hb _ e n=>u.slot b o e n hb (by simp)) (λb o _ e n=>u.free b o e n (by simp)) (λb o _ e=>u.there b o e (by simp)) u.tups u.frzs u.tbls (λm' hm=>by
  obtain⟨o',es',ep',ho',r'⟩:=hm
  rw[ho] at ho';cases ho';exact⟨_,es',ep',hL,r'⟩) hok I.bare
theorem Inv.call {g':Array GenState}{t':Nat}{d':Drawn}{ch:List Addr}(I:Inv X ae σ H s)(u:Un (pO X.stack) ch H H' s.heap h')(hok:HOk X.prog X.w H' h')(hg:AllBare g')
 (hch: ∀b∈ch,(b∈X.ex\/X.s₀.heap.objs.size<=b)/\b≠X.env.locals/\(∀x c,X.env.cells.lookup x=some c->c≠b)/\ ∀p∈X.pn++ae,p.1≠b):
 Inv X ae σ H' {s with heap:=h',gens:=g',drawn:=d',toks:=t'}:=by
 obtain⟨m,⟨o,es,ep,ho,r⟩,_⟩:=id I.loc
 obtain⟨sl,hL⟩:=u.any ho I.free λz=>(hch _ z).2.1 rfl
 exact I.step (ch:=ch) hch (λb o hL hb hc e n=>u.keep b o e n (λz=>(List.mem_cons.mp (I.stkSub b z)).elim hL hb) hc) (λb o _ _ hc e n=>u.any e n hc) (λb o hc e n=>u.free b o e n hc) (λb o hc e=>u.there b o e hc) u.tups u.frzs u.tbls (λm' hm=>by
  obtain⟨o',es',ep',ho',r'⟩:=hm
  rw[ho] at ho';cases ho';exact⟨_,es',ep',hL,r'⟩) hok hg
theorem Inv.turned {t':Nat}{it:Addr}(I:Inv X ae σ H s)(k: ∀b o,b≠it->s.heap.get? b=some o->h'.get? b=some o)(hn:H it=none)(hL:it≠X.env.locals)
 (h1:it∈X.ex\/X.s₀.heap.objs.size<=it) (h2: ∀x c,X.env.cells.lookup x=some c->c≠it) (h3: ∀p∈X.pn++ae,p.1≠it):Inv X ae σ H {s with heap:=h',toks:=t'}:=by
 have nit: ∀b u,H b=some u->b≠it:=λb u e z=>by rw[z,hn] at e;cases e
 refine I.step (g':=s.gens) (d':=s.drawn) (ch:=[it]) (λb hb=>?_) (λb o _ _ hc e _=>k b o (λz=>hc (by simp[z])) e) (λb o _ _ hc e _=>⟨o.slots,k b o (λz=>hc (by simp[z])) e⟩) (λ_ _ _ _ n=>n)
  (λb o hc e=>⟨o,k b o (λz=>hc (by simp[z])) e⟩) (λ_ _ e=>e) (λ_ _ _ e=>e) (λb ps e=>⟨#[],by rw[e];simp⟩) (λm hm=>?_) (λb u e=>?_) I.bare
 ·have e:b=it:=by simpa using hb
  subst e;exact⟨h1,hL,h2,h3⟩
 ·obtain⟨o,es,ep,ho,r⟩:=hm
  exact⟨o,es,ep,k _ o (Ne.symm hL) ho,r⟩
 ·refine(I.hok b u e).stay (λc v hc q=>k c v ?_ q) (λ_ q=>q) λ_ _ q=>q
  rcases hc with z|z
  ·rw[z];exact nit b u e
  ·exact nit c _ z
theorem Inv.tok(I:Inv X ae σ H s)(t:Nat):Inv X ae σ H {s with toks:=t}:=I.un (h':=s.heap) (t':=t) Un.refl I.hok
theorem Inv.kept {t':Nat}(I:Inv X ae σ H s)(k: ∀b u,s.heap.get? b=some u->h'.get? b=some u):Inv X ae σ H {s with heap:=h',toks:=t'}:=I.un (Un.kept k) (I.hok.kept k)
theorem Inv.laid {a:Addr}{o:HO}{t':Nat}(I:Inv X ae σ H s)(k: ∀b u,s.heap.get? b=some u->h'.get? b=some u)(hp:s.heap.objs.size<=a)(new:ObjOk X.prog X.w (bN H a o) h' a o):
 Inv X ae σ (bN H a o) {s with heap:=h',toks:=t'}:=I.un (Un.laid k hp (I.hok.fresh hp)) (I.hok.laid k hp new)
theorem Inv.write {x e:Addr}{o:HO}{t':Nat}(I:Inv X ae σ H s)(mu:GZ (H x))(he:e=x\/H e=some (.own x))(k: ∀b u,b≠e->s.heap.get? b=some u->h'.get? b=some u)(heo: ∃u,h'.get? e=some u)
 (new:ObjOk X.prog X.w (bN H x o) h' x o):Inv X ae σ (bN H x o) {s with heap:=h',toks:=t'}:=I.un (Un.write mu he k heo) (I.hok.write mu he k heo new)
theorem Inv.pins_of {pins':List (Addr×Obj)}(I:Inv X ae σ H s)(h: ∀p∈pins',s.heap.get? p.1=some p.2/\H p.1=none/\p.1≠X.env.locals/\p.1∉X.fs/\ ∀v,p.2.data≠ .cell v):Inv X pins' σ H s:=
 ⟨I.ok,I.os,I.bare,I.base,I.loc,I.cell,I.free,I.freeC,λp hp=>(List.mem_append.mp hp).elim (λz=>I.pin p (List.mem_append_left _ z)) (h p),I.hok,I.len⟩
theorem sE {N:List Str}(hN:N.Nodup){i j:Nat}{x:Str}(a:N[i]? =some x)(b:N[j]? =some x):i=j:=by
 obtain⟨h1,e1⟩:=List.getElem?_eq_some_iff.mp a
 obtain⟨h2,e2⟩:=List.getElem?_eq_some_iff.mp b
 exact(List.getElem_inj hN).mp (e1.trans e2.symm)
theorem lZ {M:Model}{A:Around}{E:Value->Shared->Prop}{i:Nat}{x:Str}{v:V}{u:Value}{Q:Unit->Shared->Prop}(I:Inv X ae σ H s)(hN:X.N.Nodup)(hi:X.N[i]? =some x)(hx:yd X.env.scope x)(r:RelV v u)
 (h: ∀s',Inv X ae (σ.set i (some v)) H s'->(∃a,Heap.SameBut a s.heap s'.heap/\(a=X.env.locals\/X.env.cells.lookup x=some a))->Q () s') (hf:X.fn x=true\/X.env.scope.names.lookup x=some .local:=by first|exact .inl rfl|exact .inr rfl|assumption):wpAny M A (storeName X.env x u) Q E s:=by
 obtain⟨m,hn,hl⟩:=id I.loc
 have hcls:(X.env.scope.kind== .class||(X.env.scope.kind== .module&&X.env.locals !=X.env.globals))=false:=by rw[I.ok.kind];rfl
 have hiσ:i<σ.length:=by rw[I.len];exact(List.getElem?_eq_some_iff.mp hi).1
 have cne:=I.cne
 have tracked: ∀ {a:Addr} {h':Heap},(∃o,s.heap.get? a=some o/\H a=none)->Heap.SameBut a s.heap h'->HOk X.prog X.w H h':=λ{a h'} ha hs b ob e=>by
  obtain⟨_,_,hfree⟩:=ha
  refine(I.hok b ob e).stay (λc w' hc q=>(hs.2 c ?_).trans q) (λ_ q=>q) λ_ _ q=>q
  rintro rfl
  rcases hc with rfl|hc
  ·rw[hfree] at e;cases e
  ·rw[hfree] at hc;cases hc
 rcases hx with hk|hk
 ·refine wpAny_storeName_local hk hn (λh' hn' hs=>?_) hcls
  obtain⟨oL,_,_,hoL,_⟩:=id hn
  refine h _ ⟨I.ok,I.os,I.bare,⟨λb o e n hb hx=>?_,λb o e n hb hx=>?_,I.base.free,λb o e hx=>?_,I.base.tups,I.base.frzs,I.base.tbls⟩,⟨_,hn',λj y v' e1 e2 e3=>?_⟩,λy c e=>?_,I.free,I.freeC,λp hp=>?_,tracked ⟨oL,hoL,I.free⟩ hs,by simpa using I.len⟩ ⟨_,hs,.inl rfl⟩
  ·exact(hs.2 b (Nat.ne_of_lt (Nat.lt_of_lt_of_le (Heap.lt_size e) I.ok.above))).trans (I.base.keep b o e n hb hx)
  ·obtain⟨sl,e1⟩:=I.base.slot b o e n hb hx
   exact⟨sl,(hs.2 b (Nat.ne_of_lt (Nat.lt_of_lt_of_le (Heap.lt_size e) I.ok.above))).trans e1⟩
  ·obtain⟨o',e1⟩:=I.base.there b o e hx
   exact⟨o',(hs.2 b (Nat.ne_of_lt (Nat.lt_of_lt_of_le (Heap.lt_size e) I.ok.above))).trans e1⟩
  ·by_cases hj:j=i
   ·subst hj
    rw[hi] at e1;cases e1;rw[List.getElem?_set_self hiσ] at e2;cases e2
    exact⟨u,r,.inl ⟨hk,by simp⟩⟩
   ·rw[List.getElem?_set_ne (Ne.symm hj)] at e2
    obtain⟨u',r',q⟩:=hl j y v' e1 e2 e3
    refine⟨u',r',?_⟩
    rcases q with⟨k,e⟩|⟨k,c,e,z⟩
    ·refine .inl ⟨k,?_⟩
     have:y≠x:=λe=>hj (sE hN e1 (e▸hi))
     simp[this,e]
    ·exact .inr ⟨k,c,e,z.sameBut hs (cne y c e)⟩
  ·obtain⟨w',z⟩:=I.cell y c e
   exact⟨w',z.sameBut hs (cne y c e)⟩
  ·obtain⟨e,n,ne,nf,d⟩:=I.pin p hp
   exact⟨(hs.2 p.1 ne).trans e,n,ne,nf,d⟩
 ·have hfn:X.fn x=true:=by
   rcases hf with z|z
   ·exact z
   ·rw[z] at hk;cases hk
  obtain⟨c,hc⟩:=I.ok.has x (.inl hk)
  obtain⟨w',z⟩:=I.cell x c hc
  refine wpAny_storeName_cell I.ok.kind hk hc z (λh' hc' hs=>?_)
  obtain⟨oc,hoc,hocd⟩:=id z
  refine h {s with heap:=h'} ⟨I.ok,I.os,I.bare,⟨λb o e n hb hx=>?_,λb o e n hb hx=>?_,I.base.free,λb o e hx=>?_,I.base.tups,I.base.frzs,I.base.tbls⟩,⟨m,hn.sameBut hs (Ne.symm (cne x c hc)),λj y v' e1 e2 e3=>?_⟩,λy c' e=>?_,I.free,I.freeC,λp hp=>?_,tracked ⟨oc,hoc,I.freeC x c hc⟩ hs,by simpa using I.len⟩ ⟨c,hs,.inr hc⟩
  ·exact(hs.2 b (Nat.ne_of_lt (Nat.lt_of_lt_of_le (Heap.lt_size e) (I.ok.cab x c hfn hc)))).trans (I.base.keep b o e n hb hx)
  ·obtain⟨sl,e1⟩:=I.base.slot b o e n hb hx
   exact⟨sl,(hs.2 b (Nat.ne_of_lt (Nat.lt_of_lt_of_le (Heap.lt_size e) (I.ok.cab x c hfn hc)))).trans e1⟩
  ·obtain⟨o',e1⟩:=I.base.there b o e hx
   exact⟨o',(hs.2 b (Nat.ne_of_lt (Nat.lt_of_lt_of_le (Heap.lt_size e) (I.ok.cab x c hfn hc)))).trans e1⟩
  ·by_cases hj:j=i
   ·subst hj
    rw[hi] at e1;cases e1;rw[List.getElem?_set_self hiσ] at e2;cases e2
    exact⟨u,r,.inr ⟨.inl hk,c,hc,hc'⟩⟩
   ·rw[List.getElem?_set_ne (Ne.symm hj)] at e2
    obtain⟨u',r',q⟩:=hl j y v' e1 e2 e3
    refine⟨u',r',?_⟩
    rcases q with q|⟨k,c',e,z'⟩
    ·exact .inl q
    ·refine .inr ⟨k,c',e,z'.sameBut hs ?_⟩
     rintro rfl
     exact hj (sE hN e1 (I.ok.inj _ _ _ e hc▸hi))
  ·by_cases hcc:c'=c
   ·subst hcc;exact⟨_,hc'⟩
   ·obtain⟨w2,z2⟩:=I.cell y c' e
    exact⟨w2,z2.sameBut hs hcc⟩
  ·obtain⟨e,n,ne,nf,d⟩:=I.pin p hp
   refine⟨(hs.2 p.1 ?_).trans e,n,ne,nf,d⟩
   intro q;rw[q,hoc] at e;have q':oc=p.2:=Option.some.inj e
   exact d w' (by rw[<-q'];exact hocd)
theorem jq {M:Model}{A:Around}{E:Value->Shared->Prop}{i:Nat}{x:Str}{v:V}{u:Value}{Q:Unit->Shared->Prop}(I:Inv X ae σ H s)(hN:X.N.Nodup)(hi:X.N[i]? =some x)(hx:yd X.env.scope x)(r:RelV v u)
 (h: ∀s',Inv X ae (σ.set i (some v)) H s'->Q () s') (hf:X.fn x=true\/X.env.scope.names.lookup x=some .local:=by first|exact .inl rfl|exact .inr rfl|assumption):wpAny M A (storeName X.env x u) Q E s:=
 lZ I hN hi hx r (λs' I' _=>h s' I') hf
theorem Inv.call' {s':Shared}{ch:List Addr}(I:Inv X ae σ H s)(ho:s'.os=s.os)(u:Un (pO X.stack) ch H H' s.heap s'.heap)(hok:HOk X.prog X.w H' s'.heap)(hg:AllBare s'.gens)
 (hch: ∀b∈ch,(b∈X.ex\/X.s₀.heap.objs.size<=b)/\b≠X.env.locals/\(∀x c,X.env.cells.lookup x=some c->c≠b)/\ ∀p∈X.pn++ae,p.1≠b):Inv X ae σ H' s':=by
 obtain⟨h',g',d',t',o'⟩:=s'
 have e:o'=s.os:=ho
 subst e;exact I.call (g':=g') (t':=t') (d':=d') u hok hg hch
end
abbrev XK:=Value->Option Addr->Hp->Prop
abbrev St:=List (Option V)
abbrev VK:=V->Hp->Prop
abbrev TE:=St->Hp->VK->Prop
abbrev TT:=St->Hp->(Bool->Hp->Prop)->Prop
abbrev TA:=St->Hp->(List V->Hp->Prop)->Prop
structure Ends where
 nx:St->Hp->Prop
 rt:VK
 bk:St->Hp->Prop:=λ_ _=>False
 ct:St->Hp->Prop:=λ_ _=>False
abbrev TS:=Ends->St->Hp->Prop
def EP(X:Cx)(ae:List (Addr×Obj))(σ:St)(Q:VK)(u:Value)(s':Shared):Prop:= ∃v H',Inv X ae σ H' s'/\RelV v u/\Q v H'
def TP(X:Cx)(ae:List (Addr×Obj))(σ:St)(Q:Bool->Hp->Prop)(b:Bool)(s':Shared):Prop:= ∃H',Inv X ae σ H' s'/\Q b H'
def AP(X:Cx)(ae:List (Addr×Obj))(σ:St)(Q:List V->Hp->Prop)(us:List Value)(s':Shared):Prop:= ∃vs H',Inv X ae σ H' s'/\Vals vs us/\Q vs H'
def SP(X:Cx)(ae:List (Addr×Obj))(D:Ends)(f:Flow)(s':Shared):Prop:=
 match f with
 | .next=> ∃σ' H',Inv X ae σ' H' s'/\D.nx σ' H'
 | .brk=> ∃σ' H',Inv X ae σ' H' s'/\D.bk σ' H'
 | .cont=> ∃σ' H',Inv X ae σ' H' s'/\D.ct σ' H'
 | .ret u=> ∃v σ' H',Inv X ae σ' H' s'/\RelV v u/\D.rt v H'
def PE(X:Cx)(e:Expr)(t:TE):Prop:=
 ∀(ae:List (Addr×Obj)) (s:Shared) (σ:St) (H:Hp) (Q:VK),Inv X ae σ H s->t σ H Q->wpAny (model X.prog X.w) X.A (eval e X.env) (EP X ae σ Q) X.xe s
def PT(X:Cx)(e:Expr)(t:TT):Prop:=
 ∀(ae:List (Addr×Obj)) (s:Shared) (σ:St) (H:Hp) (Q:Bool->Hp->Prop),Inv X ae σ H s->t σ H Q->wpAny (model X.prog X.w) X.A (isTrue e X.env (eval e X.env)) (TP X ae σ Q) X.xe s
def PW(X:Cx)(e:Expr)(t:TT):Prop:=
 ∀(whole:Sem Value) (ae:List (Addr×Obj)) (s:Shared) (σ:St) (H:Hp) (Q:Bool->Hp->Prop),Inv X ae σ H s->t σ H Q->wpAny (model X.prog X.w) X.A (isTrue e X.env whole) (TP X ae σ Q) X.xe s
theorem PW.pt {X:Cx}{e:Expr}{t:TT}(h:PW X e t):PT X e t:=h _
def PA(X:Cx)(es:List Expr)(t:TA):Prop:=
 ∀(pos:Pos) (ae:List (Addr×Obj)) (s:Shared) (σ:St) (H:Hp) (Q:List V->Hp->Prop),Inv X ae σ H s->t σ H Q->wpAny (model X.prog X.w) X.A (spliced (backTo pos (starEach es X.env))) (AP X ae σ Q) X.xe s
def PS(X:Cx)(st:Stmt)(t:TS):Prop:=
 ∀(ae:List (Addr×Obj)) (s:Shared) (σ:St) (H:Hp) (D:Ends),Inv X ae σ H s->t D σ H->wpAny (model X.prog X.w) X.A (exec st X.env) (SP X ae D) X.xe s
def PSs(X:Cx)(st:List Stmt)(t:TS):Prop:=
 ∀(ae:List (Addr×Obj)) (s:Shared) (σ:St) (H:Hp) (D:Ends),Inv X ae σ H s->t D σ H->wpAny (model X.prog X.w) X.A (execs st X.env) (SP X ae D) X.xe s
theorem bD {α:Type}{t:Sem α}{Q Q':α->Shared->Prop}{M:Model}{A:Around}{E:Value->Shared->Prop}{s:Shared}(h:wpAny M A t Q E s)(hQ: ∀a s,Q a s->Q' a s):wpAny M A t Q' E s:=wpAny_mono h hQ λ_ _ x=>x
section
variable {X:Cx}
def GO(i:Nat):TE:=λσ H Q=> ∃v,σ[i]? =some (some v)/\Q v H
def tC(v:V):TE:=λ_ H Q=>Q v H
theorem EY {i:Nat}{x:Str}{pos:Pos}(hN:X.N[i]? =some x)(hv:qB X.env.scope x)(hd:(x==("__debug__":Str))=false:=by decide)(hcd:(x==("__classdict__":Str))=false:=by decide):PE X (.Name x pos) (GO i):=by
 intro ae s σ H Q I h;obtain⟨v,e,h⟩:=h
 obtain⟨m,hn,hl⟩:=I.loc
 obtain⟨u,r,l⟩:=hl i x v hN e hv
 have fin:EP X ae σ Q u s:=⟨v,H,I,r,h⟩
 rcases l with⟨hk,hm⟩|⟨hk,c,hc,hcell⟩
 ·exact wpAny_Name (wpAny_loadName_local I.ok.kind hk hn hm fin) hd
 ·rcases hk with hk|hk
  ·exact wpAny_Name (wpAny_loadName_cell I.ok.kind hk hc hcell fin) hd
  ·exact wpAny_Name (wpAny_loadName_free I.ok.kind hk hc hcell fin hcd) hd
theorem EO {i j pos}:PE X (.Constant (.int i) j pos) (tC (.int i)):=λ_ _ _ H _ I h=>wpAny_Constant_int ⟨.int i,H,I.tok _,⟨_,rfl⟩,h⟩
theorem FN {b j pos}:PE X (.Constant (.bool b) j pos) (tC (.bl b)):=λ_ _ _ H _ I h=>Constant_bool ⟨.bl b,H,I,rfl,h⟩
theorem D1 {j pos}:PE X (.Constant .none j pos) (tC .non):=λ_ _ _ H _ I h=>Constant_none ⟨.non,H,I,rfl,h⟩
def Gl(X:Cx)(x:Str):Prop:=X.env.kindOf x=some .globalImplicit
theorem CV {E:Value->Shared->Prop}{ae:List (Addr×Obj)}{s:Shared}{σ:St}{H:Hp}{x:Str}{u:Value}{pos:Pos}{Q:Value->Shared->Prop}(I:Inv X ae σ H s)(hg:Gl X x)(hm:X.mg x=some u)(h:Q u s)
 (hd:(x==("__debug__":Str))=false:=by decide):wpAny (model X.prog X.w) X.A (eval (.Name x pos) X.env) Q E s:=
 Calls.Name_function_global I.ok.kind hg (Calls.loadGlobal_global (by rw[I.ok.glob];exact I.mod.glob.keeps I.bk) hm h) hd
theorem mq {E:Value->Shared->Prop}{ae:List (Addr×Obj)}{s:Shared}{σ:St}{H:Hp}{x:Str}{u:Value}{pos:Pos}{Q:Value->Shared->Prop}(I:Inv X ae σ H s)(hg:Gl X x)(hm:X.mg x=none)(hv:bootBuiltins x=some u)(h:Q u s)
 (hn:x≠"__name__":=by decide) (hd:(x==("__debug__":Str))=false:=by decide):wpAny (model X.prog X.w) X.A (eval (.Name x pos) X.env) Q E s:=by
 obtain⟨mb,h1,h2⟩:=I.mod.blt
 exact Calls.Name_function_global I.ok.kind hg (Calls.loadGlobal_builtin (by rw[I.ok.glob];exact I.mod.glob.keeps I.bk) hm (by rw[I.ok.blt];exact h1.keeps I.bk) ((h2 x hn).trans hv) h) hd
theorem CU {x:Str}{v:V}{u:Value}{pos:Pos}(hg:Gl X x)(hm:X.mg x=none)(hv:bootBuiltins x=some u)(r:RelV v u)(hn:x≠"__name__":=by decide)(hd:(x==("__debug__":Str))=false:=by decide):PE X (.Name x pos) (tC v):=
 λ_ _ _ H _ I h=>mq I hg hm hv ⟨v,H,I,r,h⟩ hn hd
variable {a b:Expr}{ta tb:TE}{pos:Pos}
def PC(X:Cx)(op:CmpOp)(a b:Expr)(t:TE):Prop:=
 ∀(ae:List (Addr×Obj)) (s:Shared) (σ:St) (H:Hp) (Q:VK),Inv X ae σ H s->t σ H Q->
  wpAny (model X.prog X.w) X.A (eval a X.env) (λv s₁=>wpAny (model X.prog X.w) X.A (eval b X.env) (λu s₂=>wpAny (model X.prog X.w) X.A (compareOp op v u) (EP X ae σ Q) X.xe s₂) X.xe s₁) X.xe s
def tB(t:TE):TT:=λσ H Q=>t σ H λx H1=> ∃c,x=.bl c/\Q c H1
theorem Et {op:CmpOp}{t:TE}(h:PC X op a b t)(h1:behindInMarks op b=false:=by first|exact nobehind _ (by decide) (by decide)|rfl):PT X (.Compare a [op] [b] pos) (tB t):=by
 intro ae s σ H Q I hw;refine wpAny_isTrue_Compare1 (bD (h ae s σ H _ I hw) λv s1 h1=>bD h1 λu s2 h2=>bD h2 λc s3 ⟨x,H1,I1,r1,q1⟩=>?_) h1
 obtain⟨d,rfl,q⟩:=q1
 cases r1
 exact wpAny_truthy_bool ⟨H1,I1,q⟩
variable {tA tB':TT}{rest:List Expr}
def Hk(t u:TT):TT:=λσ H Q=>t σ H λc H1=>if c=true then u σ H1 Q else Q false H1
def IN(t u:TT):TT:=λσ H Q=>t σ H λc H1=>if c=true then Q true H1 else u σ H1 Q
def HX(t:TT):TT:=λσ H Q=>t σ H λc H1=>Q (!c) H1
theorem pw_and1(ha:PT X a tA):PW X (.BoolOp .And [a] pos) tA:=by
 intro wh ae s σ H Q I h;refine isTrue_and (bD (ha ae s σ H Q I h) λc s1 e=>?_)
 cases c with
 |true=>exact isTrue_and_nil e
 |false=>exact e
theorem pw_or1(ha:PT X a tA):PW X (.BoolOp .Or [a] pos) tA:=by
 intro wh ae s σ H Q I h;refine isTrue_or (bD (ha ae s σ H Q I h) λc s1 e=>?_)
 cases c with
 |false=>exact isTrue_or_nil e
 |true=>exact e
theorem pw_and(ha:PT X a tA)(hb:PW X (.BoolOp .And (b::rest) pos) tB'):PW X (.BoolOp .And (a::b::rest) pos) (Hk tA tB'):=by
 intro wh ae s σ H Q I h;refine isTrue_and (bD (ha ae s σ H _ I h) λc s1 hq_=>?_)
 obtain⟨H1,I1,q1⟩:=hq_
 cases c with
 |true=>exact hb wh ae s1 σ H1 Q I1 q1
 |false=>exact⟨H1,I1,q1⟩
theorem pw_or(ha:PT X a tA)(hb:PW X (.BoolOp .Or (b::rest) pos) tB'):PW X (.BoolOp .Or (a::b::rest) pos) (IN tA tB'):=by
 intro wh ae s σ H Q I h;refine isTrue_or (bD (ha ae s σ H _ I h) λc s1 hq_=>?_)
 obtain⟨H1,I1,q1⟩:=hq_
 cases c with
 |true=>exact⟨H1,I1,q1⟩
 |false=>exact hb wh ae s1 σ H1 Q I1 q1
theorem zI(ha:PT X a tA):PT X (.UnaryOp .Not a pos) (HX tA):=by
 intro ae s σ H Q I h;exact isTrue_not (ha ae s σ H (λc H1=>Q (!c) H1) I h)
def Gq(ta tb:TE):TE:=λσ H Q=>ta σ H λx H1=> ∃c,x=.bl c/\if c=true then tb σ H1 Q else Q (.bl false) H1
def HD(ta tb:TE):TE:=λσ H Q=>ta σ H λx H1=> ∃c,x=.bl c/\if c=true then Q (.bl true) H1 else tb σ H1 Q
def Fx(ta:TE):TE:=λσ H Q=>ta σ H λx H1=> ∃c,x=.bl c/\Q (.bl (!c)) H1
theorem EG {op}{t:TE}(h:PE X a t):PE X (.BoolOp op [a] pos) t:=λae s σ H Q I hw=>BoolOp_one (h ae s σ H Q I hw)
theorem DC(ha:PE X a ta)(hb:PE X (.BoolOp .And (b::rest) pos) tb):PE X (.BoolOp .And (a::b::rest) pos) (Gq ta tb):=by
 intro ae s σ H Q I h;refine BoolOp_and (bD (ha ae s σ H _ I h) λv s1 hq_=>?_)
 obtain⟨x,H1,I1,r1,q1⟩:=hq_
 obtain⟨c,rfl,q1⟩:=q1
 cases r1
 refine wpAny_truthy_bool ?_
 cases c with
 |true=>exact hb ae s1 σ H1 Q I1 q1
 |false=>exact⟨.bl false,H1,I1,rfl,q1⟩
theorem FY(ha:PE X a ta)(hb:PE X (.BoolOp .Or (b::rest) pos) tb):PE X (.BoolOp .Or (a::b::rest) pos) (HD ta tb):=by
 intro ae s σ H Q I h;refine BoolOp_or (bD (ha ae s σ H _ I h) λv s1 hq_=>?_)
 obtain⟨x,H1,I1,r1,q1⟩:=hq_
 obtain⟨c,rfl,q1⟩:=q1
 cases r1
 refine wpAny_truthy_bool ?_
 cases c with
 |false=>exact hb ae s1 σ H1 Q I1 q1
 |true=>exact⟨.bl true,H1,I1,rfl,q1⟩
theorem Er(ha:PE X a ta):PE X (.UnaryOp .Not a pos) (Fx ta):=by
 intro ae s σ H Q I h;refine UnaryOp_ (bD (ha ae s σ H _ I h) λv s1 hq_=>?_)
 obtain⟨x,H1,I1,r1,q1⟩:=hq_
 obtain⟨c,rfl,q1⟩:=q1
 cases r1
 exact not_of (wpAny_truthy_bool ⟨.bl (!c),H1,I1,rfl,q1⟩)
def IX(t:TT)(ta tb:TE):TE:=λσ H Q=>t σ H λc H1=>if c=true then ta σ H1 Q else tb σ H1 Q
theorem AO {c:Expr}(hc:PT X c tA)(ha:PE X a ta)(hb:PE X b tb):PE X (.IfExp c a b pos) (IX tA ta tb):=by
 intro ae s σ H Q I h;refine wpAny_IfExp (bD (hc ae s σ H _ I h) λd s1 hq_=>?_)
 obtain⟨H1,I1,q1⟩:=hq_
 cases d with
 |true=>exact ha ae s1 σ H1 Q I1 q1
 |false=>exact hb ae s1 σ H1 Q I1 q1
end
def SqL(K:W.Frag)(H:Hp)(a:Addr)(xs:List V):Prop:=
 Rd H a (.lst xs)\/
  ∃(o:Obj) (its:Array Value) (n:Nat),K.lookup a=some o/\o.cls=.type "list"/\o.dict=none/\o.data=.seq its n/\its.size<=sizeLine/\Vals xs its.toList
def SqT(K:W.Frag)(H:Hp)(a:Addr)(xs:List V):Prop:=
 Rd H a (.tup xs)\/
  ∃(o:Obj) (its:Array Value) (n:Nat),K.lookup a=some o/\o.cls=.type "tuple"/\o.data=.seq its n/\its.size<=sizeLine/\Vals xs its.toList/\o.dict=none
def Iw:Value->Option V
 | .none=>some .non
 | .bool b=>some (.bl b)
 | .int i _=>some (.int i)
 | .str x _=>some (.str x)
 | .bytes b _=>some (.byt b)
 | .float b _=>some (.flt b)
 | .ref a=>some (.ref a)
 | .type n=>some (.ty n)
 |_=>none
theorem RelV.abs {x:V}{u:Value}(r:RelV x u):Iw u=some x:=by
 cases x with
 |non=>cases r;rfl
 |bl _=>cases r;rfl
 |int _=>obtain⟨t,rfl⟩:=r;rfl
 |str _=>obtain⟨t,rfl⟩:=r;rfl
 |byt _=>obtain⟨t,rfl⟩:=r;rfl
 |flt _=>obtain⟨t,rfl⟩:=r;rfl
 |ref _=>cases r;rfl
 |ty _=>cases r;rfl
theorem RelV.inj {x y:V}{u:Value}(r:RelV x u)(q:RelV y u):x=y:=Option.some.inj (r.abs.symm.trans q.abs)
theorem Vals.inj: ∀ {xs ys:List V} {us:List Value},Vals xs us->Vals ys us->xs=ys
 |_,_,_,.nil,.nil=>rfl
 |_,_,_,.cons r t,.cons r' t'=>by rw[r.inj r',Vals.inj t t']
section
variable {X:Cx}{ae:List (Addr×Obj)}{σ:St}{H:Hp}{s:Shared}{a:Addr}{xs ys:List V}
theorem SqL.of {K:W.Frag}(h:H a=some (.lst xs)):SqL K H a xs:=.inl (.inl h)
theorem SqT.of {K:W.Frag}(h:H a=some (.tup xs)):SqT K H a xs:=.inl (.inl h)
theorem Inv.list(I:Inv X ae σ H s)(h:SqL X.K H a xs): ∃its:List Value,Vals xs its/\PlainL s.heap a its.toArray/\xs.length<=sizeLine:=by
 rcases h with h|⟨o,its,n,hk,hc,hd,hs,hz,r⟩
 ·obtain⟨z,its,n,r,e⟩:=h.ok I.hok
  exact⟨its,r,⟨_,n,e,rfl,rfl,rfl⟩,z⟩
 ·refine⟨its.toList,r,⟨o,n,I.kIn a o hk,hc,hd,by simpa using hs⟩,?_⟩
  have e:=r.length
  simp only[Array.length_toList] at e;omega
theorem Inv.tuple(I:Inv X ae σ H s)(h:SqT X.K H a xs): ∃its:List Value,Vals xs its/\IsTup s.heap a its.toArray/\xs.length<=sizeLine:=by
 rcases h with h|⟨o,its,n,hk,hc,hs,hz,r,_⟩
 ·obtain⟨z,its,r,p,_⟩:=h.ok I.hok
  exact⟨its,r,p,z⟩
 ·refine⟨its.toList,r,⟨o,I.kIn a o hk,hc,n,by simpa using hs⟩,?_⟩
  have e:=r.length
  simp only[Array.length_toList] at e;omega
theorem Inv.tupleN(I:Inv X ae σ H s)(h:SqT X.K H a xs):(∃o,s.heap.get? a=some o/\o.cls=.type "tuple")/\ ∃o,s.heap.get? a=some o/\o.dict=none:=by
 rcases h with h|⟨o,its,n,hk,hc,hs,hz,r,hd⟩
 ·obtain⟨z,its,r,⟨ob,e,c,_⟩,o2,e2,d2⟩:=h.ok I.hok
  exact⟨⟨ob,e,c⟩,o2,e2,d2⟩
 ·exact⟨⟨o,I.kIn a o hk,hc⟩,o,I.kIn a o hk,hd⟩
theorem Inv.list_inj(I:Inv X ae σ H s)(h:SqL X.K H a xs)(h':SqL X.K H a ys):xs=ys:=by
 obtain⟨its,r,⟨o,n,e,_,_,d⟩,_⟩:=I.list h
 obtain⟨its',r',⟨o',n',e',_,_,d'⟩,_⟩:=I.list h'
 rw[e] at e';cases e';rw[d] at d';injection d' with d1 _
 have:its=its':=by simpa using congrArg Array.toList d1
 subst this;exact r.inj r'
theorem Inv.tuple_inj(I:Inv X ae σ H s)(h:SqT X.K H a xs)(h':SqT X.K H a ys):xs=ys:=by
 obtain⟨its,r,⟨o,e,_,n,d⟩,_⟩:=I.tuple h
 obtain⟨its',r',⟨o',e',_,n',d'⟩,_⟩:=I.tuple h'
 rw[e] at e';cases e';rw[d] at d';injection d' with d1 _
 have:its=its':=by simpa using congrArg Array.toList d1
 subst this;exact r.inj r'
end
abbrev Cx.wish(X:Cx)(E:Value->Shared->Prop):Cx:={X with xe:=E}
abbrev Cx.nox(X:Cx):Cx:=X.wish λ_ _=>False
theorem Cx.Ok.wish {X:Cx}(ok:X.Ok)(E:Value->Shared->Prop):(X.wish E).Ok:=
 ⟨ok.mod,ok.kind,ok.glob,ok.blt,ok.above,ok.inj,ok.has,ok.cab,ok.hd,ok.frames,ok.stk,ok.exf,ok.bs,ok.bsz,ok.noex,ok.exfs,ok.funs,ok.frf⟩
theorem Cx.Ok.unwish {X:Cx}{E:Value->Shared->Prop}(ok:(X.wish E).Ok):X.Ok:=
 ⟨ok.mod,ok.kind,ok.glob,ok.blt,ok.above,ok.inj,ok.has,ok.cab,ok.hd,ok.frames,ok.stk,ok.exf,ok.bs,ok.bsz,ok.noex,ok.exfs,ok.funs,ok.frf⟩
section
variable {X:Cx}{ae:List (Addr×Obj)}{σ:St}{H:Hp}{s:Shared}{E:Value->Shared->Prop}
theorem Inv.wish(I:Inv X ae σ H s)(E:Value->Shared->Prop):Inv (X.wish E) ae σ H s:=⟨I.ok.wish E,I.os,I.bare,I.base,I.loc,I.cell,I.free,I.freeC,I.pin,I.hok,I.len⟩
theorem Inv.unwish(I:Inv (X.wish E) ae σ H s):Inv X ae σ H s:=⟨I.ok.unwish,I.os,I.bare,I.base,I.loc,I.cell,I.free,I.freeC,I.pin,I.hok,I.len⟩
theorem SP.unwish {D:Ends}{f:Flow}{s':Shared}(h:SP (X.wish E) ae D f s'):SP X ae D f s':=by
 cases f with
 |next=>obtain⟨σ',H',I,q⟩:=h;exact⟨σ',H',I.unwish,q⟩
 |brk=>obtain⟨σ',H',I,q⟩:=h;exact⟨σ',H',I.unwish,q⟩
 |cont=>obtain⟨σ',H',I,q⟩:=h;exact⟨σ',H',I.unwish,q⟩
 |ret u=>obtain⟨v,σ',H',I,r,q⟩:=h;exact⟨v,σ',H',I.unwish,r,q⟩
theorem PSs.nox {st:List Stmt}{t:TS}(h:PSs X.nox st t):PSs X st t:=λae s σ H D I hw=>
 wpAny_mono (h ae s σ H D (I.wish _) hw) (λ_ _ q=>q.unwish) λ_ _ z=>False.elim z
end
section
variable {X:Cx}{st:Stmt}{rest:List Stmt}{t u:TS}{e:Expr}{te:TE}{pos:Pos}
def GY:TS:=λD σ H=>D.nx σ H
def HL(t u:TS):TS:=λD σ H=>t {D with nx:=u D} σ H
theorem BS:PSs X [] GY:=λ_ _ σ H _ I h=>wpAny_execs_nil ⟨σ,H,I,h⟩
theorem yr(h1:PS X st t)(h2:PSs X rest u):PSs X (st::rest) (HL t u):=by
 intro ae s σ H D I h;refine wpAny_execs_cons (bD (h1 ae s σ H {D with nx:=u D} I h) λf s1 q=>?_)
 cases f with
 |next=>
  obtain⟨σ',H',I',q⟩:=q
  exact h2 ae s1 σ' H' D I' q
 |ret v=>exact q
 |brk=>exact q
 |cont=>exact q
theorem BQ(h1:PS X st t):PSs X [st] t:=by
 intro ae s σ H D I h;refine wpAny_execs_cons (bD (h1 ae s σ H D I h) λf s1 q=>?_)
 cases f with
 |next=>exact wpAny_execs_nil q
 |ret v=>exact q
 |brk=>exact q
 |cont=>exact q
def Fb:TS:=λD σ H=>D.bk σ H
theorem Ai:PS X (.Break pos) Fb:=λ_ _ σ H _ I h=>wpAny_Break ⟨σ,H,I,h⟩
theorem Inv.quiet {ae:List (Addr×Obj)}{σ:St}{H:Hp}{s:Shared}(I:Inv X ae σ H s):interactive X.env=false:=by simp[interactive,I.ok.kind]
def FI(te:TE):TS:=λD σ H=>te σ H λ_ H1=>D.nx σ H1
theorem Bu(he:PE X e te)(hs:swapsWith e none pos.line X.env=pure false:=by rfl):PS X (.Expr e pos) (FI te):=by
 intro ae s σ H D I h;exact wpAny_Expr_any (bD (he ae s σ H _ I h) λv s1 ⟨x,H1,I1,r1,q1⟩=>⟨σ,H1,I1,q1⟩) I.quiet hs
def Hl(te:TE):TS:=λD σ H=>te σ H D.rt
theorem zK(he:PE X e te):PS X (.Return (some e) pos) (Hl te):=by
 intro ae s σ H D I h;exact wpAny_Return_some (bD (he ae s σ H _ I h) λv s1 ⟨x,H1,I1,r1,q1⟩=>⟨x,σ,H1,I1,r1,q1⟩)
def Id(c:TT)(t u:TS):TS:=λD σ H=>c σ H λb H1=>if b=true then t D σ H1 else u D σ H1
theorem Di {c:Expr}{a b:List Stmt}{tc:TT}(hc:PT X c tc)(ha:PSs X a t)(hb:PSs X b u):PS X (.If c a b pos) (Id tc t u):=by
 intro ae s σ H D I h;refine wpAny_If (bD (hc ae s σ H _ I h) λd s1 hq_=>?_)
 obtain⟨H1,I1,q1⟩:=hq_
 cases d with
 |true=>exact ha ae s1 σ H1 D I1 q1
 |false=>exact hb ae s1 σ H1 D I1 q1
end
abbrev TG:=V->St->Hp->(St->Hp->Prop)->Prop
abbrev xq:=List V->St->Hp->(St->Hp->Prop)->Prop
def PG(X:Cx)(target:Expr)(t:TG):Prop:=
 ∀(ae:List (Addr×Obj)) (s:Shared) (σ:St) (H:Hp) (v:V) (u:Value) (Q:St->Hp->Prop),Inv X ae σ H s->RelV v u->t v σ H Q->
  wpAny (model X.prog X.w) X.A (assign target X.env u) (λ_ s'=> ∃σ' H',Inv X ae σ' H' s'/\Q σ' H') X.xe s
def PGs(X:Cx)(ts:List Expr)(t:xq):Prop:=
 ∀(ae:List (Addr×Obj)) (s:Shared) (σ:St) (H:Hp) (vs:List V) (us:List Value) (Q:St->Hp->Prop),Inv X ae σ H s->Vals vs us->t vs σ H Q->
  wpAny (model X.prog X.w) X.A (assignInOrder ((assignEach ts X.env).map (·.2)) us) (λ_ s'=> ∃σ' H',Inv X ae σ' H' s'/\Q σ' H') X.xe s
abbrev D7:=V->V->V->Hp->(Hp->Prop)->Prop
def Gj(X:Cx)(t:D7):Prop:=
 ∀(ae:List (Addr×Obj)) (s:Shared) (σ:St) (H:Hp) (o i v:V) (ov iv u:Value) (Q:Hp->Prop),Inv X ae σ H s->RelV o ov->RelV i iv->RelV v u->t o i v H Q->
  wpAny (model X.prog X.w) X.A (setItem ov iv u) (λ_ s'=> ∃H',Inv X ae σ H' s'/\Q H') X.xe s
abbrev Ha:=V->V->Hp->VK->Prop
def Hs(X:Cx)(op:Operator)(t:Ha):Prop:=
 ∀(ae:List (Addr×Obj)) (s:Shared) (σ:St) (H:Hp) (x y:V) (v u:Value) (Q:VK),Inv X ae σ H s->RelV x v->RelV y u->t x y H Q->
  wpAny (model X.prog X.w) X.A (inplaceOp op v u) (EP X ae σ Q) X.xe s
section
variable {X:Cx}{pos:Pos}
def vL(i:Nat):TG:=λv σ H Q=>Q (σ.set i (some v)) H
theorem C2 {i:Nat}{x:Str}(hN:X.N.Nodup)(hi:X.N[i]? =some x)(hx:yd X.env.scope x)(hf:X.fn x=true\/X.env.scope.names.lookup x=some .local:=by first|exact .inl rfl|exact .inr rfl|assumption):PG X (.Name x pos) (vL i):=by
 intro ae s σ H v u Q I r h;exact wpAny_assign_Name (jq I hN hi hx r (λs' I'=>⟨_,H,I',h⟩) hf)
def HY:xq:=λvs σ H Q=>vs=[]/\Q σ H
def Fs(t:TG)(u:xq):xq:=λvs σ H Q=> ∃v r,vs=v::r/\t v σ H λσ' H'=>u r σ' H' Q
theorem v4:PGs X [] HY:=by
 intro ae s σ H vs us Q I r h;obtain⟨e,h⟩:=h
 subst e;cases r
 exact assignInOrder_nil ⟨σ,H,I,h⟩
theorem tQ {e:Expr}{es:List Expr}{t:TG}{u:xq}(h1:PG X e t)(h2:PGs X es u)
 (hs:(assignEach (e::es) X.env).map (·.2)=assign e X.env::(assignEach es X.env).map (·.2):=by rfl):PGs X (e::es) (Fs t u):=by
 intro ae s σ H vs us Q I r h;obtain⟨v,vr,e1,h⟩:=h
 subst e1;cases r with
 |cons r rr=>
  rw[hs];refine assignInOrder_cons (bD (h1 ae s σ H _ _ _ I r h) λ_ s1 hq_=>?_)
  obtain⟨σ1,H1,I1,q1⟩:=hq_
  exact h2 ae s1 σ1 H1 _ _ Q I1 rr q1
def HJ(K:W.Frag)(n:Nat)(t:xq):TG:=λv σ H Q=> ∃a xs,v=.ref a/\SqT K H a xs/\xs.length=n/\t xs σ H Q
theorem zB {es:List Expr}{k:Nat}{t:xq}{n:Nat}(hc:X.calm=true)(h:PGs X es t)
 (hn:(assignEach es X.env).length=n:=by rfl) (hst:(assignEach es X.env).findIdx? (·.1)=none:=by rfl):PG X (.Tuple es k pos) (HJ X.K n t):=by
 intro ae s σ H v u Q I r hw;obtain⟨a,xs,e1,hq,hl,hw⟩:=hw
 subst e1;cases r
 obtain⟨its,rv,ht,hz⟩:=I.tuple hq
 refine assign_Tuple_tuple (I.ok.hd hc) ht (by simp[hn,<-hl,rv.length]) hst λh' hx=>?_
 have I1:Inv X ae σ H {s with heap:=h'}:=I.kept (t':=s.toks) λb o e=>hx b o (Nat.ne_of_lt (Heap.lt_size e)) e
 exact h ae _ σ H xs _ Q I1 (by simpa using rv) hw
def HU(to ti:TE)(t:D7):TG:=λv σ H Q=>to σ H λo H1=>ti σ H1 λi H2=>t o i v H2 λH3=>Q σ H3
theorem Dt {o i:Expr}{to ti:TE}{t:D7}(ho:PE X o to)(hi:PE X i ti)(hs:Gj X t)
 (ha: ∀v,assign (.Subscript o i pos) X.env v=(do
   let ov <-holding [v] (eval o X.env)
   let iv <-holding [v,ov] (eval i X.env)
   standAt pos
   holding [v,ov,iv] (setItem ov iv v)
   release [v,ov,iv] []):=by intro _;rfl):PG X (.Subscript o i pos) (HU to ti t):=by
 intro ae s σ H v u Q I r h;rw[ha];refine wpAny_bind (wpAny_holding (bD (ho ae s σ H _ I h) λov s1 hq_=>?_))
 obtain⟨x,H1,I1,r1,q1⟩:=hq_
 refine wpAny_bind (wpAny_holding (bD (hi ae s1 σ H1 _ I1 q1) λiv s2 hq_=>?_))
 obtain⟨y,H2,I2,r2,q2⟩:=hq_
 refine wpAny_bind (wpAny_standAt (wpAny_bind (wpAny_holding (bD (hs ae s2 σ H2 x y v ov iv u _ I2 r1 r2 r q2) λ_ s3 hq_=>?_))))
 obtain⟨H3,I3,q3⟩:=hq_
 exact wpAny_release ⟨σ,H3,I3,q3⟩
def BV(te:TE)(g:TG):TS:=λD σ H=>te σ H λx H1=>g x σ H1 D.nx
theorem AN {tg e:Expr}{te:TE}{g:TG}(he:PE X e te)(hg:PG X tg g)(hs:swapsWithSole [tg] e pos.line X.env=pure false:=by rfl)(hw:swappedStores [tg] e X.env=pure none:=by rfl)
 (h1:(assignEach [tg] X.env).map (·.2)=[assign tg X.env]:=by rfl):PS X (.Assign [tg] e pos) (BV te g):=by
 intro ae s σ H D I h;refine wpAny_Assign_stores (bD (he ae s σ H _ I h) λv s1 ⟨x,H1,I1,r1,q1⟩=>?_) hs hw
 rw[h1];exact bD (hg ae s1 σ H1 x v _ I1 r1 q1) λ_ s2 q=>q
theorem oz {i:Nat}{x:Str}{e:Expr}{te:TE}{pos':Pos}(hN:X.N.Nodup)(hi:X.N[i]? =some x)(hx:yd X.env.scope x)(he:PE X e te)(hs:swapsWith e (some (.Name x pos')) pos.line X.env=pure false:=by rfl)(hf:X.fn x=true\/X.env.scope.names.lookup x=some .local:=by first|exact .inl rfl|exact .inr rfl|assumption):
 PS X (.Assign [.Name x pos'] e pos) (BV te (vL i)):=by
 intro ae s σ H D I h;refine wpAny_Assign_Name (bD (he ae s σ H _ I h) λv s1 ⟨y,H1,I1,r1,q1⟩=>?_) hs
 exact jq I1 hN hi hx r1 (λs2 I2=>⟨_,H1,I2,q1⟩) hf
def HN(i j:Nat)(ta:TA):TS:=λD σ H=>ta σ H λvs H1=> ∃v w,vs=[v,w]/\D.nx ((σ.set i (some v)).set j (some w)) H1
theorem Ff {i j:Nat}{x y:Str}{a b:Expr}{ta:TA}{px py pt:Pos}{kt k2 pt2}(hc:X.calm=true)(hN:X.N.Nodup)(hi:X.N[i]? =some x)(hj:X.N[j]? =some y)(hij:i≠j)
 (hx:X.env.scope.names.lookup x=some .local) (hy:X.env.scope.names.lookup y=some .local) (ha:PA X [a,b] ta)
 (hw:swappedStores [.Tuple [.Name x px,.Name y py] kt pt] (.Tuple [a,b] k2 pt2) X.env=pure (some [x,y]))
 (hs:swapsWithSole [.Tuple [.Name x px,.Name y py] kt pt] (.Tuple [a,b] k2 pt2) pos.line X.env=pure false:=by rfl):
 PS X (.Assign [.Tuple [.Name x px,.Name y py] kt pt] (.Tuple [a,b] k2 pt2) pos) (HN i j ta):=by
 intro ae s σ H D I h;rw[exec_Assign_arm];refine wpAny_bind (wpAny_standAt ?_)
 rw[hs];refine wpAny_bind (wpAny_pure ?_)
 rw[if_neg (by decide)]
 refine wpAny_bind (Tuple_ (bD (ha _ ae s σ H _ I h) λus s1 hq_=>?_))
 obtain⟨vs,H1,I1,r1,q1⟩:=hq_
 obtain⟨v,w,e1,q1⟩:=q1
 subst e1;obtain⟨u1,u2,rfl,rv,rw'⟩: ∃u1 u2,us=[u1,u2]/\RelV v u1/\RelV w u2:=by
  cases r1 with
  |cons p q=>
   cases q with
   |cons p' q'=>
    cases q'
    exact⟨_,_,rfl,p,p'⟩
 refine wpAny_newObj_type ?_ (by show 2<=sizeLine;decide)
 have I2:Inv X ae σ H1 {s1 with heap:=s1.heap.push {cls:=.type "tuple",data:=.seq [u1,u2].toArray}}:=I1.kept (t':=s1.toks) λb o e=>Heap.get?_push_of_some _ e
 rw[hw];refine wpAny_bind (wpAny_pure ?_)
 show wpAny (model X.prog X.w) X.A (do rule "assign.swapped-stores";let items <-unpackItems (.ref s1.heap.objs.size) 2 none;assignInOrder [λv=>bindName X.env y v,λv=>bindName X.env x v] items.reverse;pure Flow.next) _ _ _
 refine wpAny_bind (wpAny_rule (wpAny_bind (unpackItems_tuple (items:= #[u1,u2]) (I.ok.hd hc) (IsTup.new s1.heap _) λh' hx'=>?_)))
 have I3:=I2.kept (h':=h') (t':=s1.toks) λb o e=>hx' b o (Nat.ne_of_lt (Heap.lt_size e)) e
 show wpAny _ _ (assignInOrder [λv=>bindName X.env y v,λv=>bindName X.env x v] [u2,u1]>>=λ_=>pure Flow.next) _ _ _
 refine wpAny_bind (assignInOrder_cons (wpAny_bindName (jq I3 hN hj (.inl hy) rw' (λs2 I4=>?_) (.inr hy))))
 refine assignInOrder_cons (wpAny_bindName (jq I4 hN hi (.inl hx) rv (λs3 I5=>assignInOrder_nil (wpAny_pure ?_)) (.inr hx)))
 rw[List.set_comm _ _ (Ne.symm hij)] at I5;exact⟨_,H1,I5,q1⟩
def Iv(i:Nat)(te:TE)(ti:Ha):TS:=λD σ H=> ∃x,σ[i]? =some (some x)/\te σ H λy H1=>ti x y H1 λz H2=>D.nx (σ.set i (some z)) H2
theorem Fh {i:Nat}{x:Str}{e:Expr}{te:TE}{op:Operator}{ti:Ha}{pos':Pos}(hN:X.N.Nodup)(hi:X.N[i]? =some x)(hx:yd X.env.scope x)(he:PE X e te)(ho:Hs X op ti)(hf:X.fn x=true\/X.env.scope.names.lookup x=some .local:=by first|exact .inl rfl|exact .inr rfl|assumption):
 PS X (.AugAssign (.Name x pos') op e pos) (Iv i te ti):=by
 intro ae s σ H D I h;obtain⟨v,e1,h⟩:=h
 obtain⟨m,hn,hl⟩:=I.loc
 have vis:qB X.env.scope x:=by rcases hx with k|k;exact .inl k;exact .inr (.inl k)
 obtain⟨u,r,l⟩:=hl i x v hi e1 vis
 refine wpAny_AugAssign_Name ?_
 have go:wpAny (model X.prog X.w) X.A (eval e X.env) (λw s₂=>wpAny (model X.prog X.w) X.A (inplaceOp op u w) (λr s₃=>wpAny (model X.prog X.w) X.A (storeName X.env x r) (λ_=>SP X ae D .next) X.xe s₃) X.xe s₂) X.xe s:=by
  refine bD (he ae s σ H _ I h) λw s1 hq_=>?_
  obtain⟨y,H1,I1,r1,q1⟩:=hq_
  refine bD (ho ae s1 σ H1 v y u w _ I1 r r1 q1) λz s2 hq_=>?_
  obtain⟨zv,H2,I2,r2,q2⟩:=hq_
  exact jq I2 hN hi hx r2 (λs3 I3=>⟨_,H2,I3,q2⟩) hf
 rcases l with⟨hk,hm⟩|⟨hk,c,hc,hcell⟩
 ·exact wpAny_loadName_local I.ok.kind hk hn hm go
 ·rcases hk with hk|hk
  ·exact wpAny_loadName_cell I.ok.kind hk hc hcell go
  ·rcases hx with k|k
   ·have:X.env.scope.names.lookup x=some .free:=hk
    rw[k] at this;cases this
   ·have:X.env.scope.names.lookup x=some .free:=hk
    rw[k] at this;cases this
def Iy(f:Int->Int->Int):Ha:=λx y H Q=> ∃i j,x=.int i/\y=.int j/\Q (.int (f i j)) H
theorem EK:Hs X .Add (Iy λi j=>i+j):=by
 intro ae s σ H x y v u Q I r1 r2 h;obtain⟨i,j,e1,e2,q⟩:=h
 subst e1;subst e2;obtain⟨t,rfl⟩:=r1
 obtain⟨t',rfl⟩:=r2
 exact iadd_int ⟨.int _,H,I.tok _,⟨_,rfl⟩,q⟩
end
section
variable {X:Cx}{pos:Pos}
def Eo(c:TT)(tb:TS):TS:=λD σ H=> ∃W:Nat->St->Hp->Prop,(∃m,W m σ H)/\ ∀m σ H,W m σ H->
 c σ H λb H1=>if b=true then∃N:St->Hp->Prop,(∀σ' H',N σ' H'-> ∃m',m'<m/\W m' σ' H')/\tb {D with nx:=N,ct:=N,bk:=D.nx} σ H1 else D.nx σ H1
theorem Ag {c:Expr}{body:List Stmt}{tc:TT}{tb:TS}(hp:PassesOwn (model X.prog X.w) X.A X.env X.xe)(hc:PT X c tc)(hb:PSs X body tb):PS X (.While c body [] pos) (Eo tc tb):=by
 intro ae s σ H D I h;obtain⟨W,⟨m0,w0⟩,turn⟩:=h
 refine wpAny_While (codeAny_whileLoop (λn s'=> ∃σ' H',Inv X ae σ' H' s'/\W n σ' H') ?_ m0 ⟨σ,H,I,w0⟩)
 rintro n s1 ⟨σ1,H1,I1,w1⟩
 refine wpAny_passesOwn hp (bD (hc ae s1 σ1 H1 _ I1 (turn n σ1 H1 w1)) λb s2 hq_=>?_)
 obtain⟨H2,I2,q2⟩:=hq_
 cases b with
 |true=>
  obtain⟨N,hN,q2⟩:=q2
  rw[if_pos rfl];refine wpAny_passesOwn hp (bD (hb ae s2 σ1 H2 _ I2 q2) λf s3 q3=>?_)
  cases f with
  |next=>
   obtain⟨σ3,H3,I3,n3⟩:=q3
   obtain⟨m',hm,w3⟩:=hN σ3 H3 n3
   exact⟨m',hm,σ3,H3,I3,w3⟩
  |cont=>
   obtain⟨σ3,H3,I3,n3⟩:=q3
   obtain⟨m',hm,w3⟩:=hN σ3 H3 n3
   exact⟨m',hm,σ3,H3,I3,w3⟩
  |brk=>exact q3
  |ret v=>exact q3
 |false=>
  rw[if_neg Bool.false_ne_true];exact wpAny_execs_nil ⟨σ1,H2,I2,q2⟩
end
structure It where
 go:Nat->Hp->Prop
 yld:Nat->Hp->V->Hp->Prop
 stop:Nat->Hp->Prop
def iT(X:Cx)(ae:List (Addr×Obj))(H:Hp)(b:Addr):Prop:=
 H b=none/\b≠X.env.locals/\b∉X.fs/\(b∈X.ex\/X.s₀.heap.objs.size<=b)/\(∀x c,X.env.cells.lookup x=some c->c≠b)/\ ∀p∈X.pn++ae,p.1≠b
theorem Inv.fpOk {X:Cx}{ae:List (Addr×Obj)}{σ:St}{H H':Hp}{s:Shared}{b:Addr}(I:Inv X ae σ H s)(hb:s.heap.objs.size<=b)(hn:H' b=none):iT X ae H' b:=by
 refine⟨hn,Nat.ne_of_gt (Nat.lt_of_lt_of_le I.lt hb),I.nofs hb,.inr (Nat.le_trans I.sz hb),λx c e z=>?_,λp hp z=>?_⟩
 ·obtain⟨v,q⟩:=I.cell x c e
  exact absurd (Nat.lt_of_lt_of_le q.lt (by rw[z];exact hb)) (Nat.lt_irrefl _)
 ·exact absurd (Nat.lt_of_lt_of_le (Heap.lt_size (I.pin p hp).1) (by rw[z];exact hb)) (Nat.lt_irrefl _)
structure Turn(P:Program)(w:World)(K:W.Frag)(tg:Expr)(J:It)(fp:List Addr)(it:Addr)(tn:Nat->Heap->Prop):Prop where
 mem:it∈fp
 obj: ∀i h,tn i h-> ∀b∈fp,∃o,h.get? b=some o/\ ∀v,o.data≠ .cell v
 keep: ∀i h h',tn i h->(∀b∈fp,∀o,h.get? b=some o->h'.get? b=some o)->tn i h'
 item: ∀(X:Cx),X.prog=P->X.w=w->X.K=K->X.calm=true-> ∀(i:Nat) (ae:List (Addr×Obj)) (s:Shared) (σ:St) (H:Hp) (E:Value->Shared->Prop),Inv X ae σ H s->(∀b∈fp,iT X ae H b)->tn i s.heap->J.go i H->
  wpAny (model P w) X.A (pyNext (.ref it)) (λr s1=> ∃u,r=some u/\
   wpAny (model P w) X.A (letOwnedTupleGo tg (.ref it) u) (λ_ s2=> ∃x H',Inv X ae σ H' s2/\RelV x u/\J.yld i H x H'/\tn (i+1) s2.heap/\ ∀b∈fp,H' b=none) E s1) E s
 done: ∀(X:Cx),X.prog=P->X.w=w->X.K=K->X.calm=true-> ∀(i:Nat) (ae:List (Addr×Obj)) (s:Shared) (σ:St) (H:Hp) (E:Value->Shared->Prop),Inv X ae σ H s->(∀b∈fp,iT X ae H b)->tn i s.heap->J.stop i H->
  wpAny (model P w) X.A (pyNext (.ref it)) (λr s1=>r=none/\Inv X ae σ H s1) E s
 self: ∀(A:Around) (i:Nat) (s:Shared) (Q:Value->Shared->Prop) (E:Value->Shared->Prop),tn i s.heap->Q (.ref it) s->wpAny (model P w) A (pyIter (.ref it)) Q E s
abbrev TI:=St->Hp->(It->Hp->Prop)->Prop
def IB(X:Cx)(ae:List (Addr×Obj))(σ:St)(tg:Expr)(R:It->Hp->Prop)(itv:Value)(s2:Shared):Prop:=
 ∃(it:Addr) (fp:List Addr) (tn:Nat->Heap->Prop) (J:It) (H':Hp),itv=.ref it/\Inv X ae σ H' s2/\Turn X.prog X.w X.K tg J fp it tn/\tn 0 s2.heap/\(∀b∈fp,iT X ae H' b)/\R J H'
def PI(X:Cx)(tg iter:Expr)(wi:TI):Prop:=
 ∀(ae:List (Addr×Obj)) (s:Shared) (σ:St) (H:Hp) (R:It->Hp->Prop),Inv X ae σ H s->wi σ H R->
  wpAny (model X.prog X.w) X.A (eval iter X.env) (λv s1=>wpAny (model X.prog X.w) X.A (pyIter v) (IB X ae σ tg R) X.xe s1) X.xe s
theorem vK {M:Model}{A:Around}{E:Value->Shared->Prop}{s:Shared}{tg:Expr}{it:Addr}{u:Value}{o:Obj}{n:String}{vs:Array Value}{Q:Unit->Shared->Prop}(ho:s.heap.get? it=some o)(hc:o.cls=.type n)(hd:o.data=.fields vs)
 (hn:["enumerate","zip","dict_itemiterator","dict_reverseitemiterator","odict_iterator","itertools.zip_longest","itertools.pairwise"].contains n=false) (hQ:Q () s):wpAny M A (letOwnedTupleGo tg (.ref it) u) Q E s:=by
 unfold letOwnedTupleGo;cases tg<;>first
  |exact wpAny_pure hQ
  |(cases u<;>first
     |exact wpAny_pure hQ
     |(refine wpAny_bind (wpAny_load ho ?_)
       rw[hc,hd];show wpAny M A (if(["enumerate","zip","dict_itemiterator","dict_reverseitemiterator","odict_iterator","itertools.zip_longest","itertools.pairwise"].contains n&&vs[0]? ==some (rawInt _))=true then _ else _) Q E s
       rw[if_neg (by intro h;rw[hn,Bool.false_and] at h;cases h)]
       exact wpAny_pure hQ))
def HG(K:W.Frag)(a:Addr):It:=
 ⟨λi H=> ∃xs x,SqL K H a xs/\xs[i]? =some x,λi H x H'=>H'=H/\ ∀xs,SqL K H a xs->xs[i]? =some x,λi H=> ∃xs,SqL K H a xs/\xs.length<=i⟩
def HC(K:W.Frag)(a:Addr):It:=
 ⟨λi H=> ∃xs x,SqT K H a xs/\xs[i]? =some x,λi H x H'=>H'=H/\ ∀xs,SqT K H a xs->xs[i]? =some x,λi H=> ∃xs,SqT K H a xs/\xs.length<=i⟩
def FH(lo:Int)(n:Nat):It:=⟨λi _=>i<n,λi H x H'=>H'=H/\x=.int (lo+i),λi _=>n<=i⟩
theorem wU {P:Program}{w:World}{K:W.Frag}{tg:Expr}(a it:Addr):Turn P w K tg (HG K a) [it] it (λi h=>h.IsListIter it a i) where
 mem:=by simp
 obj:=λi h st b hb=>by
  have e:b=it:=by simpa using hb
  subst e;obtain⟨o,e,c,d⟩:=st
  exact⟨o,e,λv z=>by rw[d] at z;cases z⟩
 keep:=λi h h' st k=>st.at λo e=>k it (by simp) o e
 item:=by
  intro X hP hw hK hc i ae s σ H E I hf st hg;subst hP hw hK;obtain⟨xs,x,hq,hx⟩:=hg
  obtain⟨its,rv,p,hz⟩:=I.list hq
  obtain⟨u,hu,ru⟩:=rv.get hx
  obtain⟨f0,f1,f2,f3,f4,f5⟩:=hf it (by simp)
  refine wpAny_pyNext_list_item st p.isList (x:=u) (by simpa using hu) λh' st' sb=>?_
  have I1:Inv X ae σ H {s with heap:=h'}:=I.turned (t':=s.toks) (λb o hb e=>(sb.2 b hb).trans e) f0 f1 f3 f4 f5
  obtain⟨o,e,c,d⟩:=id st'
  exact⟨u,rfl,vK (s:={s with heap:=h'}) e c d (by decide) ⟨x,H,I1,ru,⟨rfl,λys hy=>by rw[I.list_inj hy hq];exact hx⟩,st',λb hb=>(hf b hb).1⟩⟩
 done:=by
  intro X hP hw hK hc i ae s σ H E I hf st hg;subst hP hw hK;obtain⟨xs,hq,hx⟩:=hg
  obtain⟨its,rv,p,hz⟩:=I.list hq
  obtain⟨f0,f1,f2,f3,f4,f5⟩:=hf it (by simp)
  have hl:=rv.length
  exact wpAny_pyNext_list_end (I.ok.hd hc) st p.isList (by simp;omega) λh' eb=>⟨rfl,I.turned (t':=s.toks) (λb o hb e=>eb b o hb e) f0 f1 f3 f4 f5⟩
 self:=λ_ _ _ _ _ st h=>wpAny_pyIter_listiter st h
theorem uT {P:Program}{w:World}{K:W.Frag}{tg:Expr}(a it:Addr):Turn P w K tg (HC K a) [it] it (λi h=>h.IsTupleIter it a i) where
 mem:=by simp
 obj:=λi h st b hb=>by
  have e:b=it:=by simpa using hb
  subst e;obtain⟨o,e,c,d⟩:=st
  exact⟨o,e,λv z=>by rw[d] at z;cases z⟩
 keep:=λi h h' st k=>st.at λo e=>k it (by simp) o e
 item:=by
  intro X hP hw hK hc i ae s σ H E I hf st hg;subst hP hw hK;obtain⟨xs,x,hq,hx⟩:=hg
  obtain⟨its,rv,p,hz⟩:=I.tuple hq
  obtain⟨u,hu,ru⟩:=rv.get hx
  obtain⟨f0,f1,f2,f3,f4,f5⟩:=hf it (by simp)
  refine wpAny_pyNext_tuple_item st (show s.heap.IsTuple a its.toArray from p) (x:=u) (by simpa using hu) λh' st' sb=>?_
  have I1:Inv X ae σ H {s with heap:=h'}:=I.turned (t':=s.toks) (λb o hb e=>(sb.2 b hb).trans e) f0 f1 f3 f4 f5
  obtain⟨o,e,c,d⟩:=id st'
  exact⟨u,rfl,vK (s:={s with heap:=h'}) e c d (by decide) ⟨x,H,I1,ru,⟨rfl,λys hy=>by rw[I.tuple_inj hy hq];exact hx⟩,st',λb hb=>(hf b hb).1⟩⟩
 done:=by
  intro X hP hw hK hc i ae s σ H E I hf st hg;subst hP hw hK;obtain⟨xs,hq,hx⟩:=hg
  obtain⟨its,rv,p,hz⟩:=I.tuple hq
  obtain⟨f0,f1,f2,f3,f4,f5⟩:=hf it (by simp)
  have hl:=rv.length
  exact wpAny_pyNext_tuple_end (I.ok.hd hc) st (show s.heap.IsTuple a its.toArray from p) (by simp;omega) λh' eb=>⟨rfl,I.turned (t':=s.toks) (λb o hb e=>eb b o hb e) f0 f1 f3 f4 f5⟩
 self:=λ_ _ _ _ _ st h=>wpAny_pyIter_tupleiter st h
theorem ve {P:Program}{w:World}{K:W.Frag}{tg:Expr}(it:Addr)(lo:Int)(n:Nat):Turn P w K tg (FH lo n) [it] it (λi h=>IsRangeIter h it (lo+(i:Nat)*1) ((n:Int) - (i:Nat)) 1) where
 mem:=by simp
 obj:=λi h st b hb=>by
  have e:b=it:=by simpa using hb
  subst e;exact⟨_,st,λv z=>by
   have z':Data.fields _=Data.cell v:=z
   cases z'⟩
 keep:=λi h h' st k=>k it (by simp) _ st
 item:=by
  intro X hP hw hK hc i ae s σ H E I hf st hg;subst hP hw hK;obtain⟨f0,f1,f2,f3,f4,f5⟩:=hf it (by simp)
  have W:=Walks.range (prog:=X.prog) (w:=X.w) (I.ok.hd hc) it lo 1 n
  refine W.item i s _ _ hg st λv h' tk hv st' kk=>?_
  obtain⟨t,rfl⟩:=hv
  have I1:Inv X ae σ H {s with heap:=h',toks:=tk}:=I.turned (λb o hb e=>kk b o (by simpa using hb) e) f0 f1 f3 f4 f5
  refine⟨_,rfl,vK (s:={s with heap:=h',toks:=tk}) (n:="range_iterator") st' rfl rfl (by decide) ⟨.int (lo+i),H,I1,⟨t,?_⟩,⟨rfl,rfl⟩,st',λb hb=>(hf b hb).1⟩⟩
  rw[Int.mul_one]
 done:=by
  intro X hP hw hK hc i ae s σ H E I hf st hg;subst hP hw hK;obtain⟨f0,f1,f2,f3,f4,f5⟩:=hf it (by simp)
  exact wpAny_pyNext_range_end (I.ok.hd hc) st (by have:n<=i:=hg;omega) λh' eb=>⟨rfl,I.turned (t':=s.toks) (λb o hb e=>eb b o hb e) f0 f1 f3 f4 f5⟩
 self:=λ_ _ _ _ _ st h=>wpAny_pyIter_rangeiter st h
section
variable {X:Cx}{tg:Expr}
def Fq(K:W.Frag)(tl:TE):TI:=λσ H R=>tl σ H λx H1=> ∃a,x=.ref a/\(∃xs,SqL K H1 a xs)/\R (HG K a) H1
def Im(K:W.Frag)(tl:TE):TI:=λσ H R=>tl σ H λx H1=> ∃a,x=.ref a/\(∃xs,SqT K H1 a xs)/\R (HC K a) H1
theorem qf {l:Expr}{tl:TE}(hl:PE X l tl):PI X tg l (Fq X.K tl):=by
 intro ae s σ H R I h;refine bD (hl ae s σ H _ I h) λv s1 hq_=>?_
 obtain⟨x,H1,I1,r1,q1⟩:=hq_
 obtain⟨a,e,⟨xs,hq⟩,q⟩:=q1
 subst e;cases r1
 obtain⟨its,rv,p,hz⟩:=I1.list hq
 refine wpAny_pyIter_list p.isList ?_
 refine⟨s1.heap.objs.size,[s1.heap.objs.size],_,_,H1,rfl,I1.kept (t':=s1.toks) λb o e=>Heap.get?_push_of_some _ e,wU a _,⟨_,Heap.get?_push_size _ rfl,rfl,rfl⟩,λb hb=>?_,q⟩
 have e:b=s1.heap.objs.size:=by simpa using hb
 subst e;exact I1.fpOk (Nat.le_refl _) (I1.hok.fresh (Nat.le_refl _))
theorem EV {l:Expr}{tl:TE}(hl:PE X l tl):PI X tg l (Im X.K tl):=by
 intro ae s σ H R I h;refine bD (hl ae s σ H _ I h) λv s1 hq_=>?_
 obtain⟨x,H1,I1,r1,q1⟩:=hq_
 obtain⟨a,e,⟨xs,hq⟩,q⟩:=q1
 subst e;cases r1
 obtain⟨its,rv,p,hz⟩:=I1.tuple hq
 refine wpAny_pyIter_tuple (show s1.heap.IsTuple a its.toArray from p) ?_
 refine⟨s1.heap.objs.size,[s1.heap.objs.size],_,_,H1,rfl,I1.kept (t':=s1.toks) λb o e=>Heap.get?_push_of_some _ e,uT a _,⟨_,Heap.get?_push_size _ rfl,rfl,rfl⟩,λb hb=>?_,q⟩
 have e:b=s1.heap.objs.size:=by simpa using hb
 subst e;exact I1.fpOk (Nat.le_refl _) (I1.hok.fresh (Nat.le_refl _))
theorem rX {ae:List (Addr×Obj)}{σ:St}{H:Hp}{s:Shared}{R:It->Hp->Prop}{E:Value->Shared->Prop}{lo hi:Int}{t u v:Tok}{tk:Nat}(I:Inv X ae σ H s)(h1: -(2^62)<=lo)(h2:lo<2^62)(h3: -(2^62)<=hi)(h4:hi<2^62)
 (q:R (FH lo (hi-lo).toNat) H):wpAny (model X.prog X.w) X.A (pyIter (.ref s.heap.objs.size)) (IB X ae σ tg R) E {s with heap:=s.heap.push {cls:=.type "range",data:=.fields #[.int lo t,.int hi u,.int 1 v]},toks:=tk}:=by
 refine wpAny_pyIter_range (IsRange.new ..) (small_one h1 h2 h3 h4) ?_
 have I1:Inv X ae σ H {s with heap:=s.heap.push {cls:=.type "range",data:=.fields #[.int lo t,.int hi u,.int 1 v]},toks:=tk}:=I.kept λb o e=>Heap.get?_push_of_some _ e
 refine⟨(s.heap.push {cls:=.type "range",data:=.fields #[.int lo t,.int hi u,.int 1 v]}).objs.size,[(s.heap.push {cls:=.type "range",data:=.fields #[.int lo t,.int hi u,.int 1 v]}).objs.size],_,_,H,rfl,
  I1.kept (t':=tk) λb o e=>Heap.get?_push_of_some _ e,ve _ lo (hi-lo).toNat,?_,λb hb=>?_,q⟩
 ·have e1:lo+((0:Nat):Int)*1=lo:=by simp
  have e2:(((hi-lo).toNat:Nat):Int) - ((0:Nat):Int)=Builtin.Range.rangeSize lo hi 1:=by rw[rangeSize_one];split<;>omega
  show IsRangeIter _ _ (lo+((0:Nat):Int)*1) ((((hi-lo).toNat:Nat):Int) - ((0:Nat):Int)) 1;rw[e1,e2];exact Heap.get?_push_size _ rfl
 ·have e:b=(s.heap.push {cls:=.type "range",data:=.fields #[.int lo t,.int hi u,.int 1 v]}).objs.size:=by simpa using hb
  subst e;exact I1.fpOk (Nat.le_refl _) (I1.hok.fresh (Nat.le_refl _))
def FP(ta:TA):TI:=λσ H R=>ta σ H λvs H1=> ∃j:Int,vs=[.int j]/\ -(2^62)<=j/\j<2^62/\R (FH 0 j.toNat) H1
def G7(ta:TA):TI:=λσ H R=>ta σ H λvs H1=> ∃i j:Int,vs=[.int i,.int j]/\(-(2^62)<=i/\i<2^62/\ -(2^62)<=j/\j<2^62)/\R (FH i (j-i).toNat) H1
theorem p6 {a:Expr}{ta:TA}{p pos:Pos}(hg:Gl X "range")(hm:X.mg "range"=none)(ha:PA X [a] ta)(hs:starEach [a] X.env=[(false,eval a X.env)]:=by rfl):PI X tg (.Call (.Name "range" p) [a] [] pos) (FP ta):=by
 intro ae s σ H R I h;refine Call_ (mq I hg hm boot_range (PyProof.Rows.callWith_type1 (bD (ha pos ae s σ H _ I h) λus s1 ⟨vs,H1,I1,r1,q1⟩=>?_) hs rfl))
 obtain⟨j,e,q1,q2,q⟩:=q1
 subst e;cases r1 with
 |cons r rr=>
  cases rr
  obtain⟨t,rfl⟩:=r
  exact call_range_1 (rX I1 (by omega) (by omega) q1 q2 (by simpa using q))
theorem xR {a b:Expr}{ta:TA}{p pos:Pos}(hg:Gl X "range")(hm:X.mg "range"=none)(ha:PA X [a,b] ta)(hs:starEach [a,b] X.env=[(false,eval a X.env),(false,eval b X.env)]:=by rfl)(hs2:starEach [b] X.env=[(false,eval b X.env)]:=by rfl):
 PI X tg (.Call (.Name "range" p) [a,b] [] pos) (G7 ta):=by
 intro ae s σ H R I h;refine Call_ (mq I hg hm boot_range (PyProof.Rows.callWith_type1 (bD (ha pos ae s σ H _ I h) λus s1 ⟨vs,H1,I1,r1,q1⟩=>?_) (by rw[hs,hs2]) (by rw[hs2];rfl)))
 obtain⟨i,j,e,⟨q1,q2,q3,q4⟩,q⟩:=q1
 subst e;cases r1 with
 |cons r rr=>
  cases rr with
  |cons r' rr=>
   cases rr
   obtain⟨t,rfl⟩:=r
   obtain⟨t',rfl⟩:=r'
   exact call_range_2 (rX I1 q1 q2 q3 q4 q)
def HP(wi:TI)(g:TG)(tb:TS):TS:=λD σ H=>wi σ H λJ H1=> ∃W:Nat->Nat->St->Hp->Prop,(∃m,W 0 m σ H1)/\ ∀i m σ H,W i m σ H->
 (J.stop i H/\D.nx σ H)\/(J.go i H/\ ∃N:St->Hp->Prop,(∀σ' H',N σ' H'-> ∃m',m'<m/\W (i+1) m' σ' H')/\ ∀x H',J.yld i H x H'->g x σ H' λσ2 H2=>tb {D with nx:=N,ct:=N,bk:=D.nx} σ2 H2)
def kA(fp:List Addr)(h:Heap):List (Addr×Obj):=fp.filterMap λb=>(h.get? b).map λo=>(b,o)
theorem dh {fp:List Addr}{h:Heap}{b:Addr}{o:Obj}(hb:b∈fp)(e:h.get? b=some o):(b,o)∈kA fp h:=List.mem_filterMap.mpr ⟨b,hb,by rw[e];rfl⟩
theorem x6 {fp:List Addr}{h:Heap}{p:Addr×Obj}(hp:p∈kA fp h):p.1∈fp/\h.get? p.1=some p.2:=by
 obtain⟨b,hb,e⟩:=List.mem_filterMap.mp hp
 cases q:h.get? b with
 |none=>rw[q] at e;cases e
 |some o=>
  rw[q] at e;have e':(b,o)=p:=Option.some.inj e
  subst e';exact⟨hb,q⟩
theorem Inv.pinned {ae:List (Addr×Obj)}{σ:St}{H:Hp}{s:Shared}{fp:List Addr}(I:Inv X ae σ H s)(hf: ∀b∈fp,iT X ae H b)(ho: ∀b∈fp,∃o,s.heap.get? b=some o/\ ∀v,o.data≠ .cell v):Inv X (ae++kA fp s.heap) σ H s:=
 I.pins_of λp hp=>(List.mem_append.mp hp).elim (λz=>I.pin p (List.mem_append_right _ z)) λz=>by
  obtain⟨hb,e⟩:=x6 z
  obtain⟨f0,f1,f2,_⟩:=hf p.1 hb
  obtain⟨o,e',d⟩:=ho p.1 hb
  rw[e] at e';cases e';exact⟨e,f0,f1,f2,d⟩
theorem Inv.unpinned {ae pl:List (Addr×Obj)}{σ:St}{H:Hp}{s:Shared}(I:Inv X (ae++pl) σ H s):Inv X ae σ H s:=I.pins_of λp hp=>I.pin p (List.mem_append_right _ (List.mem_append_left _ hp))
theorem Dz {iter:Expr}{body:List Stmt}{wi:TI}{g:TG}{tb:TS}{pos:Pos}(hp:PassesOwn (model X.prog X.w) X.A X.env X.xe)(hc:X.calm=true)(hi:PI X tg iter wi)(hg:PG X tg g)(hb:PSs X body tb)
 (hs: ∀x,foldedSetIterable iter X.env x=pure x:=by intro _;rfl):PS X (.For tg iter body [] pos) (HP wi g tb):=by
 intro ae s σ H D I h;refine wpAny_For (bD (hi ae s σ H _ I h) λv s1 h1=>bD h1 λitv s2 h2=>?_) hs
 obtain⟨it,fp,tn,J,H2,e,I2,T,st2,f2,W,⟨m0,w0⟩,turn⟩:=h2
 subst e;have stat: ∀ {H':Hp},(∀b∈fp,H' b=none)-> ∀b∈fp,iT X ae H' b:=λhn b hb=>⟨hn b hb,(f2 b hb).2⟩
 refine codeAny_forLoop_any (λn s'=> ∃i σ' H',Inv X ae σ' H' s'/\tn i s'.heap/\(∀b∈fp,H' b=none)/\W i n σ' H') ?_ m0 ⟨0,σ,H2,I2,st2,λb hb=>(f2 b hb).1,w0⟩
 rintro n s3 ⟨i,σ3,H3,I3,st3,fr3,w3⟩
 rcases turn i n σ3 H3 w3 with⟨stop,qn⟩|⟨go,N,hN,step⟩
 ·refine wpAny_passesOwn hp (bD (T.done X rfl rfl rfl hc i ae s3 σ3 H3 X.xe I3 (stat fr3) st3 stop) λr s4 hq_=>?_)
  obtain⟨hr,I4⟩:=hq_
  subst hr;exact wpAny_execs_nil ⟨σ3,H3,I4,qn⟩
 ·refine wpAny_passesOwn hp (bD (T.item X rfl rfl rfl hc i ae s3 σ3 H3 X.xe I3 (stat fr3) st3 go) λr s4 hq_=>?_)
  obtain⟨u,hr,h4⟩:=hq_
  subst hr;refine wpAny_passesOwn hp (bD h4 λ_ s5 hq_=>?_)
  obtain⟨x,H5,I5,r5,y5,st5,fr5⟩:=hq_
  have I5':=I5.pinned (stat fr5) (T.obj _ _ st5)
  refine wpAny_passesOwn hp (bD (hg _ s5 σ3 H5 x u _ I5' r5 (step x H5 y5)) λ_ s6 hq_=>?_)
  obtain⟨σ6,H6,I6,q6⟩:=hq_
  refine wpAny_passesOwn hp (bD (hb _ s6 σ6 H6 _ I6 q6) λf s7 q7=>?_)
  have again: ∀ {σ7:St} {H7:Hp},Inv X (ae++kA fp s5.heap) σ7 H7 s7->N σ7 H7-> ∃m,m<n/\ ∃i σ' H',Inv X ae σ' H' s7/\tn i s7.heap/\(∀b∈fp,H' b=none)/\W i m σ' H':=λ{σ7 H7} I7 n7=>by
   obtain⟨m',hm,w7⟩:=hN σ7 H7 n7
   refine⟨m',hm,i+1,σ7,H7,I7.unpinned,T.keep _ _ _ st5 λb hb o e=>(I7.pin (b,o) (List.mem_append_right _ (List.mem_append_right _ (dh hb e)))).1,λb hb=>?_,w7⟩
   obtain⟨o,e,d⟩:=T.obj _ _ st5 b hb
   exact(I7.pin (b,o) (List.mem_append_right _ (List.mem_append_right _ (dh hb e)))).2.1
  cases f with
  |next=>obtain⟨σ7,H7,I7,n7⟩:=q7;exact again I7 n7
  |cont=>obtain⟨σ7,H7,I7,n7⟩:=q7;exact again I7 n7
  |brk=>obtain⟨σ7,H7,I7,q7⟩:=q7;exact⟨σ7,H7,I7.unpinned,q7⟩
  |ret v=>obtain⟨x7,σ7,H7,I7,r7,q7⟩:=q7;exact⟨x7,σ7,H7,I7.unpinned,r7,q7⟩
end
abbrev R2:=V->V->Hp->VK->Prop
def jK(X:Cx)(f:Value->Value->Sem Value)(r:R2):Prop:=
 ∀(ae:List (Addr×Obj)) (s:Shared) (σ:St) (H:Hp) (x y:V) (v u:Value) (Q:VK),Inv X ae σ H s->RelV x v->RelV y u->r x y H Q->
  wpAny (model X.prog X.w) X.A (f v u) (EP X ae σ Q) X.xe s
def Io(X:Cx)(f:Value->Sem Value)(r:V->Hp->VK->Prop):Prop:=
 ∀(ae:List (Addr×Obj)) (s:Shared) (σ:St) (H:Hp) (x:V) (v:Value) (Q:VK),Inv X ae σ H s->RelV x v->r x H Q->
  wpAny (model X.prog X.w) X.A (f v) (EP X ae σ Q) X.xe s
def dQ(X:Cx)(f:Value)(r:List V->Hp->VK->Prop):Prop:=
 ∀(ae:List (Addr×Obj)) (s:Shared) (σ:St) (H:Hp) (xs:List V) (us:List Value) (Q:VK),Inv X ae σ H s->Vals xs us->r xs H Q->
  wpAny (model X.prog X.w) X.A (call f us) (EP X ae σ Q) X.xe s
def HZ(X:Cx)(r:V->Hp->(Bool->Hp->Prop)->Prop):Prop:=
 ∀(ae:List (Addr×Obj)) (s:Shared) (σ:St) (H:Hp) (x:V) (v:Value) (Q:Bool->Hp->Prop),Inv X ae σ H s->RelV x v->r x H Q->
  wpAny (model X.prog X.w) X.A (truthy v) (TP X ae σ Q) X.xe s
def Fk(r:R2)(ta tb:TE):TE:=λσ H Q=>ta σ H λx H1=>tb σ H1 λy H2=>r x y H2 Q
def IR(r:V->Hp->VK->Prop)(ta:TE):TE:=λσ H Q=>ta σ H λx H1=>r x H1 Q
def rI(C:Int->Int->Prop)(g:Int->Int->V):R2:=λx y H Q=> ∃i j,x=.int i/\y=.int j/\C i j/\Q (g i j) H
def A7(g:Int->Int->V):R2:=λx y H Q=> ∃i j,x=.int i/\y=.int j/\Q (g i j) H
def rU(g:Int->V):V->Hp->VK->Prop:=λx H Q=> ∃i,x=.int i/\Q (g i) H
section
variable {X:Cx}{a b c:Expr}{ta tb tc:TE}{pos:Pos}
theorem ED(ha:PE X a ta)(hb:PE X b tb){ae:List (Addr×Obj)}{s:Shared}{σ:St}{H:Hp}{R:V->V->Hp->Prop}(I:Inv X ae σ H s)
 (h:ta σ H λx H1=>tb σ H1 λy H2=>R x y H2) {Q:Value->Shared->Prop} {f:Value->Value->Sem Value}
 (hf: ∀v u s2 x y H2,Inv X ae σ H2 s2->RelV x v->RelV y u->R x y H2->wpAny (model X.prog X.w) X.A (f v u) Q X.xe s2):
 wpAny (model X.prog X.w) X.A (eval a X.env) (λv s₁=>wpAny (model X.prog X.w) X.A (eval b X.env) (λu s₂=>wpAny (model X.prog X.w) X.A (f v u) Q X.xe s₂) X.xe s₁) X.xe s:=by
 refine bD (ha ae s σ H _ I h) λv s1 hq_=>?_
 obtain⟨x,H1,I1,r1,q1⟩:=hq_
 refine bD (hb ae s1 σ H1 _ I1 q1) λu s2 hq_=>?_
 obtain⟨y,H2,I2,r2,q2⟩:=hq_
 exact hf v u s2 x y H2 I2 r1 r2 q2
theorem Fp {op:Operator}{r:R2}(ho:jK X (binaryOp op) r)(ha:PE X a ta)(hb:PE X b tb):PE X (.BinOp a op b pos) (Fk r ta tb):=by
 intro ae s σ H Q I h;exact wpAny_BinOp (ED ha hb I h λv u s2 x y H2 I2 rx ry q=>ho ae s2 σ H2 x y v u Q I2 rx ry q)
theorem GB {op:UnaryOp}{r:V->Hp->VK->Prop}(ho:Io X (unaryOp op) r)(ha:PE X a ta):PE X (.UnaryOp op a pos) (IR r ta):=by
 intro ae s σ H Q I h;exact UnaryOp_ (bD (ha ae s σ H _ I h) λv s1 ⟨x,H1,I1,r1,q1⟩=>ho ae s1 σ H1 x v Q I1 r1 q1)
theorem Hc {f:Value->Value->Sem Value}{C:Int->Int->Prop}{g:Int->Int->Int}
 (rule: ∀(i j:Int) (t u:Tok) (s:Shared) (Q:Value->Shared->Prop) (E:Value->Shared->Prop),C i j->Q (.int (g i j) s.toks) {s with toks:=s.toks+1}->wpAny (model X.prog X.w) X.A (f (.int i t) (.int j u)) Q E s):
 jK X f (rI C λi j=>.int (g i j)):=by
 intro ae s σ H x y v u Q I rx ry h;obtain⟨i,j,rfl,rfl,hc,q⟩:=h
 obtain⟨t,rfl⟩:=rx
 obtain⟨t',rfl⟩:=ry
 exact rule i j t t' s _ _ hc ⟨.int (g i j),H,I.tok _,⟨_,rfl⟩,q⟩
theorem Fy {f:Value->Value->Sem Value}{g:Int->Int->Int}
 (rule: ∀(i j:Int) (t u:Tok) (s:Shared) (Q:Value->Shared->Prop) (E:Value->Shared->Prop),Q (.int (g i j) s.toks) {s with toks:=s.toks+1}->wpAny (model X.prog X.w) X.A (f (.int i t) (.int j u)) Q E s):
 jK X f (A7 λi j=>.int (g i j)):=by
 intro ae s σ H x y v u Q I rx ry h;obtain⟨i,j,rfl,rfl,q⟩:=h
 obtain⟨t,rfl⟩:=rx
 obtain⟨t',rfl⟩:=ry
 exact rule i j t t' s _ _ ⟨.int (g i j),H,I.tok _,⟨_,rfl⟩,q⟩
theorem C5 {f:Value->Value->Sem Value}{g:Int->Int->Bool}
 (rule: ∀(i j:Int) (t u:Tok) (s:Shared) (Q:Value->Shared->Prop) (E:Value->Shared->Prop),Q (.bool (g i j)) s->wpAny (model X.prog X.w) X.A (f (.int i t) (.int j u)) Q E s):
 jK X f (A7 λi j=>.bl (g i j)):=by
 intro ae s σ H x y v u Q I rx ry h;obtain⟨i,j,rfl,rfl,q⟩:=h
 obtain⟨t,rfl⟩:=rx
 obtain⟨t',rfl⟩:=ry
 exact rule i j t t' s _ _ ⟨.bl (g i j),H,I,rfl,q⟩
def GU(i j:Int):Prop:=0<=j/\j<=1000000/\i.natAbs<2^64
theorem Dv:jK X (binaryOp .Add) (A7 λi j=>.int (i+j)):=Fy λ_ _ _ _ _ _ _ q=>add_int q
theorem DR:jK X (binaryOp .Sub) (A7 λi j=>.int (i-j)):=Fy λ_ _ _ _ _ _ _ q=>sub_int q
theorem D4:jK X (binaryOp .Mod) (rI (λ_ j=>0<j) λi j=>.int (i % j)):=Hc λi j _ _ _ _ _ hc q=>by
 have h1:(0:Int)<j:=hc
 exact mod_int' (by omega) (by rw[Int.fmod_eq_emod_of_nonneg i (by omega)];exact q)
theorem Ek:jK X (binaryOp .Pow) (rI GU λi j=>.int (i^j.toNat)):=Hc λ_ _ _ _ _ _ _ hc q=>pow_int_small hc.1 hc.2.1 hc.2.2 q
theorem IM {f:Value->Sem Value}{g:Int->Int}
 (rule: ∀(i:Int) (t:Tok) (s:Shared) (Q:Value->Shared->Prop) (E:Value->Shared->Prop),Q (.int (g i) s.toks) {s with toks:=s.toks+1}->wpAny (model X.prog X.w) X.A (f (.int i t)) Q E s):
 Io X f (rU λi=>.int (g i)):=by
 intro ae s σ H x v Q I rx h;obtain⟨i,rfl,q⟩:=h
 obtain⟨t,rfl⟩:=rx
 exact rule i t s _ _ ⟨.int (g i),H,I.tok _,⟨_,rfl⟩,q⟩
theorem EH:Io X (unaryOp .USub) (rU λi=>.int (-i)):=IM λ_ _ _ _ _ q=>neg_int q
end
section
variable {X:Cx}{a b c:Expr}{ta tb tc:TE}{pos:Pos}
theorem tq:jK X (compareOp .Lt) (A7 λi j=>.bl (decide (i<j))):=C5 λ_ _ _ _ _ _ _ q=>lt_int q
theorem yg:jK X (compareOp .LtE) (A7 λi j=>.bl (decide (i<=j))):=C5 λ_ _ _ _ _ _ _ q=>le_int q
theorem G1:jK X (compareOp .Gt) (A7 λi j=>.bl (decide (j<i))):=C5 λ_ _ _ _ _ _ _ q=>gt_int q
theorem yj:jK X (compareOp .GtE) (A7 λi j=>.bl (decide (j<=i))):=C5 λ_ _ _ _ _ _ _ q=>ge_int q
theorem bO(b:Expr){op:CmpOp}(h:op≠ .In:=by decide)(h2:op≠ .NotIn:=by decide):behindInMarks op b=false:=by
 have e1:(op==CmpOp.In)=false:=by cases op<;>first|rfl|exact absurd rfl h
 have e2:(op==CmpOp.NotIn)=false:=by cases op<;>first|rfl|exact absurd rfl h2
 cases b<;>simp[behindInMarks,e1,e2]
theorem BW {op:CmpOp}{r:R2}(ho:jK X (compareOp op) r)(ha:PE X a ta)(hb:PE X b tb)(hm:behindInMarks op b=false):PE X (.Compare a [op] [b] pos) (Fk r ta tb):=by
 intro ae s σ H Q I h;exact wpAny_Compare1 (ED ha hb I h λv u s2 x y H2 I2 rx ry q=>ho ae s2 σ H2 x y v u Q I2 rx ry q) hm
def Dn(t:TE):TT:=λσ H Q=>t σ H λx H'=> ∃k,x=.bl k/\Q k H'
theorem CG {op:CmpOp}{r:R2}(ho:jK X (compareOp op) r)(ha:PE X a ta)(hb:PE X b tb)(hm:behindInMarks op b=false):PT X (.Compare a [op] [b] pos) (Dn (Fk r ta tb)):=by
 intro ae s σ H Q I h;refine wpAny_isTrue_Compare1 (bD (ha ae s σ H _ I h) λv s1 ⟨x,H1,I1,r1,q1⟩=>bD (hb ae s1 σ H1 _ I1 q1) λu s2 ⟨y,H2,I2,r2,q2⟩=>
  bD (ho ae s2 σ H2 x y v u _ I2 r1 r2 q2) λc s3 ⟨z,H3,I3,r3,k,e,q3⟩=>?_) hm
 subst e;cases r3
 exact wpAny_truthy_bool ⟨H3,I3,q3⟩
def uF(r r':R2)(ta tb tc:TE):TE:=λσ H Q=>ta σ H λx H1=>tb σ H1 λy H2=>r x y H2 λz H3=> ∃k,z=.bl k/\
 (if k=true then tc σ H3 λw' H4=>r' y w' H4 Q else Q (.bl false) H3)
theorem yV {op op':CmpOp}{r r':R2}(ho:jK X (compareOp op) r)(ho':jK X (compareOp op') r')(ha:PE X a ta)(hb:PE X b tb)(hc:PE X c tc)
 (hm:lastMarks [op,op'] [b,c]=false:=by with_unfolding_all rfl):PE X (.Compare a [op,op'] [b,c] pos) (uF r r' ta tb tc):=by
 intro ae s σ H Q I h;refine Compare_chain (bD (ha ae s σ H _ I h) λv s1 ⟨x,H1,I1,r1,q1⟩=>chain_link (bD (hb ae s1 σ H1 _ I1 q1) λu s2 ⟨y,H2,I2,r2,q2⟩=>
  bD (ho ae s2 σ H2 x y v u _ I2 r1 r2 q2) λd s3 ⟨z,H3,I3,r3,k,e,q3⟩=>?_)) hm
 subst e;cases r3
 refine wpAny_truthy_bool ?_
 cases k with
 |false=>exact ite_ff ⟨.bl false,H3,I3,rfl,q3⟩
 |true=>exact ite_tt (chain_last (bD (hc ae s3 σ H3 _ I3 q3) λw' s4 ⟨z',H4,I4,r4,q4⟩=>ho' ae s4 σ H4 y z' u w' Q I4 r2 r4 q4))
theorem zi {op op':CmpOp}{r r':R2}(ho:jK X (compareOp op) r)(ho':jK X (compareOp op') r')(ha:PE X a ta)(hb:PE X b tb)(hc:PE X c tc)
 (hm:lastMarks [op,op'] [b,c]=false:=by with_unfolding_all rfl):PT X (.Compare a [op,op'] [b,c] pos) (Dn (uF r r' ta tb tc)):=by
 intro ae s σ H Q I h;refine isTrue_chain (bD (ha ae s σ H _ I h) λv s1 ⟨x,H1,I1,r1,q1⟩=>test_link (bD (hb ae s1 σ H1 _ I1 q1) λu s2 ⟨y,H2,I2,r2,q2⟩=>
  bD (ho ae s2 σ H2 x y v u _ I2 r1 r2 q2) λd s3 ⟨z,H3,I3,r3,k,e,q3⟩=>?_)) hm
 subst e;cases r3
 refine wpAny_truthy_bool ?_
 cases k with
 |false=>
  obtain⟨k',e',q'⟩:=q3
  cases e'
  exact ite_ff ⟨H3,I3,q'⟩
 |true=>
  refine ite_tt (test_last (bD (hc ae s3 σ H3 _ I3 q3) λw' s4 ⟨z',H4,I4,r4,q4⟩=>bD (ho' ae s4 σ H4 y z' u w' _ I4 r2 r4 q4) λd' s5 hq_=>?_))
  obtain⟨z2,H5,I5,r5,k2,e2,q5⟩:=hq_
  subst e2;cases r5
  exact wpAny_truthy_bool ⟨H5,I5,q5⟩
def El(K:W.Frag)(x:V)(H:Hp)(k:Bool):Prop:=
 match x with
 | .non=>k=false
 | .bl b=>k=b
 | .int i=>k=(i !=0)
 | .str y=>y.length<=sizeLine/\k=((y.length:Int) !=0)
 | .byt y=>y.size<=sizeLine/\k=((y.size:Int) !=0)
 | .ref p=>(∃xs,SqL K H p xs/\k= !xs.isEmpty)\/(∃xs,SqT K H p xs/\k= !xs.isEmpty)\/ ∃kvs,H p=some (.dK kvs)/\k= !kvs.isEmpty
 |_=>False
theorem uJ {κ:Type}{kvs:List (κ×V)}{vs:List (κ×Value)}(r:KV kvs vs):(!vs.isEmpty)= !kvs.isEmpty:=by
 cases r<;>rfl
theorem nE {xs:List V}{its:List Value}(r:Vals xs its):(!its.toArray.isEmpty)= !xs.isEmpty:=by
 cases r<;>simp
theorem kG:(sizeLine:Nat)<2^63:=by rw[sizeLine_eq];decide
theorem EJ:HZ X (λx H Q=> ∃k,El X.K x H k/\Q k H):=by
 intro ae s σ H x v Q I rx h;obtain⟨k,e,q⟩:=h
 have hl:=kG
 have hs:sizeLine=16777216:=sizeLine_eq
 cases x with
 |non=>
  cases rx
  have e':k=false:=e
  subst e';exact truthy_none ⟨H,I,q⟩
 |bl b=>
  cases rx
  have e':k=b:=e
  subst e';exact wpAny_truthy_bool ⟨H,I,q⟩
 |int i=>
  obtain⟨t,rfl⟩:=rx
  have e':k=(i !=0):=e
  subst e';exact PySem.P.truthy_int ⟨H,I,q⟩
 |str y=>
  obtain⟨t,rfl⟩:=rx
  obtain⟨hy,e'⟩:y.length<=sizeLine/\k=((y.length:Int) !=0):=e
  subst e';exact PySem.P.truthy_str (by omega) ⟨H,I.tok _,q⟩
 |byt y=>
  obtain⟨t,rfl⟩:=rx
  obtain⟨hy,e'⟩:y.size<=sizeLine/\k=((y.size:Int) !=0):=e
  subst e';exact W.truthy_bytes (by omega) ⟨H,I.tok _,q⟩
 |ref p=>
  cases rx
  have e':(∃xs,SqL X.K H p xs/\k= !xs.isEmpty)\/(∃xs,SqT X.K H p xs/\k= !xs.isEmpty)\/ ∃kvs,H p=some (.dK kvs)/\k= !kvs.isEmpty:=e
  rcases e' with⟨xs,hx,e'⟩|⟨xs,hx,e'⟩|⟨kvs,hx,e'⟩
  ·subst e'
   obtain⟨its,r,pl,hz⟩:=I.list hx
   have hlen:=r.length
   exact wpAny_truthy_list pl.isList (by simp only[List.size_toArray];omega) ⟨H,I.tok _,by rw[nE r];exact q⟩
  ·subst e'
   obtain⟨its,r,pl,hz⟩:=I.tuple hx
   have hlen:=r.length
   exact truthy_tuple pl (by simp only[List.size_toArray];omega) ⟨H,I.tok _,by rw[nE r];exact q⟩
  ·subst e'
   obtain⟨hz,hS,vs,r,m⟩:kvs.length<=sizeLine/\(p==sysModules)=false/\ ∃vs,KV kvs vs/\s.heap.DictOf (ce X.prog X.w) p vs:=I.hok p _ hx
   have hlen:kvs.length=vs.length:=Paired.length r
   exact wpAny_truthy_dict hS m (by omega) ⟨H,I.tok _,by rw[uJ r];exact q⟩
 |_=>exact(show False from e).elim
theorem tK(ha:PE X a ta)(he: ∀whole,isTrue a X.env whole=(do let v <-whole;standAt a.pos;holding [v] (truthy v))):
 PT X a (λσ H Q=>ta σ H λx H'=> ∃k,El X.K x H' k/\Q k H'):=by
 intro ae s σ H Q I h;exact isTrue_plain (bD (ha ae s σ H _ I h) λv s1 ⟨x,H1,I1,r1,q1⟩=>EJ ae s1 σ H1 x v Q I1 r1 q1) (he _)
theorem kh {x:V}{us:List Value}(r:Vals [x] us): ∃u,us=[u]/\RelV x u:=by
 cases r with
 |cons r1 r2=>cases r2;exact⟨_,rfl,r1⟩
theorem zl {x y:V}{us:List Value}(r:Vals [x,y] us): ∃u w',us=[u,w']/\RelV x u/\RelV y w':=by
 cases r with
 |cons r1 r2=>
  cases r2 with
  |cons r3 r4=>cases r4;exact⟨_,_,rfl,r1,r3⟩
theorem Aa:dQ X (.builtin "abs") (λxs H Q=> ∃i,xs=[.int i]/\Q (.int (if i<0 then -i else i)) H):=by
 intro ae s σ H xs us Q I r h;obtain⟨i,rfl,q⟩:=h
 obtain⟨u,rfl,t,rfl⟩:=kh r
 exact call_abs_int λu tk=>⟨.int (if i<0 then -i else i),H,I.tok _,⟨_,rfl⟩,q⟩
theorem wV(hc:X.calm=true):dQ X (.builtin "max") (λxs H Q=> ∃i j,xs=[.int i,.int j]/\Q (.int (if j>i then j else i)) H):=by
 intro ae s σ H xs us Q I r h;obtain⟨i,j,rfl,q⟩:=h
 obtain⟨u,w',rfl,⟨t,rfl⟩,⟨t',rfl⟩⟩:=zl r
 refine max_two_ints (I.ok.hd hc) λh' tk k=>⟨_,H,I.kept k,?_,q⟩
 by_cases hj:j>i
 ·rw[if_pos hj,if_pos hj];exact⟨_,rfl⟩
 ·rw[if_neg hj,if_neg hj];exact⟨_,rfl⟩
theorem pE(hc:X.calm=true):dQ X (.builtin "min") (λxs H Q=> ∃i j,xs=[.int i,.int j]/\Q (.int (if j<i then j else i)) H):=by
 intro ae s σ H xs us Q I r h;obtain⟨i,j,rfl,q⟩:=h
 obtain⟨u,w',rfl,⟨t,rfl⟩,⟨t',rfl⟩⟩:=zl r
 refine min_two_ints (I.ok.hd hc) λh' tk k=>⟨_,H,I.kept k,?_,q⟩
 by_cases hj:j<i
 ·rw[if_pos hj,if_pos hj];exact⟨_,rfl⟩
 ·rw[if_neg hj,if_neg hj];exact⟨_,rfl⟩
end
theorem RelO.some_of {v:V}{o:Option Value}(r:RelO (some v) o): ∃u,o=some u/\RelV v u:=by
 cases o with
 |none=>exact(show False from r).elim
 |some u=>exact⟨u,rfl,r⟩
structure Room(k:Nat)(A:Around):Prop where
 hd:A.handled=none
 dp:A.depth+3*k+5<recursionLimit
 un:A.units+16*k+200<cLine
theorem Room.mono {j k:Nat}{A:Around}(r:Room k A)(h:j<=k):Room j A:=⟨r.hd,by have:=r.dp;omega,by have:=r.un;omega⟩
theorem Room.deeper {k:Nat}{A:Around}(r:Room (k+1) A)(env:Env):Room k (A.deeper env):=
 ⟨r.hd,by have:=r.dp;show A.depth+1+3*k+5<_;omega,by have:=r.un;show A.units+3+16*k+200<_;omega⟩
theorem Room.depth {k:Nat}{A:Around}(r:Room k A):A.depth<recursionLimit:=by have:=r.dp;omega
theorem Room.units {k:Nat}{A:Around}(r:Room k A):A.units+64<cLine:=by have:=r.un;omega
def GS:TA:=λ_ H Q=>Q [] H
def GM(ta:TE)(tr:TA):TA:=λσ H Q=>ta σ H λx H1=>tr σ H1 λxs H2=>Q (x::xs) H2
section
variable {X:Cx}{e:Expr}{es:List Expr}{te:TE}{t:TA}{pos:Pos}
theorem iF:PA X [] GS:=λ_ _ _ _ H Q I h=>Calls.spliced_nil ⟨[],H,I,.nil,h⟩
theorem eA(ha:PE X e te)(hr:PA X es t)(hs:starEach (e::es) X.env=(false,eval e X.env)::starEach es X.env:=by rfl):PA X (e::es) (GM te t):=by
 intro pos ae s σ H Q I h;rw[hs];show wpAny _ _ (spliced ((false,eval e X.env)::backTo pos (starEach es X.env))) _ _ s;refine Calls.spliced_cons (bD (ha ae s σ H _ I h) λu s1 hq_=>?_)
 obtain⟨x,H1,I1,r1,q1⟩:=hq_
 exact bD (hr pos ae s1 σ H1 _ I1 q1) λus s2 ⟨xs,H2,I2,r2,q2⟩=>⟨x::xs,H2,I2,.cons r1 r2,q2⟩
def Hm(t:TA):TE:=λσ H Q=>t σ H λxs H1=>xs.length<=sizeLine/\ ∀p,H1 p=none->Q (.ref p) (bN H1 p (.tup xs))
def Hw(t:TA):TE:=λσ H Q=>t σ H λxs H1=>xs.length<=sizeLine/\ ∀p,H1 p=none->Q (.ref p) (bN H1 p (.lst xs))
theorem Ed {x1}(h:PA X es t):PE X (.Tuple es x1 pos) (Hm t):=by
 intro ae s σ H Q I hq;refine wpAny_Tuple_spliced (bD (h pos ae s σ H _ I hq) λus s1 ⟨xs,H1,I1,r,z,q⟩=>⟨by rw[<-r.length];exact z,?_⟩)
 have hf:H1 s1.heap.objs.size=none:=I1.hok.fresh (Nat.le_refl _)
 refine⟨.ref s1.heap.objs.size,bN H1 s1.heap.objs.size (.tup xs),I1.laid (t':=s1.toks) (λb u e=>Heap.get?_push_of_some _ e) (Nat.le_refl _) ?_,rfl,q _ hf⟩
 exact⟨z,us,r,⟨_,Heap.get?_push_size _ rfl,rfl,_,rfl⟩,_,Heap.get?_push_size _ rfl,rfl⟩
theorem EI(h:PA X es t):PE X (.List es pos) (Hw t):=by
 intro ae s σ H Q I hq;refine wpAny_List_spliced (bD (h pos ae s σ H _ I hq) λus s1 ⟨xs,H1,I1,r,z,q⟩=>⟨by rw[<-r.length];exact z,?_⟩)
 have hf:H1 s1.heap.objs.size=none:=I1.hok.fresh (Nat.le_refl _)
 refine⟨.ref s1.heap.objs.size,bN H1 s1.heap.objs.size (.lst xs),I1.laid (t':=s1.toks) (λb u e=>Heap.get?_push_of_some _ e) (Nat.le_refl _) ?_,rfl,q _ hf⟩
 exact⟨z,us,0,r,Heap.get?_push_size _ rfl⟩
end
abbrev Sp:=List V->Hp->VK->XK->Prop
abbrev yS:=List Env->Hp->Shared->XK->Value->Shared->Prop
structure Env0(P:Program)(w:World)(K:W.Frag)(mg:Str->Option Value)(base:Heap)(A:Around)(outer:List Env)(s:Shared)(H:Hp):Prop where
 frames:A.frames=some outer
 mod:Mod K mg base
 bs: ∀b o,base.get? b=some o->s.heap.get? b=some o/\H b=none
 bsz:base.objs.size<=s.heap.objs.size
 funs:s.heap.FunFrames base outer
 frf: ∀b∈pO outer,H b=none
 hok:HOk P w H s.heap
 bare:AllBare s.gens
def CE(outer:List Env)(P:Program)(w:World)(H:Hp)(s:Shared)(Q:VK)(u:Value)(s':Shared):Prop:=
 ∃v H',s'.os=s.os/\AllBare s'.gens/\Un (pO outer) [] H H' s.heap s'.heap/\HOk P w H' s'.heap/\RelV v u/\Q v H'
def CR(CX:yS)(outer:List Env)(P:Program)(w:World)(H:Hp)(s:Shared)(Q:VK)(E:XK)(r:Result)(s':Shared):Prop:=
 match r with
 | .ok (.ret u)=>CE outer P w H s Q u s'
 | .ok _=>False
 | .error e=>CX outer H s E e s'
structure FnOk(P:Program)(w:World)(K:W.Frag)(mg:Str->Option Value)(base:Heap)(CX:yS)(k:Nat)(f:Addr)(fd:FuncData)(ps:List Str)(sp:Sp):Prop where
 len: ∀vs H Q E,sp vs H Q E->vs.length=ps.length
 run: ∀(A:Around) (outer:List Env) (s:Shared) (H:Hp) (args:Args) (us:List Value) (vs:List V) (Q:VK) (E:XK),Room k A->Env0 P w K mg base A outer s H->BindsTo s fd args (ps.zip us)->Vals vs us->sp vs H Q E->
  codeAny (model P w) A (.call (.ref f) args) (CR CX outer P w H s Q E) s
theorem FnOk.imp {P:Program}{w:World}{K:W.Frag}{mg:Str->Option Value}{base:Heap}{CX:yS}{k:Nat}{f:Addr}{fd:FuncData}{ps:List Str}{sp sp':Sp}(F:FnOk P w K mg base CX k f fd ps sp)
 (h: ∀vs H Q E,sp' vs H Q E->sp vs H Q E):FnOk P w K mg base CX k f fd ps sp':=
 ⟨λvs H Q E q=>F.len vs H Q E (h _ _ _ _ q),λA outer s H args us vs Q E hr he hb hv hs=>F.run A outer s H args us vs Q E hr he hb hv (h _ _ _ _ hs)⟩
section
variable {X:Cx}{ae:List (Addr×Obj)}{σ:St}{H:Hp}{s s':Shared}
theorem Inv.env0(I:Inv X ae σ H s):Env0 X.prog X.w X.K X.mg X.base X.A X.stack s H:=
 ⟨I.ok.frames,I.ok.mod,I.bs,Nat.le_trans I.ok.bsz I.sz,I.stack,I.stkFree,I.hok,I.bare⟩
theorem Inv.after {Q:VK}{u:Value}(I:Inv X ae σ H s)(h:CE X.stack X.prog X.w H s Q u s'):EP X ae σ Q u s':=by
 obtain⟨v,H',os,bare,un,hok,r,q⟩:=h
 obtain⟨hh,g,d,t,os'⟩:=s'
 obtain rfl:os'=s.os:=os
 exact⟨v,H',I.call (h':=hh) (g':=g) (d':=d) (t':=t) (ch:=[]) un hok bare (λb z=>absurd z (by simp)),r,q⟩
end
def Gz(sp:Sp)(dvs:List V)(E:XK)(t:TA):TE:=λσ H Q=>t σ H λvs H1=>sp (vs++dvs) H1 Q E
def Binds(K:W.Frag)(fd:FuncData)(ps:List Str)(ds:List Value):Prop:=
 ∀(s:Shared) (us:List Value),K.In s.heap->(us++ds).length=ps.length->BindsTo s fd ⟨us,[]⟩ (ps.zip (us++ds))
theorem Binds.all {K:W.Frag}{fd:FuncData}{ps:List Str}(h: ∀us:List Value,us.length=ps.length->bindArgs fd ⟨us,[]⟩=pure (ps.zip us)):Binds K fd ps []:=λs us _ hl=>by
 rw[List.append_nil] at hl⊢;exact .of_eq (h us hl)
def uh(CX:yS)(X:Cx)(E:XK):Prop:= ∀(ae:List (Addr×Obj)) (σ:St) (H:Hp) (s:Shared) (e:Value) (s':Shared),Inv X ae σ H s->CX X.stack H s E e s'->X.xe e s'
section
variable {X:Cx}{CX:yS}{k:Nat}{f C:Addr}{fd:FuncData}{ps:List Str}{sp:Sp}{dvs:List V}{ds:List Value}{E:XK}{x m:Str}{p pos apos:Pos}{e o:Expr}{es:List Expr}{ta:TE}{t:TA}
theorem Fg {ae:List (Addr×Obj)}{σ:St}{H:Hp}{s:Shared}{Q:VK}{us:List Value}{vs:List V}(F:FnOk X.prog X.w X.K X.mg X.base CX k f fd ps sp)(hr:Room k X.A)(hb:Binds X.K fd ps ds)(hd:Vals dvs ds)(hx:uh CX X E)
 (I:Inv X ae σ H s) (r:Vals vs us) (h:sp (vs++dvs) H Q E):wpAny (model X.prog X.w) X.A (call (.ref f) us) (EP X ae σ Q) X.xe s:=by
 have r2:Vals (vs++dvs) (us++ds):=r.append hd
 have hl:(us++ds).length=ps.length:=by rw[<-r2.length];exact F.len _ _ _ _ h
 refine wpAny_call (codeAny_mono (F.run X.A X.stack s H ⟨us,[]⟩ (us++ds) (vs++dvs) Q E hr I.env0 (hb s us I.kIn hl) r2 h) λr s' hq=>?_)
 cases r with
 |error e=>exact hx ae σ H s e s' I hq
 |ok fl=>
  cases fl with
  |ret u=>exact I.after hq
  |next=>exact False.elim hq
  |brk=>exact False.elim hq
  |cont=>exact False.elim hq
theorem qU(F:FnOk X.prog X.w X.K X.mg X.base CX k f fd ps sp)(hr:Room k X.A)(hg:Gl X x)(hm:X.mg x=some (.ref f))(hk:W.keepIn X.K (.ref f)=true)(hb:Binds X.K fd ps ds)(hd:Vals dvs ds)(hx:uh CX X E)
 (ha:PA X (e::es) t) (hdb:(x==("__debug__":Str))=false:=by decide) (he:starEach (e::es) X.env=(false,eval e X.env)::starEach es X.env:=by rfl) (hpl:(backTo pos (starEach es X.env)).any (·.1)=false:=by rfl):
 PE X (.Call (.Name x p) (e::es) [] pos) (Gz sp dvs E t):=by
 intro ae s σ H Q I h;refine wpAny_Call_Name_kw (CV I hg hm ?_ hdb)
 refine W.callWith_K (h₀:=X.base) I.ok.mod.kin hk (bD (ha pos ae s σ H _ I h) λus s1 ⟨vs,H1,I1,r,q⟩=>⟨I1.kIn,?_⟩) he hpl
 exact Fg F hr hb hd hx I1 r q
end
structure FnScope(N P:List Str)(sc:Scope):Prop where
 kind:sc.kind=.function
 co:sc.isCoroutine=false
 gen:sc.isGenerator=false
 nd:N.Nodup
 pre:N.take P.length=P
 par: ∀x∈P,sc.names.lookup x=some .local\/sc.names.lookup x=some .cell
 nofree: ∀y∈sc.names,y.2≠ .free
theorem pD {kindOf:Str->Option NameKind}{x:Str}: ∀ {binds:List (Str×Value)} {m:Str->Option Value},(∀v,(x,v)∉binds)->bindL kindOf binds m x=m x
 | [],_,_=>rfl
 |(n,v)::r,m,h=>by
  unfold bindL;rw[pD λw hw=>h w (List.mem_cons_of_mem _ hw)]
  split
  ·have:x≠n:=by rintro rfl;exact h v List.mem_cons_self
   simp[this]
  ·rfl
theorem p7 {kindOf:Str->Option NameKind}{x:Str}: ∀ {binds:List (Str×Value)} {m:Str->Option Value},(∀v,(x,v)∉binds)->bindC kindOf binds m x=m x
 | [],_,_=>rfl
 |(n,v)::r,m,h=>by
  unfold bindC;rw[p7 λw hw=>h w (List.mem_cons_of_mem _ hw)]
  split
  ·rfl
  ·have:x≠n:=by rintro rfl;exact h v List.mem_cons_self
   simp[this]
theorem pN {kindOf:Str->Option NameKind}{x:Str}{v:Value}: ∀ {P:List Str} {vs:List Value} {i:Nat} {m:Str->Option Value},P.Nodup->P[i]? =some x->vs[i]? =some v->kindOf x=some .local->
 bindL kindOf (P.zip vs) m x=some v
 | [],_,_,_,_,h,_,_=>by simp at h
 |_::_,[],_,_,_,_,h,_=>by simp at h
 |p::P,w::vs,0,m,nd,h1,h2,hk=>by
  simp at h1 h2;subst h1;subst h2;show bindL kindOf ((p,w)::P.zip vs) m p=_;unfold bindL;rw[pD λv hv=>(List.nodup_cons.mp nd).1 (List.of_mem_zip hv).1,if_pos hk]
  simp
 |p::P,w::vs,i+1,m,nd,h1,h2,hk=>by
  show bindL kindOf ((p,w)::P.zip vs) m x=_;unfold bindL;exact pN (i:=i) (List.nodup_cons.mp nd).2 (by simpa using h1) (by simpa using h2) hk
theorem p5 {kindOf:Str->Option NameKind}{x:Str}{v:Value}: ∀ {P:List Str} {vs:List Value} {i:Nat} {m:Str->Option Value},P.Nodup->P[i]? =some x->vs[i]? =some v->kindOf x≠some .local->
 bindC kindOf (P.zip vs) m x=some v
 | [],_,_,_,_,h,_,_=>by simp at h
 |_::_,[],_,_,_,_,h,_=>by simp at h
 |p::P,w::vs,0,m,nd,h1,h2,hk=>by
  simp at h1 h2;subst h1;subst h2;show bindC kindOf ((p,w)::P.zip vs) m p=_;unfold bindC;rw[p7 λv hv=>(List.nodup_cons.mp nd).1 (List.of_mem_zip hv).1,if_neg hk]
  simp
 |p::P,w::vs,i+1,m,nd,h1,h2,hk=>by
  show bindC kindOf ((p,w)::P.zip vs) m x=_;unfold bindC;exact p5 (i:=i) (List.nodup_cons.mp nd).2 (by simpa using h1) (by simpa using h2) hk
def start(N:List Str)(vs:List V):St:=vs.map some++List.replicate (N.length-vs.length) none
def o9(CX:yS)(P:Program)(w:World)(K:W.Frag)(mg:Str->Option Value)(base:Heap)(N:List Str)(qual:Str)(scope:Scope)(f:Addr)(cd:Value)(A:Around)(outer:List Env)(s:Shared)(H:Hp)(E:XK):Cx where
 prog:=P
 w:=w
 K:=K
 mg:=mg
 base:=base
 A:=A.deeper (envOfC qual scope s.heap.objs.size f cd)
 N:=N
 s₀:=s
 H₀:=H
 env:=envOfC qual scope s.heap.objs.size f cd
 outer:=outer
 stack:=envOfC qual scope s.heap.objs.size f cd::outer
 ex:=[]
 calm:=true
 fn:=λ_=>true
 pn:=[]
 xe:=λe s'=>wpAny (model P w) (A.deeper (envOfC qual scope s.heap.objs.size f cd)) (leaving (envOfC qual scope s.heap.objs.size f cd) e) (λ_ s''=>CX outer H s E e s'') (λe' s''=>CX outer H s E e' s'') s'
theorem sR {sc:Scope}{n:Nat}{x:Str}(h:sc.names.lookup x=some .cell): ∃c,(cellsFrom n sc.names []).lookup x=some c:=by
 have q:=W.cellsFrom_some sc.names n [] (.inl h)
 exact Option.isSome_iff_exists.mp q
theorem yb {CX:yS}{P:Program}{w:World}{K:W.Frag}{mg:Str->Option Value}{base:Heap}{N ps:List Str}{qual:Str}{scope:Scope}{f:Addr}{cd:Value}{A:Around}{outer:List Env}{s s1:Shared}{H:Hp}{E:XK}{us:List Value}{vs:List V}
 (S:FnScope N ps scope) (hd:A.handled=none) (e0:Env0 P w K mg base A outer s H) (hl:vs.length=ps.length) (r:Vals vs us)
 (x:InCallC s s.heap.objs.size (bindL (envOfC qual scope s.heap.objs.size f cd).kindOf (ps.zip us) λ_=>none) (cellsFrom (s.heap.objs.size+1) scope.names []) (bindC (envOfC qual scope s.heap.objs.size f cd).kindOf (ps.zip us) λ_=>none) s1):
 Inv (o9 CX P w K mg base N qual scope f cd A outer s H E) [] (start N vs) H s1:=by
 have hpl:ps.length<=N.length:=by have:=congrArg List.length S.pre;rw[List.length_take] at this;omega
 obtain⟨h1,tk,rfl,hk⟩:=x.done
 have noA: ∀b:Addr,b∉(o9 CX P w K mg base N qual scope f cd A outer s H E).ex:=λb z=>absurd (show b∈([]:List Addr) from z) (by simp)
 refine⟨⟨e0.mod,S.kind,rfl,rfl,Nat.le_refl _,λy z c h1 h2=>?_,λy hy=>?_,λy c _ h=>?_,λ_=>hd,Around.frames_deeper e0.frames,.inr ⟨rfl,rfl⟩,λb z=>absurd z (noA b),e0.bs,e0.bsz,λb _ _=>noA b,λb z=>absurd z (noA b),e0.funs,e0.frf⟩,
  rfl,e0.bare,Un.kept hk,⟨_,x.toInCall.ns,λi y v h1 h2 h3=>?_⟩,λy c h=>⟨_,x.cell y c h⟩,e0.hok.fresh (Nat.le_refl _),λy c h=>?_,λp hp=>absurd (show p∈([]:List (Addr×Obj)) from hp) (by simp),e0.hok.kept hk,?_⟩
 ·exact name_of_addr x.apart (PySem.mem_of_lookup h1) (PySem.mem_of_lookup h2)
 ·have hy:scope.names.lookup y=some .cell\/scope.names.lookup y=some .free:=hy
  rcases hy with hy|hy
  ·exact sR hy
  ·exact absurd rfl (S.nofree _ (PySem.mem_of_lookup hy))
 ·exact Nat.le_of_lt (x.above y c (PySem.mem_of_lookup h))
 ·have hi:i<vs.length:=by
   unfold start at h2
   by_cases hi:i<vs.length
   ·exact hi
   ·rw[List.getElem?_append_right (by simpa using hi)] at h2
    rw[List.getElem?_replicate] at h2;split at h2<;>cases h2
  have ha:vs[i]? =some v:=by
   unfold start at h2;rw[List.getElem?_append_left (by simpa using hi),List.getElem?_map] at h2
   cases e:vs[i]? with
   |none=>rw[e] at h2;cases h2
   |some a=>rw[e] at h2;cases h2;rfl
  obtain⟨u,hu,rv⟩:=r.get ha
  have hp:ps[i]? =some y:=by
   rw[<-S.pre,List.getElem?_take_of_lt (by omega)];exact h1
  have ndP:ps.Nodup:=by rw[<-S.pre];exact S.nd.sublist (List.take_sublist _ _)
  refine⟨u,rv,?_⟩
  rcases S.par y (List.mem_of_getElem? hp) with k|k
  ·exact .inl ⟨k,pN ndP hp hu k⟩
  ·obtain⟨c,e⟩:=sR (n:=s.heap.objs.size+1) k
   refine .inr ⟨.inl k,c,e,?_⟩
   have q:=x.cell y c e
   rw[p5 ndP hp hu (by show scope.names.lookup y≠_;rw[k];decide)] at q
   exact q
 ·exact e0.hok.fresh (Nat.le_of_lt (x.above y c (PySem.mem_of_lookup h)))
 ·unfold start
  show _=N.length;rw[List.length_append,List.length_map,List.length_replicate];omega
theorem Fu {CX:yS}{P:Program}{w:World}{K:W.Frag}{mg:Str->Option Value}{base:Heap}{k:Nat}{f:Addr}{name qual:Str}{params:Arguments}{body:List Stmt}{scope:Scope}{dV kV doc pm cdv ct oc:Value}{an od:Option Addr}
 {osl:Array (Option Value)} {N ps:List Str} {sp:Sp} (lk:K.lookup f=some ⟨oc,od,.func (W.fnOf name qual params body scope dV kV doc pm an cdv ct),osl⟩) (hcd:W.codeIn K cdv qual=true) (S:FnScope N ps scope)
 (len: ∀vs H Q E,sp vs H Q E->vs.length=ps.length)
 (hbody: ∀(A:Around) (outer:List Env) (s:Shared) (H:Hp) (vs:List V) (Q:VK) (E:XK),Room k (A.deeper (envOfC qual scope s.heap.objs.size f cdv))->sp vs H Q E->
   ∃t,PSs (o9 CX P w K mg base N qual scope f cdv A outer s H E) body t/\t {nx:=λ_ H'=>Q .non H',rt:=Q} (start N vs) H):
 FnOk P w K mg base CX (k+1) f (W.fnOf name qual params body scope dV kV doc pm an cdv ct) ps sp:=by
 refine⟨len,λA outer s H args us vs Q E hr e0 hb r hsp=>?_⟩
 have hl:=len _ _ _ _ hsp
 have KX:K.In s.heap:=e0.mod.kin.keeps λb o e=>(e0.bs b o e).1
 have lim:s.heap.NoLimit:=e0.mod.nolimit.keeps λb o e=>(e0.bs b o e).1
 have hkind: ∀y∈ps.zip us,scope.names.lookup y.1=some .local\/(scope.names.lookup y.1=some .cell/\((cellsFrom (s.heap.objs.size+1) scope.names []).lookup y.1).isSome=true):=λ⟨n,v⟩ hy=>by
  rcases S.par n (List.of_mem_zip hy).1 with q|q
  ·exact .inl q
  ·exact .inr ⟨q,W.cellsFrom_some _ _ _ (.inl q)⟩
 refine codeAny_call_function hr.depth (KX _ _ lk) rfl S.co S.gen rfl (W.codeRec_of KX hcd) (hb _ _ _ _ ?_)
 refine wpAny_newFunctionEnv_cells S.kind hkind λenv he s1 x=>?_
 subst he;refine⟨lim.keeps x.toInCall.keep,codeAny_func ?_⟩
 obtain⟨t,ht,hq⟩:=hbody A outer s H vs Q E (hr.deeper _) hsp
 have I:Inv (o9 CX P w K mg base N qual scope f cdv A outer s H E) [] (start N vs) H s1:=yb S hr.hd e0 hl r x
 refine wpAny_mono (ht [] s1 (start N vs) H _ I hq) (λfl s' hs=>?_) λe s' hs=>hs
 have fin: ∀ {σ':St} {H':Hp} {v:V} {u:Value},Inv (o9 CX P w K mg base N qual scope f cdv A outer s H E) [] σ' H' s'->RelV v u->Q v H'->CE outer P w H s Q u s':=
  λ{σ' H' v u} J rv q=>⟨v,H',J.os,J.bare,J.base,J.hok,rv,q⟩
 cases fl with
 |ret u=>
  obtain⟨v,σ',H',J,rv,q⟩:=hs
  exact fin J rv q
 |next=>
  obtain⟨σ',H',J,q⟩:=hs
  exact fin (v:=V.non) (u:=Value.none) J rfl q
 |brk=>
  obtain⟨_,_,_,q⟩:=hs
  exact False.elim q
 |cont=>
  obtain⟨_,_,_,q⟩:=hs
  exact False.elim q
section
variable {X:Cx}{x:Str}{p pos:Pos}{e:Expr}{es:List Expr}{t:TA}{id T:String}{r:List V->Hp->VK->Prop}
def Gs(r:List V->Hp->VK->Prop)(t:TA):TE:=λσ H Q=>t σ H λvs H1=>r vs H1 Q
theorem lA(hc:dQ X (.builtin id) r)(hg:Gl X x)(hm:X.mg x=none)(hv:bootBuiltins x=some (.builtin id))(ha:PA X (e::es) t)(hn:x≠"__name__":=by decide)(hdb:(x==("__debug__":Str))=false:=by decide)
 (he:starEach (e::es) X.env=(false,eval e X.env)::starEach es X.env:=by rfl) (hpl:(backTo pos (starEach es X.env)).any (·.1)=false:=by rfl):PE X (.Call (.Name x p) (e::es) [] pos) (Gs r t):=by
 intro ae s σ H Q I h;refine wpAny_Call_Name_kw (mq I hg hm hv ?_ hn hdb)
 exact PyProof.Rows.callWith_builtin1 (bD (ha pos ae s σ H _ I h) λus s1 ⟨vs,H1,I1,r1,q1⟩=>hc ae s1 σ H1 vs us Q I1 r1 q1) he hpl
theorem ig(hc:dQ X (.type T) r)(hg:Gl X x)(hm:X.mg x=none)(hv:bootBuiltins x=some (.type T))(ha:PA X (e::es) t)(hn:x≠"__name__":=by decide)(hdb:(x==("__debug__":Str))=false:=by decide)
 (he:starEach (e::es) X.env=(false,eval e X.env)::starEach es X.env:=by rfl) (hpl:(backTo pos (starEach es X.env)).any (·.1)=false:=by rfl):PE X (.Call (.Name x p) (e::es) [] pos) (Gs r t):=by
 intro ae s σ H Q I h;refine wpAny_Call_Name_kw (mq I hg hm hv ?_ hn hdb)
 exact PyProof.Rows.callWith_type1 (bD (ha pos ae s σ H _ I h) λus s1 ⟨vs,H1,I1,r1,q1⟩=>hc ae s1 σ H1 vs us Q I1 r1 q1) he hpl
theorem uG(hc:dQ X (.type T) r)(hg:Gl X x)(hm:X.mg x=none)(hv:bootBuiltins x=some (.type T))(hn:x≠"__name__":=by decide)(hdb:(x==("__debug__":Str))=false:=by decide):
 PE X (.Call (.Name x p) [] [] pos) (Gs r GS):=by
 intro ae s σ H Q I h;refine wpAny_Call_Name_kw (mq I hg hm hv ?_ hn hdb)
 exact PyProof.Rows.callWith_type0 (hc ae s σ H [] [] Q I .nil h)
end
end L2
namespace HT
open PySem PyProof.Rows
section
variable {prog:Program}{w:World}{A:Around}{E:Value->Shared->Prop}{s:Shared}
theorem cat_tup {t b:Addr}{vs ws:List Value}{Q:Value->Shared->Prop}(ht:IsTup s.heap t vs.toArray)(hb:IsTup s.heap b ws.toArray)(hv:vs≠[])
 (h1:ws=[]->Q (.ref t) s) (h2:ws≠[]->Q (.ref s.heap.objs.size) {s with heap:=s.heap.push {cls:=.type "tuple",data:=.seq (vs++ws).toArray}})
 (hsz:vs.length+ws.length<=sizeLine):wpAny (model prog w) A (binaryOp .Add (.ref t) (.ref b)) Q E s:=by
 obtain⟨⟨cls,dd,data,sl⟩,ho,hc,n,hd⟩:=id ht
 obtain⟨⟨cls2,dd2,data2,sl2⟩,ho2,hc2,n2,hd2⟩:=id hb
 simp only at hc hd hc2 hd2;subst hc hd hc2 hd2;have e:vs.toArray++ws.toArray=(vs++ws).toArray:=by simp
 by_cases hw:ws=[]
 ·exact concat_meets ⟨_,ho,rfl⟩ ⟨_,ho2,rfl⟩ noFill_tuple_add seq_tuple_add PySem.F.slot_tuple_add PySem.F.entry_tuple_add (PySem.F.args_tuple_add_2 _ _)
   (tuple_addW1 t b vs.toArray ws.toArray n n2 dd dd2 sl sl2 (by simpa using hv) (by simp[hw])) ⟨ho,ho2,h1 hw⟩
 ·refine concat_meets ⟨_,ho,rfl⟩ ⟨_,ho2,rfl⟩ noFill_tuple_add seq_tuple_add PySem.F.slot_tuple_add PySem.F.entry_tuple_add (PySem.F.args_tuple_add_2 _ _)
   (tuple_addW2 t b vs.toArray ws.toArray n n2 dd dd2 sl sl2 (by simpa using hv) (by simpa using hw) (by rw[List.size_toArray,List.size_toArray];exact hsz)) ⟨ho,ho2,?_⟩
  rw[e];exact h2 hw
def sIx(n d:Nat):Option Int->Nat
 |none=>d
 |some v=>if v<0 then(v+(n:Int)).toNat else min v.toNat n
theorem sIx_none(n d:Nat):sIx n d none=d:=rfl
theorem sIx_nat(n d k:Nat):sIx n d (some (k:Int))=min k n:=by
 show(if(k:Int)<0 then((k:Int)+(n:Int)).toNat else min (k:Int).toNat n)=min k n
 rw[if_neg (by omega),Int.toNat_natCast]
theorem E7(n d:Nat)(hd:d<=n)(o:Option Int):sIx n d o<=n:=by
 cases o with
 |none=>exact hd
 |some v=>
  show(if v<0 then(v+(n:Int)).toNat else min v.toNat n)<=n
  by_cases hv:v<0
  ·rw[if_pos hv];omega
  ·rw[if_neg hv];exact Nat.min_le_right _ _
theorem vW(v:Int)(n d:Nat):(if v<0 then max (v+(n:Int)) 0 else min v (n:Int))=((sIx n d (some v):Nat):Int):=by
 show(if v<0 then max (v+(n:Int)) 0 else min v (n:Int))=(((if v<0 then(v+(n:Int)).toNat else min v.toNat n):Nat):Int)
 by_cases hv:v<0
 ·simp only[if_pos hv];omega
 ·simp only[if_neg hv];omega
theorem uY(lo hi:Option Int)(n:Nat):Builtin.Slice.sliceAdjust lo hi 1 (n:Int)=(((sIx n 0 lo:Nat):Int),((sIx n n hi:Nat):Int)):=by
 have h1: ¬((1:Int)<0):=by omega
 unfold Builtin.Slice.sliceAdjust;simp only[h1,if_false];refine Prod.ext ?_ ?_
 ·cases lo with
  |none=>rfl
  |some v=>exact vW v n 0
 ·cases hi with
  |none=>rfl
  |some v=>exact vW v n n
theorem ut(i j:Nat):Builtin.Slice.slicePlaces (i:Int) (j:Int) 1=j-i:=by
 unfold Builtin.Slice.slicePlaces;have h1:(1:Int)>0:=by omega
 simp only[h1,if_true,Int.ediv_one];split<;>omega
theorem oq {v:Value}{o:Option Int}{Q:Option Int->Shared->Prop}(p:IsPart v o)(h:Q o s):wpAny (model prog w) A (Builtin.Slice.slicePartIndex v) Q E s:=by
 cases p with
 |none=>exact slicePart_none h
 |int i t=>exact slicePart_int h
theorem me {sl:Addr}{vl vu:Value}{lo hi:Option Int}{n:Nat}{Q:Int×Int×Nat->Shared->Prop}(hs:s.heap.IsSliceOf sl vl vu .none)(pl:IsPart vl lo)(pu:IsPart vu hi)
 (h:Q (((sIx n 0 lo:Nat):Int),1,sIx n n hi-sIx n 0 lo) s):wpAny (model prog w) A (Builtin.Slice.sliceApplied (.ref sl) (pure (n:Int))) Q E s:=by
 obtain⟨os,hos,hcs,hds⟩:=id hs
 unfold Builtin.Slice.sliceApplied Builtin.Slice.sliceFields;refine wpAny_bind (wpAny_bind (wpAny_field hos hds (x:=vl) rfl (wpAny_bind (wpAny_field hos hds (x:=vu) rfl (wpAny_bind (wpAny_field hos hds (x:=.none) rfl (wpAny_pure ?_)))))))
 refine wpAny_bind (slicePart_none ?_)
 show wpAny _ _ (if((1:Int)==0)=true then _ else _) _ _ s
 rw[if_neg (by decide)]
 refine wpAny_bind (oq pl (wpAny_bind (oq pu (wpAny_bind (wpAny_pure ?_)))))
 show wpAny _ _ (match Builtin.Slice.sliceAdjust lo hi 1 (n:Int) with|(lo,hi)=>pure (lo,(1:Int),Builtin.Slice.slicePlaces lo hi 1)) _ _ s
 rw[uY lo hi n];show wpAny _ _ (pure (((sIx n 0 lo:Nat):Int),(1:Int),Builtin.Slice.slicePlaces ((sIx n 0 lo:Nat):Int) ((sIx n n hi:Nat):Int) 1)) _ _ s;rw[ut];exact wpAny_pure h
theorem yG(xs:Array Value)(i k:Nat):((List.range k).filterMap λ(m:Nat)=>xs[((i:Int)+(m:Int)*1).toNat]?).toArray=((xs.toList.drop i).take k).toArray:=by
 have e:(λ(m:Nat)=>xs[((i:Int)+(m:Int)*1).toNat]?)=λm=>xs[i+m]? :=by
  funext m;have:((i:Int)+(m:Int)*1).toNat=i+m:=by omega
  rw[this]
 rw[e];have:=pick_run xs i k
 rw[List.filterMap_map] at this;have e2:((λx=>xs[x]?)∘λx=>i+x)=λm=>xs[i+m]? :=rfl
 rw[e2] at this;rw[this]
theorem getItem_tuple_cut {t sl:Addr}{items:Array Value}{vl vu:Value}{lo hi:Option Int}{Q:Value->Shared->Prop}(ht:IsTup s.heap t items)(hs:s.heap.IsSliceOf sl vl vu .none)(pl:IsPart vl lo)(pu:IsPart vu hi)
 (hw: ¬(sIx items.size 0 lo=0/\sIx items.size items.size hi=items.size))
 (h:Q (.ref s.heap.objs.size) {s with heap:=s.heap.push {cls:=.type "tuple",data:=.seq ((items.toList.drop (sIx items.size 0 lo)).take (sIx items.size items.size hi-sIx items.size 0 lo)).toArray}})
 (hsz:items.size<=sizeLine):wpAny (model prog w) A (getItem (.ref t) (.ref sl)) Q E s:=by
 have htake:sizeOk (.seq ((items.toList.drop (sIx items.size 0 lo)).take (sIx items.size items.size hi-sIx items.size 0 lo)).toArray):=by
  show((items.toList.drop (sIx items.size 0 lo)).take (sIx items.size items.size hi-sIx items.size 0 lo)).toArray.size<=sizeLine;rw[List.size_toArray,List.length_take,List.length_drop,Array.length_toList];omega
 have hj:sIx items.size items.size hi<=items.size:=E7 _ _ (Nat.le_refl _) hi
 obtain⟨os,hos,hcs,hds⟩:=id hs
 have hTs:s.TypeIs (.ref sl) "slice":=⟨os,hos,hcs⟩
 unfold getItem
 try with_reducible refine wpAny_holding ?_
 first|refine wpAny_bind (wpAny_pure ?_)|skip
 refine wpAny_bind (wpAny_sequenceKey ht.typeIs (by decide) ?_)
 refine wpAny_bind (wpAny_callSpecial?_slot (name:=Str.ofString "__getitem__") ht.typeIs PyProof.Rows.slot_tuple_getitem
  (wpAny_call_entry PyProof.Rows.slot_tuple_getitem ht.typeIs entry_tuple_getitem ?_ (args_tuple_getitem _ _)))
 show wpAny _ _ (Builtin.Tuple.tupleItemsOf (.ref t)>>=_) _ _ s;refine wpAny_bind (tupleItemsOf_ ht ?_)
 refine wpAny_bind (wpAny_typeOf hTs ?_)
 rw[if_pos (by decide)]
 refine wpAny_bind (me hs pl pu ?_)
 have hno: ¬((((sIx items.size 0 lo:Nat):Int)==0&&(1:Int)==1&&(sIx items.size items.size hi-sIx items.size 0 lo)==items.size)=true):=by
  intro q;rw[Bool.and_eq_true,Bool.and_eq_true] at q;have q1:((sIx items.size 0 lo:Nat):Int)=0:=eq_of_beq q.1.1
  have q2:sIx items.size items.size hi-sIx items.size 0 lo=items.size:=eq_of_beq q.2
  exact hw ⟨by omega,by omega⟩
 show wpAny _ _ (if(((sIx items.size 0 lo:Nat):Int)==0&&(1:Int)==1&&(sIx items.size items.size hi-sIx items.size 0 lo)==items.size)=true then _ else _) _ _ s
 rw[if_neg hno,yG]
 first
  |exact wpAny_bind (m:=Builtin.Tuple.tupleExact _) (wpAny_newObj_type (wpAny_pure ⟨_,rfl,wpAny_pure h⟩) htake)
  |exact wpAny_bind (m:=Builtin.Tuple.tupleExact _) (wpAny_newObj_type (wpAny_bind (wpAny_pure (wpAny_pure ⟨_,rfl,wpAny_pure h⟩))) htake)
  |exact wpAny_bind (wpAny_bind (m:=Builtin.Tuple.tupleExact _) (wpAny_newObj_type (wpAny_pure (wpAny_pure ⟨_,rfl,wpAny_pure h⟩)) htake))
  |exact wpAny_bind (wpAny_bind (m:=Builtin.Tuple.tupleExact _) (wpAny_newObj_type (wpAny_pure ⟨_,rfl,wpAny_pure h⟩) htake))
end
end HT
namespace L2
open PySem PySem.Spec PyProof.Rows
abbrev TO:=St->Hp->(Option Int->Hp->Prop)->Prop
def PO(X:Cx)(e:Option Expr)(t:TO):Prop:=
 ∀(ae:List (Addr×Obj)) (s:Shared) (σ:St) (H:Hp) (Q:Option Int->Hp->Prop),Inv X ae σ H s->t σ H Q->
  wpAny (model X.prog X.w) X.A (evalPart e X.env) (λu s'=> ∃o H',Inv X ae σ H' s'/\IsPart u o/\Q o H') X.xe s
def Cr:TO:=λ_ H Q=>Q none H
def GD(t:TE):TO:=λσ H Q=>t σ H λx H1=> ∃i,x=.int i/\Q (some i) H1
section
variable {X:Cx}{e:Expr}{te:TE}{lo hi:Option Expr}{tl th:TO}{pos p2:Pos}
theorem CQ:PO X none Cr:=by
 intro ae s σ H Q I h;rw[evalPart_none];exact wpAny_pure ⟨none,H,I,.none,h⟩
theorem Bx(h:PE X e te):PO X (some e) (GD te):=by
 intro ae s σ H Q I hw;rw[evalPart_some];refine bD (h ae s σ H _ I hw) λu s1 hq_=>?_
 obtain⟨x,H1,I1,r1,q1⟩:=hq_
 obtain⟨i,rfl,q⟩:=q1
 obtain⟨t,rfl⟩:=r1
 exact⟨some i,H1,I1,.int i t,q⟩
def Ij(X:Cx)(r:V->Option Int->Option Int->Hp->VK->Prop):Prop:=
 ∀(ae:List (Addr×Obj)) (s:Shared) (σ:St) (H:Hp) (x:V) (v vl vu:Value) (lo hi:Option Int) (sl:Addr) (Q:VK),Inv X ae σ H s->RelV x v->s.heap.IsSliceOf sl vl vu .none->IsPart vl lo->IsPart vu hi->r x lo hi H Q->
  ∃T id,typeLookup (.type T) "__getitem__"=pure (some (.builtin id))/\s.TypeIs v T/\wpAny (model X.prog X.w) X.A (getItem v (.ref sl)) (EP X ae σ Q) X.xe s
def IP(r:V->Option Int->Option Int->Hp->VK->Prop)(te:TE)(tl th:TO):TE:=λσ H Q=>te σ H λx H1=>tl σ H1 λl H2=>th σ H2 λu H3=>r x l u H3 Q
theorem nC {r:V->Option Int->Option Int->Hp->VK->Prop}(hr:Ij X r)(he:PE X e te)(hl:PO X lo tl)(hu:PO X hi th):PE X (.Subscript e (.Slice lo hi none p2) pos) (IP r te tl th):=by
 intro ae s σ H Q I h;refine Subscript_ (bD (he ae s σ H _ I h) λv s1 hq_=>?_)
 obtain⟨x,H1,I1,r1,q1⟩:=hq_
 refine wpAny_Slice (bD (hl ae s1 σ H1 _ I1 q1) λvl s2 ⟨l,H2,I2,pl,q2⟩=>bD (hu ae s2 σ H2 _ I2 q2) λvu s3 hq_=>?_)
 obtain⟨u,H3,I3,pu,q3⟩:=hq_
 rw[evalPart_none];refine wpAny_pure ?_
 have I4:Inv X ae σ H3 {s3 with heap:=s3.heap.push {cls:=.type "slice",data:=.fields #[vl,vu,.none]}}:=I3.kept (t':=s3.toks) λb ob q=>Heap.get?_push_of_some _ q
 obtain⟨T,id,hT,ht,hg⟩:=hr ae {s3 with heap:=s3.heap.push {cls:=.type "slice",data:=.fields #[vl,vu,.none]}} σ H3 x v vl vu l u s3.heap.objs.size Q I4 r1 (Heap.IsSliceOf.new ..) pl pu q3
 show wpAny (model X.prog X.w) X.A (subscriptTail e (.Slice lo hi none p2) v (.ref s3.heap.objs.size)) (EP X ae σ Q) X.xe {s3 with heap:=s3.heap.push {cls:=.type "slice",data:=.fields #[vl,vu,.none]}}
 exact tail_any (ops:=[.ref s3.heap.objs.size,v]) ht hT hg (by with_unfolding_all rfl)
def sW(xs:List V)(lo hi:Option Int):List V:=(xs.drop (HT.sIx xs.length 0 lo)).take (HT.sIx xs.length xs.length hi-HT.sIx xs.length 0 lo)
theorem mP(xs:List V)(lo hi:Option Int):(sW xs lo hi).length<=xs.length:=by
 unfold sW;rw[List.length_take,List.length_drop];omega
def HI(K:W.Frag):V->Option Int->Option Int->Hp->VK->Prop:=λx lo hi H Q=> ∃a xs,x=.ref a/\SqT K H a xs/\
 ¬(HT.sIx xs.length 0 lo=0/\HT.sIx xs.length xs.length hi=xs.length)/\ ∀p,H p=none->Q (.ref p) (bN H p (.tup (sW xs lo hi)))
theorem EM:Ij X (HI X.K):=by
 intro ae s σ H x v vl vu lo hi sl Q I rx hs pl pu h;obtain⟨a,xs,rfl,hx,hw,q⟩:=h
 cases rx
 obtain⟨its,r,ht,hz⟩:=I.tuple hx
 have hlen:its.toArray.size=xs.length:=by rw[List.size_toArray];exact r.length.symm
 refine⟨"tuple",_,PyProof.Rows.slot_tuple_getitem.lookup,ht.typeIs,?_⟩
 refine HT.getItem_tuple_cut ht hs pl pu (by rw[hlen];exact hw) ?_ (by rw[hlen];exact hz)
 rw[hlen];refine⟨.ref s.heap.objs.size,_,I.laid (t':=s.toks) (o:=.tup (sW xs lo hi)) (λb ob q=>Heap.get?_push_of_some _ q) (Nat.le_refl _) ?_,rfl,q _ (I.hok.fresh (Nat.le_refl _))⟩
 exact⟨Nat.le_trans (mP xs lo hi) hz,_,(r.drop (HT.sIx xs.length 0 lo)).take (HT.sIx xs.length xs.length hi-HT.sIx xs.length 0 lo),IsTup.new _ _,_,Heap.get?_push_size _ rfl,rfl⟩
def GF(K:W.Frag):R2:=λx y H Q=> ∃a b xs ys,x=.ref a/\y=.ref b/\SqT K H a xs/\SqT K H b ys/\xs≠[]/\xs.length+ys.length<=sizeLine/\
 (ys=[]->Q (.ref a) H)/\(ys≠[]-> ∀p,H p=none->Q (.ref p) (bN H p (.tup (xs++ys))))
theorem Vals.nil_iff {xs:List V}{us:List Value}(r:Vals xs us):us=[]↔xs=[]:=by
 cases r with
 |nil=>simp
 |cons _ _=>simp
theorem CB:jK X (binaryOp .Add) (GF X.K):=by
 intro ae s σ H x y v u Q I rx ry h;obtain⟨a,b,xs,ys,rfl,rfl,ha,hb,hx,hz,q1,q2⟩:=h
 cases rx
 cases ry
 obtain⟨its,r1,p1,_⟩:=I.tuple ha
 obtain⟨its2,r2,p2,_⟩:=I.tuple hb
 refine HT.cat_tup p1 p2 (λz=>hx (r1.nil_iff.mp z)) (λz=>⟨.ref a,H,I,rfl,q1 (r2.nil_iff.mp z)⟩) (λz=>?_) (by rw[<-r1.length,<-r2.length];exact hz)
 refine⟨.ref s.heap.objs.size,_,I.laid (t':=s.toks) (o:=.tup (xs++ys)) (λb ob q=>Heap.get?_push_of_some _ q) (Nat.le_refl _) ?_,rfl,q2 (λw=>z (r2.nil_iff.mpr w)) _ (I.hok.fresh (Nat.le_refl _))⟩
 exact⟨by rw[List.length_append];exact hz,_,r1.append r2,IsTup.new _ _,_,Heap.get?_push_size _ rfl,rfl⟩
end
def uc(n:Nat)(i:Int):Option Nat:=if 0<=i then(if i<n then some i.toNat else none) else if -(n:Int)<=i then some (i+n).toNat else none
def rJ {α:Type}(xs:List α)(i:Int):Option α:=(uc xs.length i).bind λj=>xs[j]?
theorem qV {n:Nat}{i:Int}{j:Nat}(h:uc n i=some j):seqIndex? i n=some j/\j<n/\ -(n:Int)<=i/\i<n:=by
 unfold uc at h
 by_cases h0:0<=i
 ·rw[if_pos h0] at h
  by_cases h1:i<n
  ·rw[if_pos h1] at h
   have e:i.toNat=j:=Option.some.inj h
   exact⟨by rw[seqIndex_of h0 h1,e],by omega,by omega,h1⟩
  ·rw[if_neg h1] at h;cases h
 ·rw[if_neg h0] at h
  by_cases h1: -(n:Int)<=i
  ·rw[if_pos h1] at h
   have e:(i+n).toNat=j:=Option.some.inj h
   exact⟨by rw[seqIndex_neg (by omega) h1,e],by omega,h1,by omega⟩
  ·rw[if_neg h1] at h;cases h
theorem qI {α:Type}{xs:List α}{i:Int}{v:α}(h:rJ xs i=some v): ∃j,seqIndex? i xs.length=some j/\xs[j]? =some v/\j<xs.length/\ -(xs.length:Int)<=i/\i<xs.length:=by
 unfold rJ at h;cases e:uc xs.length i with
 |none=>rw[e] at h;cases h
 |some j=>
  rw[e] at h;obtain⟨h1,h2,h3,h4⟩:=qV e
  exact⟨j,h1,h,h2,h3,h4⟩
theorem qO {α:Type}{xs:List α}{j:Nat}{v:α}(h:xs[j]? =some v):rJ xs (j:Int)=some v:=by
 have hj:j<xs.length:=(List.getElem?_eq_some_iff.mp h).1
 have e:uc xs.length (j:Int)=some j:=by
  unfold uc;rw[if_pos (by omega),if_pos (by omega)];simp
 unfold rJ;rw[e];exact h
def qk(b:Expr):Prop:= ∀o i,subscripted b false o i=operate [o,i] (getItem o i)
def IxR(X:Cx)(r:R2):Prop:=
 ∀(value slice:Expr) (ae:List (Addr×Obj)) (s:Shared) (σ:St) (H:Hp) (x y:V) (v u:Value) (Q:VK),Inv X ae σ H s->RelV x v->RelV y u->r x y H Q->
  subscripted slice false v u=operate [v,u] (getItem v u)->wpAny (model X.prog X.w) X.A (subscriptTail value slice v u) (EP X ae σ Q) X.xe s
def Iu(X:Cx)(id:String)(r:V->List V->Hp->VK->Prop):Prop:=
 ∀(ae:List (Addr×Obj)) (s:Shared) (σ:St) (H:Hp) (x:V) (xs:List V) (v:Value) (us:List Value) (Q:VK),Inv X ae σ H s->RelV x v->Vals xs us->r x xs H Q->
  wpAny (model X.prog X.w) X.A (call (.builtin id) (v::us)) (EP X ae σ Q) X.xe s
section
variable {X:Cx}{a b:Expr}{ta tb:TE}{pos:Pos}
theorem IxR.or {r r':R2}(h:IxR X r)(h':IxR X r'):IxR X (λx y H Q=>r x y H Q\/r' x y H Q):=by
 intro value slice ae s σ H x y v u Q I rx ry q hs;rcases q with q|q
 ·exact h value slice ae s σ H x y v u Q I rx ry q hs
 ·exact h' value slice ae s σ H x y v u Q I rx ry q hs
theorem Dk {r:R2}(hr:IxR X r)(ha:PE X a ta)(hb:PE X b tb)(hs:qk b):PE X (.Subscript a b pos) (Fk r ta tb):=by
 intro ae s σ H Q I h;exact Subscript_ (ED ha hb I h λv u s2 x y H2 I2 rx ry q=>hr a b ae s2 σ H2 x y v u Q I2 rx ry q (hs _ _))
def FX(K:W.Frag):R2:=λx y H Q=> ∃p xs i v,x=.ref p/\y=.int i/\SqL K H p xs/\rJ xs i=some v/\Q v H
def Fw(K:W.Frag):R2:=λx y H Q=> ∃p xs i v,x=.ref p/\y=.int i/\SqT K H p xs/\rJ xs i=some v/\Q v H
def FK:R2:=λx y H Q=> ∃z i c,x=.str z/\y=.int i/\z.length<=sizeLine/\rJ z.cps.toList i=some c/\Q (.str ⟨#[c]⟩) H
theorem ix_list:IxR X (FX X.K):=by
 intro value slice ae s σ H x y v u Q I rx ry h hs;obtain⟨p,xs,i,z,rfl,rfl,hq,he,q⟩:=h
 cases rx
 obtain⟨t,rfl⟩:=ry
 obtain⟨its,r,pl,hz⟩:=I.list hq
 obtain⟨j,h1,h2,h3,h4,h5⟩:=qI he
 obtain⟨w,ew,rw'⟩:=r.get h2
 have hl:=r.length
 have hn:=kG
 have fin:EP X ae σ Q w s:=⟨z,H,I,rw',q⟩
 by_cases h0:0<=i
 ·have hj:i.toNat=j:=by
   rw[seqIndex_of h0 h5] at h1;exact Option.some.inj h1
  exact item_listR pl.isList h0 (by omega) (by rw[hj];simpa using ew) fin hs
 ·have hj:(i+(its.toArray.size:Int)).toNat=j:=by
   rw[seqIndex_neg (by omega) h4] at h1
   rw[List.size_toArray,<-hl];exact Option.some.inj h1
  exact subscriptTail_builtinR (x:=w) pl.isList.typeIs slot_list_getitem.lookup
   (wpAny_getItem_list_neg (Q:=λr s'=>r=w/\EP X ae σ Q r s') pl.isList (by omega) (by rw[List.size_toArray]<;>omega) (by omega) (by rw[hj];simpa using ew) ⟨rfl,fin⟩) hs
theorem ix_tup:IxR X (Fw X.K):=by
 intro value slice ae s σ H x y v u Q I rx ry h hs;obtain⟨p,xs,i,z,rfl,rfl,hq,he,q⟩:=h
 cases rx
 obtain⟨t,rfl⟩:=ry
 obtain⟨its,r,pl,hz⟩:=I.tuple hq
 obtain⟨j,h1,h2,h3,h4,h5⟩:=qI he
 obtain⟨w,ew,rw'⟩:=r.get h2
 have hl:=r.length
 have hn:=kG
 have fin:EP X ae σ Q w s:=⟨z,H,I,rw',q⟩
 exact subscriptTail_builtinR (x:=w) pl.typeIs slot_tuple_getitem.lookup
  (getItem_tuple (j:=j) (Q:=λr s'=>r=w/\EP X ae σ Q r s') pl (by omega) (by omega) (by rw[List.size_toArray,<-hl];exact h1) (by simpa using ew) ⟨rfl,fin⟩) hs
theorem Du:IxR X FK:=by
 intro value slice ae s σ H x y v u Q I rx ry h hs;obtain⟨z,i,c,rfl,rfl,hz,he,q⟩:=h
 obtain⟨t,rfl⟩:=rx
 obtain⟨t',rfl⟩:=ry
 obtain⟨j,h1,h2,h3,h4,h5⟩:=qI he
 have hl:z.cps.toList.length=z.length:=by simp[Str.length]
 rw[hl] at h1 h4 h5;have hn:=kG
 exact tail_any (typeIs_str s z t) slot_str_getitem.lookup (getItem_str (c:=c) (by
  have e1:decide (i< -(2^63:Int))=false:=decide_eq_false (by omega)
  have e2:decide (i≥2^63)=false:=decide_eq_false (by omega)
  rw[e1,e2,Bool.or_false]) (by rw[h1];simpa using h2) ⟨.str ⟨#[c]⟩,H,I.tok _,⟨_,rfl⟩,q⟩) hs
def IG(K:W.Frag):R2:=λx y H Q=>FX K x y H Q\/Fw K x y H Q\/FK x y H Q
theorem aD:IxR X (IG X.K):=ix_list.or (ix_tup.or Du)
theorem uI(its:List Value)(n j:Nat)(u:Value):Obj.mapSeq (·.setIfInBounds j u) {cls:=.type "list",data:=.seq its.toArray n}={cls:=.type "list",data:=.seq (its.set j u).toArray n}:=by
 simp[Obj.mapSeq]
theorem Inv.lst {ae:List (Addr×Obj)}{σ:St}{H:Hp}{s:Shared}{p:Addr}{xs:List V}(I:Inv X ae σ H s)(h:H p=some (.lst xs)):
 ∃(its:List Value) (n:Nat),Vals xs its/\s.heap.get? p=some {cls:=.type "list",data:=.seq its.toArray n}/\xs.length<=sizeLine:=by
 obtain⟨z,its,n,r,e⟩:=I.hok p _ h
 exact⟨its,n,r,e,z⟩
theorem Inv.lstUpd {ae:List (Addr×Obj)}{σ:St}{H:Hp}{s:Shared}{p:Addr}{xs ys:List V}{its its':List Value}{n n':Nat}{f:Obj->Obj}(I:Inv X ae σ H s)(h:H p=some (.lst xs))
 (ho:s.heap.get? p=some {cls:=.type "list",data:=.seq its.toArray n}) (hf:f {cls:=.type "list",data:=.seq its.toArray n}={cls:=.type "list",data:=.seq its'.toArray n'}) (r:Vals ys its') (hz:ys.length<=sizeLine) (t:Nat):
 Inv X ae σ (bN H p (.lst ys)) {s with heap:=s.heap.update p f,toks:=t}:=by
 have e:(s.heap.update p f).get? p=some {cls:=.type "list",data:=.seq its'.toArray n'}:=by
  rw[Heap.get?_update_self f ho (by rw[hf]<;>rfl),hf]
 refine I.write (x:=p) (e:=p) (by rw[h];trivial) (.inl rfl) (λb u hb q=>(Heap.get?_update_other _ _ (Ne.symm hb)).trans q) ⟨_,e⟩ ?_
 exact⟨hz,its',n',r,e⟩
def Gc:V->V->V->Hp->(Hp->Prop)->Prop:=λo i v H Q=> ∃p xs k j,o=.ref p/\i=.int k/\H p=some (.lst xs)/\uc xs.length k=some j/\Q (bN H p (.lst (xs.set j v)))
theorem Ay:Gj X Gc:=by
 intro ae s σ H o i v ov iv u Q I ro ri rv h;obtain⟨p,xs,k,j,rfl,rfl,hp,hj,q⟩:=h
 cases ro
 obtain⟨t,rfl⟩:=ri
 obtain⟨its,n,r,ho,hz⟩:=I.lst hp
 obtain⟨h1,h2,h3,h4⟩:=qV hj
 have hl:=r.length
 have hn:=kG
 have I':Inv X ae σ (bN H p (.lst (xs.set j v))) {s with heap:=s.heap.update p (Obj.mapSeq (·.setIfInBounds j u))}:=
  I.lstUpd hp ho (uI its n j u) (r.set rv j) (by rw[List.length_set];exact hz) s.toks
 by_cases h0:0<=k
 ·have hk:k.toNat=j:=by
   rw[seqIndex_of h0 h4] at h1;exact Option.some.inj h1
  exact W.ki_setAt ho h0 (by omega) (by rw[List.size_toArray,<-hl];exact h4) (by rw[hk];exact⟨_,I',q⟩)
 ·have hk:(k+(its.toArray.size:Int)).toNat=j:=by
   rw[seqIndex_neg (by omega) h3] at h1
   rw[List.size_toArray,<-hl];exact Option.some.inj h1
  exact W.ki_setBack ho (by omega) (by rw[List.size_toArray,<-hl];exact h3) (by omega) (by rw[hk];exact⟨_,I',q⟩)
theorem qr(lo hi:Option Int)(n:Nat):(sliceBounds lo hi none n).1=((HT.sIx n 0 lo:Nat):Int)/\(sliceBounds lo hi none n).2.1=((HT.sIx n n hi:Nat):Int)/\(sliceBounds lo hi none n).2.2=1:=by
 refine⟨?_,?_,rfl⟩
 ·cases lo with
  |none=>simp[sliceBounds,HT.sIx]
  |some i=>
   simp only[sliceBounds,HT.sIx,Option.getD_none,show(1:Int)>0 by decide,if_true]
   by_cases h:i<0
   ·simp only[h,if_true]<;>omega
   ·simp only[h,if_false]<;>omega
 ·cases hi with
  |none=>simp[sliceBounds,HT.sIx]
  |some i=>
   simp only[sliceBounds,HT.sIx,Option.getD_none,show(1:Int)>0 by decide,if_true]
   by_cases h:i<0
   ·simp only[h,if_true]<;>omega
   ·simp only[h,if_false]<;>omega
theorem oU(its:List Value)(lo hi:Option Int):slicePick its.toArray lo hi none=((its.drop (HT.sIx its.length 0 lo)).take (HT.sIx its.length its.length hi-HT.sIx its.length 0 lo)).toArray:=by
 obtain⟨h1,h2,h3⟩:=qr lo hi its.toArray.size
 unfold slicePick;rw[h1,h2,h3];simp only[sliceRange_one,pick_run,List.size_toArray]<;>rfl
def Ih(K:W.Frag):V->Option Int->Option Int->Hp->VK->Prop:=λx lo hi H Q=> ∃a xs,x=.ref a/\SqL K H a xs/\ ∀p,H p=none->Q (.ref p) (bN H p (.lst (sW xs lo hi)))
theorem vV:Ij X (Ih X.K):=by
 intro ae s σ H x v vl vu lo hi sl Q I rx hs pl pu h;obtain⟨a,xs,rfl,hx,q⟩:=h
 cases rx
 obtain⟨its,r,ht,hz⟩:=I.list hx
 have hlen:=r.length
 refine⟨"list",_,slot_list_getitem.lookup,ht.isList.typeIs,?_⟩
 refine wpAny_getItem_list_slice ht.isList hs pl pu .none (by simp) ?_ (by rw[List.size_toArray]<;>omega)
 rw[oU,<-hlen];refine⟨.ref s.heap.objs.size,_,I.laid (t':=s.toks) (o:=.lst (sW xs lo hi)) (λb ob q=>Heap.get?_push_of_some _ q) (Nat.le_refl _) ?_,rfl,q _ (I.hok.fresh (Nat.le_refl _))⟩
 exact⟨Nat.le_trans (mP xs lo hi) hz,_,0,(r.drop (HT.sIx xs.length 0 lo)).take (HT.sIx xs.length xs.length hi-HT.sIx xs.length 0 lo),Heap.get?_push_size _ rfl⟩
theorem bz:dQ X (.builtin "len") (λxs H Q=> ∃p ys,xs=[.ref p]/\(SqL X.K H p ys\/SqT X.K H p ys)/\Q (.int ys.length) H):=by
 intro ae s σ H xs us Q I r h;obtain⟨p,ys,rfl,hq,q⟩:=h
 obtain⟨u,rfl,rx⟩:=kh r
 cases rx
 have hn:=kG
 rcases hq with hq|hq
 ·obtain⟨its,r',pl,hz⟩:=I.list hq
  have hlen:=r'.length
  exact Calls.call_len_list pl.isList (by simp only[List.size_toArray]<;>omega) ⟨.int ys.length,H,I.tok _,⟨s.toks+1,by rw[List.size_toArray,hlen]⟩,q⟩
 ·obtain⟨its,r',pl,hz⟩:=I.tuple hq
  have hlen:=r'.length
  exact len_tuple pl (by simp only[List.size_toArray]<;>omega) ⟨.int ys.length,H,I.tok _,⟨s.toks+1,by rw[List.size_toArray,hlen]⟩,q⟩
theorem iU:dQ X (.type "list") (λxs H Q=> ∃p ys,xs=[.ref p]/\(SqL X.K H p ys\/SqT X.K H p ys)/\ ∀l,H l=none->Q (.ref l) (bN H l (.lst ys))):=by
 intro ae s σ H xs us Q I r h;obtain⟨p,ys,rfl,hq,q⟩:=h
 obtain⟨u,rfl,rx⟩:=kh r
 cases rx
 have fin: ∀(its:List Value),Vals ys its->ys.length<=sizeLine-> ∀(h':Heap) (c':Nat),(∀b o',s.heap.get? b=some o'->h'.get? b=some o')->
  h'.get? s.heap.objs.size=some {cls:=.type "list",dict:=none,data:=.seq its.toArray c',slots:= #[]}->EP X ae σ Q (.ref s.heap.objs.size) {s with heap:=h'}:=λits r' hz h' c' kp e=>
  ⟨.ref s.heap.objs.size,_,I.laid (t':=s.toks) kp (Nat.le_refl _) (show ObjOk X.prog X.w _ h' _ (.lst ys) from⟨hz,its,c',r',e⟩),rfl,q _ (I.hok.fresh (Nat.le_refl _))⟩
 rcases hq with hq|hq
 ·obtain⟨its,r',pl,hz⟩:=I.list hq
  have hlen:=r'.length
  obtain⟨o,ho,hc,n,hd⟩:=pl.isList
  exact call_list_seq p (.inl rfl) ho hc hd (λh' c' kp e=>fin its r' hz h' c' kp e) (by simp only[List.size_toArray]<;>omega)
 ·obtain⟨its,r',pl,hz⟩:=I.tuple hq
  have hlen:=r'.length
  obtain⟨o,ho,hc,n,hd⟩:=pl
  exact call_list_seq p (.inr rfl) ho hc hd (λh' c' kp e=>fin its r' hz h' c' kp e) (by simp only[List.size_toArray]<;>omega)
theorem cR:dQ X (.type "tuple") (λxs H Q=> ∃p ys,xs=[.ref p]/\((SqL X.K H p ys/\ ∀l,H l=none->Q (.ref l) (bN H l (.tup ys)))\/(SqT X.K H p ys/\Q (.ref p) H))):=by
 intro ae s σ H xs us Q I r h;obtain⟨p,ys,rfl,h⟩:=h
 obtain⟨u,rfl,rx⟩:=kh r
 cases rx
 rcases h with⟨hq,q⟩|⟨hq,q⟩
 ·obtain⟨its,r',pl,hz⟩:=I.list hq
  have hlen:=r'.length
  refine call_tuple_list pl.isList (λh' kp=>?_) (by simp only[List.size_toArray]<;>omega)
  have I1:Inv X ae σ H {s with heap:=h'}:=I.kept (t':=s.toks) kp
  have I2:Inv X ae σ (bN H h'.objs.size (.tup ys)) {s with heap:=h'.push {cls:=.type "tuple",data:=.seq its.toArray}}:=
   I1.laid (t':=s.toks) (λb o e=>Heap.get?_push_of_some _ e) (Nat.le_refl _) (show ObjOk X.prog X.w _ _ _ (.tup ys) from⟨hz,its,r',IsTup.new _ _,_,Heap.get?_push_size _ rfl,rfl⟩)
  exact⟨.ref h'.objs.size,_,I2,rfl,q _ (I1.hok.fresh (Nat.le_refl _))⟩
 ·obtain⟨its,r',pl,hz⟩:=I.tuple hq
  exact call_tuple_same pl ⟨.ref p,H,I,rfl,q⟩
def IJ(K:W.Frag)(T:String)(x:V)(H:Hp):Prop:=match x with
 | .str _=>T="str"
 | .int _=>T="int"
 | .ref p=>(T="list"/\ ∃xs,SqL K H p xs)\/(T="tuple"/\ ∃xs,SqT K H p xs)\/
    (T="dict"/\((∃kvs,H p=some (.dK kvs))\/ ∃kvs,H p=some (.dT kvs)))\/(T="set"/\ ∃S n,H p=some (.set S n))\/(T="set"/\ ∃xs,H p=some (.tst xs))
 |_=>False
theorem Ex {ae:List (Addr×Obj)}{σ:St}{H:Hp}{s:Shared}{T:String}{x:V}{v:Value}(I:Inv X ae σ H s)(r:RelV x v)(ty:IJ X.K T x H):
 s.TypeIs v T/\ ∀a,v=.ref a-> ∃ob,s.heap.get? a=some ob/\ob.dict=none:=by
 cases x with
 |str z=>
  obtain⟨t,rfl⟩:=r
  cases (show T="str" from ty)
  exact⟨typeIs_str s z t,λ_ e=>nomatch e⟩
 |int i=>
  obtain⟨t,rfl⟩:=r
  cases (show T="int" from ty)
  exact⟨typeIs_int s i t,λ_ e=>nomatch e⟩
 |ref p=>
  cases r
  rcases ty with⟨rfl,xs,hq⟩|⟨rfl,xs,hq⟩|⟨rfl,hk⟩|⟨rfl,S,n,hk⟩|⟨rfl,xs,hk⟩
  ·obtain⟨its,_,pl,_⟩:=I.list hq
   refine⟨pl.isList.typeIs,λa e=>?_⟩
   cases e
   obtain⟨o,n,e,c,hd,_⟩:=pl
   exact⟨o,e,hd⟩
  ·obtain⟨⟨ob,ho,hc⟩,o2,h2,hd⟩:=I.tupleN hq
   refine⟨⟨ob,ho,hc⟩,λa e=>?_⟩
   cases e
   exact⟨o2,h2,hd⟩
  ·have z: ∃o,s.heap.get? p=some o/\o.ExactDict:=by
    rcases hk with⟨kvs,hk⟩|⟨kvs,hk⟩
    ·obtain⟨_,_,_,_,o,_,_,e,ex,_⟩:=I.hok p _ hk
     exact⟨o,e,ex⟩
    ·obtain⟨_,_,_,_,o,_,_,e,ex,_⟩:=I.hok p _ hk
     exact⟨o,e,ex⟩
   obtain⟨o,e,ex⟩:=z
   refine⟨⟨o,e,ex.1⟩,λa e2=>?_⟩
   cases e2
   exact⟨o,e,ex.2.1⟩
  ·obtain⟨o,_,_,_,e,ex,_⟩:=I.hok p _ hk
   refine⟨⟨o,e,ex.1⟩,λa e2=>?_⟩
   cases e2
   exact⟨o,e,ex.2.1⟩
  ·obtain⟨o,_,_,_,e,ex⟩:=I.hok p _ hk
   refine⟨⟨o,e,ex.ex.1⟩,λa e2=>?_⟩
   cases e2
   exact⟨o,e,ex.ex.2.1⟩
 |_=>exact False.elim ty
def IU(K:W.Frag)(T:String)(r:V->List V->Hp->VK->Prop)(to:TE)(t:TA):TE:=λσ H Q=>to σ H λx H1=>IJ K T x H1/\t σ H1 λxs H2=>r x xs H2 Q
variable {o e:Expr}{es:List Expr}{to:TE}{t:TA}{name:Str}{apos cpos:Pos}{T id:String}{r:V->List V->Hp->VK->Prop}
theorem zZ(pa:PlainAttrs T)(slot:Slot T name id)(hty:typeOf (.builtin id)=pure (.type "method_descriptor"))(hm:Iu X id r)(ho:PE X o to)(ha:PA X (e::es) t)
 (hbase:attributeBase o name X.env (eval o X.env)=eval o X.env:=by rfl)
 (hfew:((backTo cpos (starEach (e::es) X.env)).all (λx=> !x.1)&&(backToKw cpos (keywordEach [] X.env)).all (λx=>x.1.isSome)
   &&decide ((e::es).length+([]:List Keyword).length+(if([]:List Keyword).isEmpty then 0 else 1)<30))=true:=by rfl)
 (hline:(apos.endLine==cpos.line)=true:=by rfl) (hs:starEach (e::es) X.env=(false,eval e X.env)::starEach es X.env:=by rfl) (hplain:(backTo cpos (starEach es X.env)).any (·.1)=false:=by rfl):
 PE X (.Call (.Attribute o name apos) (e::es) [] cpos) (IU X.K T r to t):=by
 intro ae s σ H Q I h;refine wpAny_Call_method_late hbase hfew hline rfl (bD (ho ae s σ H _ I h) λv s1 hq_=>?_)
 obtain⟨x,H1,I1,r1,ty,q1⟩:=hq_
 obtain⟨h1,h2⟩:=Ex I1 r1 ty
 refine⟨T,id,pa,slot,hty,h1,h2,?_⟩
 have hA:=ha cpos ae s1 σ H1 _ I1 q1
 rw[hs] at hA⊢;refine Calls.callWith_builtin (by show(false||(backTo cpos (starEach es X.env)).any (·.1))=false;rw[hplain]<;>rfl) (Calls.evalArgs_plain ?_)
 exact bD hA λus s2 ⟨vs,H2,I2,r2,q2⟩=>hm ae s2 σ H2 x vs v us Q I2 r1 r2 q2
end
def Iq(X:Cx)(id:String)(r:V->List V->Hp->VK->Prop):Prop:=
 ∀(ae:List (Addr×Obj)) (s:Shared) (σ:St) (H:Hp) (x:V) (xs:List V) (v:Value) (us:List Value) (Q:VK),Inv X ae σ H s->RelV x v->Vals xs us->r x xs H Q->
  wpAny (model X.prog X.w) X.A (call (.builtin id) (v::us)) (EP X ae σ Q) X.xe s
theorem Vals.one: ∀ {x:V} {us:List Value},Vals [x] us-> ∃u,us=[u]/\RelV x u
 |_,_,.cons r .nil=>⟨_,rfl,r⟩
theorem Vals.eraseIdx: ∀ {xs:List V} {us:List Value} (i:Nat),Vals xs us->Vals (xs.eraseIdx i) (us.eraseIdx i)
 |_,_,_,.nil=>.nil
 |_,_,0,.cons _ t=>t
 |_,_,i+1,.cons r t=>.cons r (Vals.eraseIdx i t)
theorem pJ {α:Type}: ∀(l:List α) (i:Nat),(l.eraseIdx i).length<=l.length
 | [],_=>Nat.le_refl _
 |_::_,0=>Nat.le_succ _
 |_::r,i+1=>Nat.succ_le_succ (pJ r i)
section
variable {X:Cx}{ae:List (Addr×Obj)}{σ:St}{H:Hp}{s:Shared}{l b:Addr}{xs ys zs:List V}
theorem Inv.lset {its its':List Value}{n:Nat}{f:Array Value->Array Value}{t':Nat}(I:Inv X ae σ H s)(hH:H l=some (.lst xs))
 (e:s.heap.get? l=some {cls:=.type "list",data:=.seq its.toArray n}) (hf:f its.toArray=its'.toArray) (hv:Vals ys its') (hz:ys.length<=sizeLine):
 Inv X ae σ (bN H l (.lst ys)) {s with heap:=s.heap.update l (Obj.mapSeq f),toks:=t'}:=by
 have q:=PySem.IsL.update e f
 rw[hf] at q;refine I.write (x:=l) (e:=l) (by rw[hH];exact trivial) (.inl rfl) (λb' u hb hu=>(Heap.get?_update_other s.heap (Obj.mapSeq f) (Ne.symm hb)).trans hu) ⟨_,q⟩ ?_
 exact⟨hz,its',_,hv,q⟩
theorem Inv.lnew {its:List Value}{t':Nat}(I:Inv X ae σ H s)(hv:Vals ys its)(hz:ys.length<=sizeLine):
 Inv X ae σ (bN H s.heap.objs.size (.lst ys)) {s with heap:=s.heap.push {cls:=.type "list",data:=.seq its.toArray},toks:=t'}:=
 I.laid (λ_ _ q=>Heap.get?_push_of_some _ q) (Nat.le_refl _) ⟨hz,its,0,hv,Heap.get?_push_size _ rfl⟩
theorem Inv.fresh(I:Inv X ae σ H s):H s.heap.objs.size=none:=I.hok.fresh (Nat.le_refl _)
theorem Inv.lstM(I:Inv X ae σ H s)(hH:H l=some (.lst xs)):xs.length<=sizeLine/\ ∃(its:List Value) (n:Nat),Vals xs its/\xs.length=its.length/\s.heap.get? l=some {cls:=.type "list",data:=.seq its.toArray n}:=by
 obtain⟨z,its,n,r,e⟩:=I.hok l _ hH
 exact⟨z,its,n,r,r.length,e⟩
end
section
variable {X:Cx}
def vG:V->List V->Hp->VK->Prop:=λx vs H Q=> ∃l xs y,x=.ref l/\vs=[y]/\H l=some (.lst xs)/\xs.length<sizeLine/\Q .non (bN H l (.lst (xs++[y])))
theorem dH:Iq X "list.append" vG:=by
 intro ae s σ H x vs v us Q I rx rv h;obtain⟨l,xs,y,rfl,rfl,hH,hz,q⟩:=h
 cases rx
 obtain⟨u,rfl,ru⟩:=rv.one
 obtain⟨z,its,n,r,hl,e⟩:=I.lstM hH
 refine call_meets F.slot_list_append ⟨_,e,rfl⟩ F.entry_list_append (F.args_list_append_2 _ _) (PySem.list_append l its.toArray n u (by rw[List.size_toArray];omega)) ⟨e,?_⟩
 refine⟨.non,_,I.lset (its':=its++[u]) hH e (by simp) (r.append (.cons ru .nil)) ?_,rfl,q⟩
 rw[List.length_append,List.length_singleton];omega
def yK:V->List V->Hp->VK->Prop:=λx vs H Q=> ∃l xs i k y,x=.ref l/\vs=[.int i]/\H l=some (.lst xs)/\ -(2^63)<=i/\i<2^63/\seqIndex? i xs.length=some k/\xs[k]? =some y/\Q y (bN H l (.lst (xs.eraseIdx k)))
theorem Ae:Iq X "list.pop" yK:=by
 intro ae s σ H x vs v us Q I rx rv h;obtain⟨l,xs,i,k,y,rfl,rfl,hH,h1,h2,hk,hy,q⟩:=h
 cases rx
 obtain⟨u,rfl,ru⟩:=rv.one
 obtain⟨t,rfl⟩:=ru
 obtain⟨z,its,n,r,hl,e⟩:=I.lstM hH
 obtain⟨w,hw,rw'⟩:=r.get hy
 refine call_meets F.slot_list_pop ⟨_,e,rfl⟩ F.entry_list_pop (F.args_list_pop_2 _ _)
  (MeetsSeq.list_pop_at l its.toArray n i t k w (fitsIndex_both h1 h2) (by rw[List.size_toArray,<-hl];exact hk) (by rw[<-Array.getElem?_toList];exact hw) (by rw[List.size_toArray];omega)) ⟨e,?_⟩
 refine⟨y,_,I.lset (its':=its.eraseIdx k) hH e ?_ (r.eraseIdx k) ?_,rw',q⟩
 ·show its.toArray.eraseIdxIfInBounds k=(its.eraseIdx k).toArray
  rw[List.eraseIdxIfInBounds_toArray]
 ·have:=pJ xs k
  omega
end
end L2
namespace Att
open PySem PySem.W PySem.Calls PyProof.Rows
theorem ng {P:Params}{h:Heap}: ∀(ns:List Int) (vs:List Value),WellAll P h vs (ns.map WData.int)->IntsAre vs ns:=by
 intro ns
 induction ns with
 |nil=>
  intro vs w;rw[List.map_nil] at w;cases w
  exact .nil
 |cons n ns ih=>
  intro vs w;rw[List.map_cons] at w;cases w with
  |cons a b=>
   cases a
   exact .cons _ _ (ih _ b)
theorem xY {l:OpenLaw}{n:Nat}(hn:l.most=some n){P:Params}{h:Heap}{args:List WData}{vals:List Value}
 (hpre:l.row.toRowW.claim.pre args=true) (hwl:WellAll P h vals args):
 ∃a vs ns,vals=[Value.ref a]/\args=[WData.list (ns.map WData.int)]/\h.get? a=some {cls:=.type "list",data:=.seq vs.toArray}/\IntsAre vs ns/\ns.length<=n:=by
 have hsh:WShape.hasAll [] args [.list .int]=true:=(pre_splitW hpre).1
 have hc:l.pre.holds [] {args:=args}=true:=(pre_splitW hpre).2
 obtain⟨d,r,rfl,h1,h2⟩:=hasAllW_cons hsh
 obtain rfl:=hasAllW_nil h2
 obtain⟨xs,rfl,h3⟩:=hasW_list h1
 obtain⟨ns,rfl⟩:=items_int h3
 have hlen:ns.length<=n:=by
  unfold OpenLaw.pre at hc;have h4:(WTm.not (.lt (.lit (.int (n:Int))) (.len (.arg 0)))).holds [] {args:=[.list (ns.map .int)]}=true:=by
   have h4:=(holds_andW hc).1
   rw[hn] at h4;exact h4
  have h5:=condW_of h4 (w_not (w_lt w_lit (w_len_list (w_arg rfl))))
  rw[List.length_map] at h5;refine Nat.le_of_not_lt λq=>?_
  have q':(n:Int)<((ns.length:Nat):Int):=by omega
  first
   |(rw[decide_eq_true q'] at h5;exact absurd h5 (by decide))
   |(simp at h5;omega)
 cases hwl with
 |cons w1 w2=>
  cases w2
  cases w1 with
  |list ho hall=>exact⟨_,_,ns,rfl,rfl,ho,ng ns _ hall,hlen⟩
theorem wZ(l:OpenLaw)(args:List WData):l.row.toRowW.claim.post args (.bool true) args=true:=
 postW_of (r:=l.row.toRowW) (X:=(true==true))
  (show WShape.has [] (.bool true) .bool=true by first|rfl|decide|simp[WShape.has,WShape.arms,WShape.armsAll])
  (show(WTm.eq .res (.lit (.bool true))).value [] {args:=args,res:=some (.bool true),after:=args}=some (.bool (true==true)) from w_eq_bool (w_res rfl) w_lit) rfl
theorem attach_call {l:OpenLaw}{n:Nat}{q:Program}{loose:List Str}{XP:(Str->Option Value)->Heap->Prop}{YP:World->Heap->Prop}{d:DefRec}
 (hn:l.most=some n) (hdf:d.params.defaults=[])
 (call: ∀(w:World) (s₀ s₁:Shared) (mg mb:Str->Option Value) (fa:Addr) (o:Obj) (pm cd doc:Value) (a:Addr) (vs:List Value) (ns:List Int),
   Ground q loose [] XP w s₀ mg mb s₁.heap->YP w s₁.heap->
   s₁.heap.get? fa=some o->o.data=.func (docDef d.name d.params d.body d.scope pm cd doc)->s₁.heap.CodeRec cd d.name->mg d.name=some (.ref fa)->
   s₁.heap.get? a=some {cls:=.type "list",data:=.seq vs.toArray}->IntsAre vs ns->ns.length<=n->s₁.gens= #[]->
   codeAny (model l.prog w) callerA (.call (.ref fa) ⟨[.ref a],[]⟩) (λr s'=>r=.ok (.ret (.bool true))/\OldK s₁.heap s'.heap/\s'.os=s₁.os/\AllBare s'.gens) s₁):
 WalkO q loose XP YP l.row.toRowW d [] (λf vs=>PySem.call f vs):=by
 intro w s₀ s₁ mg mb G Y fa o pm cd doc dV kV ho hd hcd hD hmg hg args vals as hpre hlay hrd hwl hlo;obtain rfl:dV=.none:=Dflts.none hD hdf
 obtain rfl:kV=.none:=Dflts.noKw hD
 obtain⟨a,vs,ns,rfl,rfl,hobj,hints,hlen⟩:=xY hn hpre hwl
 refine enter_call (codeAny_mono (call w s₀ s₁ mg mb fa o pm cd doc a vs ns G Y ho (fd_plain hd) hcd hmg hobj hints hlen hg) λr s' hq=>?_)
 obtain⟨rfl,h2,h3,h4⟩:=hq
 exact⟨.inl ⟨.bool true,.bool true,[],rfl,λ_=>rfl,.bool true,wZ l _,λ_=>⟨List.Pairwise.nil,λ_ hm=>(nomatch hm)⟩⟩,h2,h3,h4⟩
end Att
namespace L2
open PySem PySem.Spec PyProof.Rows
theorem pj: ∀ {vs:List Value} {ns:List Int},IntsAre vs ns->Vals (ns.map V.int) vs
 |_,_,.nil=>.nil
 |_,_,.cons n t h=>.cons ⟨t,rfl⟩ (pj h)
def Ei(H:Hp):Prop:= ∀b,H b=none\/ ∃o xs,H b=some (.frz o (.lst xs))
theorem yy {P:Program}{w:World}{K:W.Frag}{mg mb:Str->Option Value}{CX:yS}{k:Nat}{fa a:Addr}{fd:FuncData}{x:Str}{sp:Sp}{s₁:Shared}{vs:List Value}{ns:List Int}
 (KX:K.In s₁.heap) (hns:s₁.heap.Ns mainGlobals mg) (hb:s₁.heap.Ns builtinsNs mb) (hbb: ∀x:Str,x≠"__name__"->mb x=bootBuiltins x) (hlim:s₁.heap.NoLimit) (hg:s₁.gens= #[])
 (ha:s₁.heap.get? a=some {cls:=.type "list",data:=.seq vs.toArray}) (hi:IntsAre vs ns) (hl:ns.length<=sizeLine) (hr:Room k callerA)
 (F: ∀base:Heap,K.In base->base.Ns mainGlobals mg->FnOk P w K mg base CX k fa fd [x] sp) (hbind: ∀(s:Shared) (u:Value),BindsTo s fd ⟨[u],[]⟩ [(x,u)])
 (hsp: ∀H:Hp,Ei H->SqL K H a (ns.map V.int)->sp [.ref a] H (λv _=>v=.bl true) λ_ _ _=>False)
 (hCX: ∀H e s',CX [] H s₁ (λ_ _ _=>False) e s'->False):
 codeAny (model P w) callerA (.call (.ref fa) ⟨[.ref a],[]⟩) (λr s'=>r=.ok (.ret (.bool true))/\OldK s₁.heap s'.heap/\s'.os=s₁.os/\AllBare s'.gens) s₁:=by
 have rv:=pj hi
 have lenV:=hi.length
 have core: ∀H:Hp,Ei H->SqL K H a (ns.map V.int)->HOk P w H s₁.heap->(∀b,H b≠none->b=a)->(H a≠none->K.lookup a=none)->
  codeAny (model P w) callerA (.call (.ref fa) ⟨[.ref a],[]⟩) (λr s'=>r=.ok (.ret (.bool true))/\OldK s₁.heap s'.heap/\s'.os=s₁.os/\AllBare s'.gens) s₁:=by
  intro H hO hS hok hA hK;have base_of: ∀ {b:Addr} {o:Obj},s₁.heap.get? b=some o->H b=none->(rF s₁.heap H).get? b=some o:=λe n=>AZ e n
  have noA: ∀ {b:Addr} {o:Obj} {es:Array DictEntry} {ep:Nat},s₁.heap.get? b=some o->o.data=.dict es ep->H b=none:=λ{b o es ep} e d=>by
   cases q:H b with
   |none=>rfl
   |some u=>
    have e':b=a:=hA b (by rw[q];simp)
    subst e';rw[ha] at e;cases e;have d':Data.seq vs.toArray _=Data.dict es ep:=d
    cases d'
  have nsK: ∀ {b:Addr} {m:Str->Option Value},s₁.heap.Ns b m->(rF s₁.heap H).Ns b m:=λ{b m} ⟨o,es,ep,e,d,r⟩=>⟨o,es,ep,base_of e (noA e d),d,r⟩
  have hKb:K.In (rF s₁.heap H):=λb o e=>base_of (KX b o e) (by
   cases q:H b with
   |none=>rfl
   |some u=>
    have e':b=a:=hA b (by rw[q];simp)
    subst e';rw[hK (by rw[q];simp)] at e;cases e)
  have hM:Mod K mg (rF s₁.heap H):=⟨hKb,nsK hns,⟨mb,nsK hb,hbb⟩,let⟨mc,h1,h2⟩:=hlim;⟨mc,nsK h1,h2⟩⟩
  have e0:Env0 P w K mg (rF s₁.heap H) callerA [] s₁ H:=⟨rfl,hM,λb o e=>C3 e,Nat.le_of_eq (wO _ _),trivial,λb hb=>absurd (show b∈([]:List Addr) from hb) (by simp),hok,.of_eq hg⟩
  refine codeAny_mono ((F _ hKb (nsK hns)).run callerA [] s₁ H ⟨[.ref a],[]⟩ [.ref a] [.ref a] _ _ hr e0 (hbind s₁ (.ref a)) (.cons rfl .nil) (hsp H hO hS)) λr s' h=>?_
  cases r with
  |error e=>exact(hCX H e s' h).elim
  |ok fl=>
   cases fl with
   |next=>exact False.elim h
   |brk=>exact False.elim h
   |cont=>exact False.elim h
   |ret u=>
    obtain⟨v,H',os,bare,un,hok',r',q⟩:=h
    have q':v=.bl true:=q
    subst q';obtain rfl:u=Value.bool true:=r'
    refine⟨rfl,OldK.of_keep λb o e=>?_,os,bare⟩
    cases q:H b with
    |none=>exact un.keep b o e q (by intro z;exact absurd (show b∈([]:List Addr) from z) (by simp)) (by simp)
    |some u=>
     rcases hO b with z|⟨ob,xs,z⟩
     ·rw[q] at z;cases z
     ·have z2:=un.frzs b ob _ z
      obtain⟨e1,_⟩:=hok b _ z
      obtain⟨e2,_⟩:=hok' b _ z2
      rw[e] at e1;cases e1;exact e2
 cases hk:K.lookup a with
 |some o=>
  have e:=KX a o hk
  rw[ha] at e;cases e
  refine core (λ_=>none) (λ_=>.inl rfl) (.inr ⟨_,vs.toArray,_,hk,rfl,rfl,rfl,by rw[List.size_toArray,lenV];exact hl,by simpa using rv⟩) (λb u z=>by have z':(none:Option HO)=some u:=z;cases z') (λb z=>absurd rfl z) λz=>absurd rfl z
 |none=>
  refine core (λb=>if b=a then some (.frz {cls:=.type "list",data:=.seq vs.toArray} (.lst (ns.map V.int))) else none) (λb=>?_) (.inl (.inr ⟨{cls:=.type "list",data:=.seq vs.toArray},if_pos rfl⟩)) (λb u z=>?_) (λb z=>?_) λ_=>hk
  ·by_cases hb:b=a
   ·exact .inr ⟨_,_,if_pos hb⟩
   ·exact .inl (if_neg hb)
  ·by_cases hb:b=a
   ·have z':=(if_pos hb).symm.trans z
    cases z'
    subst hb;exact⟨ha,by rw[List.length_map];exact hl,vs,_,rv,ha⟩
   ·have z':=(if_neg hb).symm.trans z
    cases z'
  ·by_cases hb:b=a
   ·exact hb
   ·exact absurd (if_neg hb) z
theorem walk_of {l:W.OpenLaw}{n k:Nat}{q:Program}{loose:List Str}{XP:(Str->Option Value)->Heap->Prop}{YP:World->Heap->Prop}{d:DefRec}{K:Params->W.Frag}{CX:World->yS}{sp:World->Sp}{x:Str}
 (hn:l.most=some n) (hn2:n<=sizeLine) (hdf:d.params.defaults=[]) (hr:Room k callerA)
 (hY: ∀(w:World) (h:Heap),YP w h->(K w.params).In h)
 (F: ∀(w:World) (mg:Str->Option Value) (fa:Addr) (h:Heap),(K w.params).In h->h.Ns mainGlobals mg->mg d.name=some (.ref fa)->
   ∃fd:FuncData,(∀(s:Shared) (u:Value),BindsTo s fd ⟨[u],[]⟩ [(x,u)])/\
    ∀base:Heap,(K w.params).In base->base.Ns mainGlobals mg->FnOk l.prog w (K w.params) mg base (CX w) k fa fd [x] (sp w))
 (hsp: ∀(w:World) (H:Hp) (a:Addr) (ns:List Int),ns.length<=n->Ei H->SqL (K w.params) H a (ns.map V.int)->sp w [.ref a] H (λv _=>v=.bl true) λ_ _ _=>False)
 (hCX: ∀(w:World) (H:Hp) (s:Shared) (e:Value) (s':Shared),CX w [] H s (λ_ _ _=>False) e s'->False):
 W.WalkO q loose XP YP l.row.toRowW d [] (λf vs=>PySem.call f vs):=by
 refine Att.attach_call hn hdf λw s₀ s₁ mg mb fa o pm cd doc a vs ns G Y ho hd hcd hmg hobj hints hlen hg=>?_
 have KX:=hY w _ Y
 obtain⟨fd,hb,hF⟩:=F w mg fa _ KX G.T.g hmg
 exact yy KX G.T.g G.T.b G.T.builtins G.T.nolimit hg hobj hints (Nat.le_trans hlen hn2) hr hF hb (λH hO hS=>hsp w H a ns hlen hO hS) λH e s'=>hCX w H s₁ e s'
def aT(s:Stmt):Arguments:=match s with
 | .FunctionDef _ a _ _ _ _ _ _ _ _=>a
 |_=>{posonlyargs:=[],args:=[],vararg:=none,kwonlyargs:=[],kw_defaults:=[],kwarg:=none,defaults:=[]}
def aM(s:Stmt):List Stmt:=match s with
 | .FunctionDef _ _ b _ _ _ _ _ _ _=>b
 |_=>[]
def am(s:Stmt):Scope:=match s with
 | .FunctionDef _ _ _ _ _ _ sc _ _ _=>sc
 |_=>{kind:=.function,names:=[],isGenerator:=false,isCoroutine:=false}
abbrev rM:yS:=λ_ _ _ _ _ _=>False
abbrev E0:XK:=λ_ _ _=>False
theorem yA {X:Cx}:uh rM X E0:=λ_ _ _ _ _ _ _ h=>h.elim
structure Fun(K:W.Frag)(x qual:Str)(st:Stmt)(f:Addr)(fd:FuncData):Prop where
 ex: ∃(oc:Value) (od:Option Addr) (kV doc pm:Value) (an:Option Addr) (cdv ct:Value) (osl:Array (Option Value)),
  fd=W.fnOf x qual (aT st) (aM st) (am st) .none kV doc pm an cdv ct/\K.lookup f=some ⟨oc,od,.func fd,osl⟩/\W.codeIn K cdv qual=true
 kp:W.keepIn K (.ref f)=true
section
variable {P:Program}{w:World}{K:W.Frag}{mg:Str->Option Value}{base:Heap}
theorem Fun.ok {x qual:Str}{st:Stmt}{f:Addr}{fd:FuncData}{N ps:List Str}{k:Nat}{sp:Sp}(F:Fun K x qual st f fd)(S:FnScope N ps (am st))(len: ∀vs H Q E,sp vs H Q E->vs.length=ps.length)
 (hbody: ∀(cdv:Value) (A:Around) (outer:List Env) (s:Shared) (H:Hp) (vs:List V) (Q:VK) (E:XK),Room k (A.deeper (envOfC qual (am st) s.heap.objs.size f cdv))->sp vs H Q E->
   ∃t,PSs (o9 rM P w K mg base N qual (am st) f cdv A outer s H E).nox (aM st) t/\t {nx:=λ_ H'=>Q .non H',rt:=Q} (start N vs) H):FnOk P w K mg base rM (k+1) f fd ps sp:=by
 obtain⟨oc,od,kV,doc,pm,an,cdv,ct,osl,rfl,lk,hcd⟩:=F.ex
 refine Fu lk hcd S len λA outer s H vs Q E hr hsp=>?_
 obtain⟨t,h,q⟩:=hbody cdv A outer s H vs Q E hr hsp
 exact⟨t,h.nox,q⟩
theorem Fun.binds {x qual:Str}{st:Stmt}{f:Addr}{fd:FuncData}{ps:List Str}(F:Fun K x qual st f fd)
 (h: ∀(kV doc pm:Value) (an:Option Addr) (cdv ct:Value) (us:List Value),us.length=ps.length->bindArgs (W.fnOf x qual (aT st) (aM st) (am st) .none kV doc pm an cdv ct) ⟨us,[]⟩=pure (ps.zip us)):Binds K fd ps []:=by
 obtain⟨oc,od,kV,doc,pm,an,cdv,ct,osl,rfl,lk,hcd⟩:=F.ex
 exact .all (h kV doc pm an cdv ct)
theorem bt {x qual:Str}{st:Stmt}{f:Addr}{oc:Value}{od an:Option Addr}{osl:Array (Option Value)}{kV doc pm cdv ct:Value}(l:K.lookup f=some ⟨oc,od,.func (W.fnOf x qual (aT st) (aM st) (am st) .none kV doc pm an cdv ct),osl⟩)
 (c:W.codeIn K cdv qual=true) (k:W.keepIn K (.ref f)=true):Fun K x qual st f (W.fnOf x qual (aT st) (aM st) (am st) .none kV doc pm an cdv ct):=⟨⟨oc,od,kV,doc,pm,an,cdv,ct,osl,rfl,l,c⟩,k⟩
end
theorem pg {A:Around}{k:Nat}(hr:Room k A):A.units+1<cLine:=Nat.lt_of_le_of_lt (Nat.add_le_add_left (by decide:1<=64) _) hr.units
theorem lV {n:Nat}(h:n<=1000):n<sizeLine:=Nat.lt_of_le_of_lt h (by decide)
section
variable {X:Cx}
theorem pv(i:Nat){x:Str}{pos:Pos}(hN:X.N[i]? =some x:=by rfl)(hv:qB X.env.scope x:=by first|exact Or.inl rfl|exact Or.inr (Or.inl rfl)|exact Or.inr (Or.inr rfl))(hd:(x==("__debug__":Str))=false:=by decide)
 (hcd:(x==("__classdict__":Str))=false:=by decide):PE X (.Name x pos) (GO i):=EY hN hv hd hcd
end
theorem qR {A B:Prop}(h:B):if false=true then A else B:=by
 rw[if_neg Bool.false_ne_true];exact h
theorem qp {A B:Prop}(h:A):if true=true then A else B:=by
 rw[if_pos rfl];exact h
def Same(H H':Hp):Prop:= ∀b o,H b=some o->H' b=some o
theorem Same.refl(H:Hp):Same H H:=λ_ _ h=>h
theorem Same.trans {H H1 H2:Hp}(a:Same H H1)(b:Same H1 H2):Same H H2:=λc o h=>b c o (a c o h)
theorem Same.free {H H':Hp}(e:Same H H'){l:Addr}(h:H' l=Option.none):H l=Option.none:=by
 cases q:H l with
 |none=>rfl
 |some o=>
  rw[e l o q] at h;cases h
theorem Same.seq {K:W.Frag}{H H':Hp}{a:Addr}{xs:List V}(e:Same H H')(h:SqL K H a xs):SqL K H' a xs:=by
 rcases h with(h|⟨o,h⟩)|h
 ·exact .inl (.inl (e _ _ h))
 ·exact .inl (.inr ⟨o,e _ _ h⟩)
 ·exact .inr h
inductive D where
 |non|bl (b:Bool)|int (i:Int)|str (x:Str)|tup (ds:List D)|lst (ds:List D)
 |scr (ds:List D)
def SqR(K:W.Frag)(H:Hp)(a:Addr)(xs:List V):Prop:=
 (∃o,H a=some (.frz o (.lst xs)))\/
   ∃(o:Obj) (its:Array Value) (n:Nat),K.lookup a=some o/\o.cls=.type "list"/\o.dict=none/\o.data=.seq its n/\its.size<=sizeLine/\Vals xs its.toList
theorem SqR.seq {K:W.Frag}{H:Hp}{a:Addr}{xs:List V}(h:SqR K H a xs):SqL K H a xs:=h.elim (λh=>.inl (.inr h)) .inr
theorem Same.seqR {K:W.Frag}{H H':Hp}{a:Addr}{xs:List V}(e:Same H H')(h:SqR K H a xs):SqR K H' a xs:=h.elim (λ⟨o,h⟩=>.inl ⟨o,e _ _ h⟩) .inr
mutual
inductive Rep (K:W.Frag) (F:Hp):V->D->Prop
 |non:Rep K F .non .non
 |bl {b:Bool}:Rep K F (.bl b) (.bl b)
 |int {i:Int}:Rep K F (.int i) (.int i)
 |str {x:Str}:Rep K F (.str x) (.str x)
 |tup {a:Addr} {xs:List V} {ds:List D}:SqT K F a xs->Reps K F xs ds->Rep K F (.ref a) (.tup ds)
 |lst {a:Addr} {xs:List V} {ds:List D}:F a=some (.lst xs)->Reps K F xs ds->Rep K F (.ref a) (.lst ds)
 |scr {a:Addr} {xs:List V} {ds:List D}:SqR K F a xs->Reps K F xs ds->Rep K F (.ref a) (.scr ds)
inductive Reps (K:W.Frag) (F:Hp):List V->List D->Prop
 |nil:Reps K F [] []
 |cons {x:V} {d:D} {xs:List V} {ds:List D}:Rep K F x d->Reps K F xs ds->Reps K F (x::xs) (d::ds)
end
theorem Same.seqT {K:W.Frag}{H H':Hp}{a:Addr}{xs:List V}(e:Same H H')(h:SqT K H a xs):SqT K H' a xs:=by
 rcases h with(h|⟨o,h⟩)|h
 ·exact .inl (.inl (e _ _ h))
 ·exact .inl (.inr ⟨o,e _ _ h⟩)
 ·exact .inr h
mutual
theorem Rep.mono {K:W.Frag}{F G:Hp}(s:Same F G): ∀ {v:V} {d:D},Rep K F v d->Rep K G v d
 |_,_,.non=>.non
 |_,_,.bl=>.bl
 |_,_,.int=>.int
 |_,_,.str=>.str
 |_,_,.tup h r=>.tup (Same.seqT s h) (Reps.mono s r)
 |_,_,.lst h r=>.lst (s _ _ h) (Reps.mono s r)
 |_,_,.scr h r=>.scr (Same.seqR s h) (Reps.mono s r)
theorem Reps.mono {K:W.Frag}{F G:Hp}(s:Same F G): ∀ {v:List V} {d:List D},Reps K F v d->Reps K G v d
 |_,_,.nil=>.nil
 |_,_,.cons r t=>.cons (Rep.mono s r) (Reps.mono s t)
end
section
variable {K:W.Frag}{F G H:Hp}
theorem Reps.length: ∀ {xs:List V} {ds:List D},Reps K F xs ds->xs.length=ds.length
 |_,_,.nil=>rfl
 |_,_,.cons _ t=>by simp[t.length]
theorem Reps.get: ∀ {xs:List V} {ds:List D} {i:Nat} {d:D},Reps K F xs ds->ds[i]? =some d-> ∃x,xs[i]? =some x/\Rep K F x d
 |_,_,_,_,.nil,e=>by simp at e
 |_,_,0,_,.cons r _,e=>by simp at e;subst e;exact⟨_,rfl,r⟩
 |_,_,i+1,d,.cons _ t,e=>by
  obtain⟨u,h1,h2⟩:=Reps.get (i:=i) (d:=d) t (by simpa using e)
  exact⟨u,by simpa using h1,h2⟩
theorem Reps.get' {xs:List V}{ds:List D}{i:Nat}{x:V}(r:Reps K F xs ds)(e:xs[i]? =some x): ∃d,ds[i]? =some d/\Rep K F x d:=by
 have hl:=r.length
 have hi:=(List.getElem?_eq_some_iff.mp e).1
 have e2:ds[i]? =some ds[i]:=List.getElem?_eq_getElem (by omega)
 obtain⟨y,h1,h2⟩:=r.get e2
 rw[e] at h1;cases h1;exact⟨_,e2,h2⟩
theorem Reps.append: ∀ {xs ys:List V} {us ws:List D},Reps K F xs us->Reps K F ys ws->Reps K F (xs++ys) (us++ws)
 |_,_,_,_,.nil,s=>s
 |_,_,_,_,.cons r t,s=>.cons r (Reps.append t s)
theorem Reps.set {x:V}{u:D}(r:Rep K F x u): ∀ {xs:List V} {us:List D} (i:Nat),Reps K F xs us->Reps K F (xs.set i x) (us.set i u)
 |_,_,_,.nil=>.nil
 |_,_,0,.cons _ t=>.cons r t
 |_,_,i+1,.cons q t=>.cons q (Reps.set r i t)
theorem Reps.eraseIdx: ∀ {xs:List V} {us:List D} (i:Nat),Reps K F xs us->Reps K F (xs.eraseIdx i) (us.eraseIdx i)
 |_,_,_,.nil=>.nil
 |_,_,0,.cons _ t=>t
 |_,_,i+1,.cons q t=>.cons q (Reps.eraseIdx i t)
theorem Reps.reverse {xs:List V}{us:List D}(h:Reps K F xs us):Reps K F xs.reverse us.reverse:=by
 induction xs generalizing us with
 |nil=>cases h;exact .nil
 |cons x xs ih=>
  cases h with
  |cons r t=>simp only[List.reverse_cons];exact(ih t).append (.cons r .nil)
theorem Reps.take: ∀ {xs:List V} {us:List D} (n:Nat),Reps K F xs us->Reps K F (xs.take n) (us.take n)
 |_,_,0,_=>.nil
 |_,_,_+1,.nil=>.nil
 |_,_,n+1,.cons r t=>.cons r (Reps.take n t)
theorem Reps.drop: ∀ {xs:List V} {us:List D} (n:Nat),Reps K F xs us->Reps K F (xs.drop n) (us.drop n)
 |_,_,0,r=>r
 |_,_,_+1,.nil=>.nil
 |_,_,n+1,.cons _ t=>Reps.drop n t
end
abbrev bK:=Addr->Bool
def vw(H:Hp)(hid:bK):Hp:=λb=>if hid b=true then none else H b
def ba(hid:bK)(a:Addr):bK:=λb=>hid b||decide (b=a)
theorem vw_some {H:Hp}{hid:bK}{b:Addr}{o:HO}:vw H hid b=some o↔hid b=false/\H b=some o:=by
 unfold vw;cases hb:hid b<;>simp
theorem dZ(H:Hp)(hid:bK):Same (vw H hid) H:=λb o h=>(vw_some.mp h).2
theorem aR {H H':Hp}{hid:bK}(s:Same H H'):Same (vw H hid) (vw H' hid):=λb o h=>vw_some.mpr ⟨(vw_some.mp h).1,s _ _ (vw_some.mp h).2⟩
theorem vN {H H':Hp}{hid:bK}(s: ∀b o,H b=some o->hid b=false->H' b=some o):Same (vw H hid) (vw H' hid):=λb o h=>vw_some.mpr ⟨(vw_some.mp h).1,s _ _ (vw_some.mp h).2 (vw_some.mp h).1⟩
theorem eE {H:Hp}{hid:bK}{a:Addr}{o:HO}(h:hid a=true):vw (bN H a o) hid=vw H hid:=by
 funext b;unfold vw bN
 by_cases e:b=a
 ·subst e;simp[h]
 ·simp[e]
theorem iR {H:Hp}{hid hid':bK}(h: ∀b,hid' b=true->hid b=true):Same (vw H hid) (vw H hid'):=λb o q=>by
 obtain⟨q1,q2⟩:=vw_some.mp q
 refine vw_some.mpr ⟨?_,q2⟩
 cases e:hid' b with
 |false=>rfl
 |true=>rw[h b e] at q1;cases q1
theorem qY {H:Hp}{hid:bK}{a:Addr}{o:HO}(h:H a=none):vw (bN H a o) (ba hid a)=vw H hid:=by
 funext b;unfold vw bN ba
 by_cases e:b=a
 ·subst e
  cases hb:hid b<;>simp[h]
 ·simp[e]
inductive Ob where
 |exc (x:Str) (n:Int)
 |dK (kvs:List (bS×D))
 |dT (kvs:List (List bS×D))
 |set (ds:List D)
 |old (d:D)
 |jnk
 |tset (ks:List (List Int))
 |dF (kvs:List (List bS×D))
inductive Sl where
 |no
 |v (d:D)
 |own (ds:List D)
 |arg (ds:List D)
 |ob (b:Ob)
abbrev aF:=List Sl
structure Ct where
 H₀:Hp
 hid₀:bK
 mu:Addr->Bool
def GR(K:W.Frag)(x:Str)(n:Int)(a:Addr)(h:Heap):Prop:= ∃C o,W.nsIn K mainGlobals x=some (some (.ref C))/\h.get? a=some o/\o.cls=.ref C/\o.dict=none/\W.notCls o=true
def tV:Option HO->Bool
 |some (.lst _)=>true
 |_=>false
def fv(c:Ct)(F:Hp):Hp:=λb=>if(c.H₀ b).isSome=true/\tV (F b)=true then none else F b
def ov(c:Ct)(F:Hp):Hp:=λb=>if(c.H₀ b).isSome=true then F b else none
theorem fv_some {c:Ct}{F:Hp}{b:Addr}{o:HO}:fv c F b=some o↔(tV (some o)=true->c.H₀ b=none)/\F b=some o:=by
 unfold fv;constructor
 ·intro h
  split at h
  ·cases h
  ·rename_i hn
   refine⟨λq=>?_,h⟩
   rw[h] at hn;cases hb:c.H₀ b with
   |none=>rfl
   |some u=>exact absurd ⟨by rw[hb];rfl,q⟩ hn
 ·rintro⟨h1,h2⟩
  rw[if_neg,h2]
  rintro⟨q1,q2⟩
  rw[h2] at q2;rw[h1 q2] at q1;cases q1
theorem ov_some {c:Ct}{F:Hp}{b:Addr}{o:HO}:ov c F b=some o↔(∃u,c.H₀ b=some u)/\F b=some o:=by
 unfold ov;cases hb:c.H₀ b<;>simp
theorem Cj {c:Ct}{F G:Hp}(s:Same F G):Same (fv c F) (fv c G):=λb o h=>fv_some.mpr ⟨(fv_some.mp h).1,s _ _ (fv_some.mp h).2⟩
theorem BO {c:Ct}{F G:Hp}(s:Same F G):Same (ov c F) (ov c G):=λb o h=>ov_some.mpr ⟨(ov_some.mp h).1,s _ _ (ov_some.mp h).2⟩
def ObOk(K:W.Frag)(c:Ct)(hid:bK)(H:Hp)(a:Addr):Ob->Prop
 | .exc x n=> ∃φ,vw H hid a=some (.ext φ)/\ ∀h,φ h->GR K x n a h
 | .dK kvs=>(hid a=true/\c.H₀ a=none)/\ ∃us:List (bS×V),H a=some (.dK us)/\us.map (·.1)=kvs.map (·.1)/\Reps K (vw H hid) (us.map (·.2)) (kvs.map (·.2))
 | .dT kvs=>(hid a=true/\c.H₀ a=none)/\ ∃us:List (List bS×V),H a=some (.dT us)/\us.map (·.1)=kvs.map (·.1)/\Reps K (vw H hid) (us.map (·.2)) (kvs.map (·.2))
 | .set ds=>(hid a=true/\c.H₀ a=none)/\ ∃xs:List V,H a=some (.lst xs)/\Reps K (fv c (vw H hid)) xs ds
 | .old d=>Rep K (ov c (vw H hid)) (.ref a) d
 | .jnk=>(hid a=true/\c.H₀ a=none)/\ ∃xs:List V,H a=some (.lst xs)
 | .tset ks=>(hid a=true/\c.H₀ a=none)/\ ∃xs:List (List Int×Addr),H a=some (.tst xs)/\(xs.map (·.1)).Perm ks/\Reps K (vw H hid) (xs.map λx=>V.ref x.2) (xs.map λx=>D.tup (x.1.map D.int))
 | .dF kvs=>(hid a=true/\c.H₀ a=none)/\ ∃(o:Obj) (us:List (List bS×V)),H a=some (.frz o (.dT us))/\us.map (·.1)=kvs.map (·.1)/\Reps K (vw H hid) (us.map (·.2)) (kvs.map (·.2))
def wM:Ob->Prop
 | .exc _ _=>False
 | .old _=>False
 |_=>True
theorem ObOk.mono {K:W.Frag}{c:Ct}{hid hid':bK}{H H':Hp}{a:Addr}{b:Ob}(h:ObOk K c hid H a b)(k:wM b-> ∀o,H a=some o->H' a=some o)(s:Same (vw H hid) (vw H' hid'))(w:wM b->hid a=true->hid' a=true):ObOk K c hid' H' a b:=by
 cases b with
 |exc x n=>obtain⟨φ,h1,h2⟩:=h;exact⟨φ,s _ _ h1,h2⟩
 |dK kvs=>obtain⟨h1,us,h2,h3,h4⟩:=h;exact⟨⟨w trivial h1.1,h1.2⟩,us,k trivial _ h2,h3,h4.mono s⟩
 |dT kvs=>obtain⟨h1,us,h2,h3,h4⟩:=h;exact⟨⟨w trivial h1.1,h1.2⟩,us,k trivial _ h2,h3,h4.mono s⟩
 |set ds=>obtain⟨h1,us,h2,h3⟩:=h;exact⟨⟨w trivial h1.1,h1.2⟩,us,k trivial _ h2,h3.mono (Cj s)⟩
 |old d=>exact Rep.mono (BO s) h
 |jnk=>obtain⟨h1,us,h2⟩:=h;exact⟨⟨w trivial h1.1,h1.2⟩,us,k trivial _ h2⟩
 |tset ks=>obtain⟨h1,us,h2,h3,h4⟩:=h;exact⟨⟨w trivial h1.1,h1.2⟩,us,k trivial _ h2,h3,h4.mono s⟩
 |dF kvs=>obtain⟨h1,o,us,h2,h3,h4⟩:=h;exact⟨⟨w trivial h1.1,h1.2⟩,o,us,k trivial _ h2,h3,h4.mono s⟩
theorem ObOk.hid {K:W.Frag}{c:Ct}{hid:bK}{H:Hp}{a:Addr}{b:Ob}(h:ObOk K c hid H a b)(o:wM b):hid a=true:=by
 cases b with
 |exc x n=>exact o.elim
 |dK kvs=>exact h.1.1
 |dT kvs=>exact h.1.1
 |set ds=>exact h.1.1
 |old d=>exact o.elim
 |jnk=>exact h.1.1
 |tset ks=>exact h.1.1
 |dF kvs=>exact h.1.1
def SlOk(K:W.Frag)(c:Ct)(hid:bK)(σ:St)(H:Hp)(i:Nat):Sl->Prop
 | .no=>True
 | .v d=> ∃x,σ[i]? =some (some x)/\Rep K (vw H hid) x d
 | .own ds=> ∃a xs,σ[i]? =some (some (.ref a))/\H a=some (.lst xs)/\hid a=true/\c.H₀ a=none/\Reps K (vw H hid) xs ds
 | .arg ds=> ∃a xs,σ[i]? =some (some (.ref a))/\H a=some (.lst xs)/\hid a=true/\c.mu a=true/\Reps K (vw H hid) xs ds
 | .ob b=> ∃a,σ[i]? =some (some (.ref a))/\ObOk K c hid H a b
def Ow:Option Sl->Prop
 |some (.own _)=>True
 |some (.arg _)=>True
 |some (.ob b)=>wM b
 |_=>False
structure SR(K:W.Frag)(c:Ct)(hid:bK)(ρ:aF)(σ:St)(H:Hp):Prop where
 tr: ∀b,hid b=true-> ∃o,H b=some o
 ht: ∀b xs,hid b=true->H b≠some (.tup xs)
 h0: ∀b,c.hid₀ b=true->hid b=true
 kp: ∀b o,c.H₀ b=some o->c.mu b=false->H b=some o
 t0: ∀b o,c.H₀ b=some o-> ∃o',H b=some o'
 c0: ∀b,c.hid₀ b=true-> ∃o,c.H₀ b=some o
 m0: ∀b,c.mu b=true->c.hid₀ b=true
 len:σ.length=ρ.length
 sl: ∀(i:Nat) (s:Sl),ρ[i]? =some s->SlOk K c hid σ H i s
 ap: ∀(i j:Nat) (a:Addr),i≠j->Ow ρ[i]? ->Ow ρ[j]? ->σ[i]? =some (some (.ref a))->σ[j]? =some (some (.ref a))->False
section
variable {K:W.Frag}{c:Ct}{hid:bK}{ρ:aF}{σ:St}{H H':Hp}{i:Nat}
theorem SlOk.ext {s:Sl}(h:SlOk K c hid σ H i s)(e:Same H H'):SlOk K c hid σ H' i s:=by
 cases s with
 |no=>trivial
 |v d=>obtain⟨x,h1,h2⟩:=h;exact⟨x,h1,h2.mono (aR e)⟩
 |own ds=>obtain⟨a,xs,h1,h2,h3,h4,h5⟩:=h;exact⟨a,xs,h1,e _ _ h2,h3,h4,h5.mono (aR e)⟩
 |arg ds=>obtain⟨a,xs,h1,h2,h3,h4,h5⟩:=h;exact⟨a,xs,h1,e _ _ h2,h3,h4,h5.mono (aR e)⟩
 |ob b=>obtain⟨a,h1,h2⟩:=h;exact⟨a,h1,h2.mono (λ_=>e a) (aR e) λ_ q=>q⟩
theorem SR.ext(h:SR K c hid ρ σ H)(e:Same H H'):SR K c hid ρ σ H' where
 tr:=λb hb=>let⟨o,q⟩:=h.tr b hb;⟨o,e _ _ q⟩
 ht:=λb xs hb q=>let⟨o,w⟩:=h.tr b hb;by have z:=e _ _ w;rw[q] at z;cases z;exact h.ht b xs hb w
 h0:=h.h0
 kp:=λb o q m=>e _ _ (h.kp b o q m)
 t0:=λb o q=>let⟨o',q'⟩:=h.t0 b o q;⟨o',e _ _ q'⟩
 c0:=h.c0
 m0:=h.m0
 len:=h.len
 sl:=λi s q=>(h.sl i s q).ext e
 ap:=h.ap
def Fo(hid:bK)(H:Hp):Prop:=(∀b,hid b=true-> ∃o,H b=some o)/\ ∀b xs,hid b=true->H b≠some (.tup xs)
theorem SR.trk(h:SR K c hid ρ σ H):Fo hid H:=⟨h.tr,h.ht⟩
theorem SR.fresh(h:SR K c hid ρ σ H){a:Addr}(n:H a=none):hid a=false:=by
 cases e:hid a with
 |false=>rfl
 |true=>obtain⟨o,q⟩:=h.tr a e;rw[n] at q;cases q
theorem SR.fresh0(h:SR K c hid ρ σ H){a:Addr}(n:H a=none):c.H₀ a=none:=by
 cases e:c.H₀ a with
 |none=>rfl
 |some o=>obtain⟨o',q⟩:=h.t0 a o e;rw[n] at q;cases q
end
inductive Kd where
 |b|s|n
 deriving DecidableEq
def Rep1(K:W.Frag)(H W:Hp)(v:V)(d:D):Prop:=Rep K W v d\/ ∃a xs ds,v=.ref a/\d=.lst ds/\H a=some (.lst xs)/\Reps K W xs ds
def RN(K:W.Frag)(H H':Hp)(hid:bK)(v:V)(d:D):Prop:= ∃a xs ds,d=.lst ds/\v=.ref a/\H a=none/\H' a=some (.lst xs)/\Reps K (vw H' (ba hid a)) xs ds
def RK(K:W.Frag)(k:Kd)(H H':Hp)(hid:bK)(v:V)(d:D):Prop:=match k with
 | .b=>Rep1 K H' (vw H' hid) v d
 | .s=>Rep K (vw H' hid) v d
 | .n=>RN K H H' hid v d
section
variable {K:W.Frag}{c:Ct}{hid:bK}{ρ:aF}{σ:St}{H H' H'':Hp}{i:Nat}{v:V}{d:D}
theorem RN.rep(h:RN K H H' hid v d)(hf: ∀a,H a=none->hid a=false):Rep K (vw H' hid) v d:=by
 obtain⟨a,xs,ds,rfl,rfl,h1,h2,h3⟩:=h
 refine .lst (vw_some.mpr ⟨hf a h1,h2⟩) (h3.mono (iR λb q=>?_))
 unfold ba;rw[q];rfl
theorem RK.b(k:Kd)(h:RK K k H H' hid v d)(hf: ∀a,H a=none->hid a=false):Rep1 K H' (vw H' hid) v d:=by
 cases k with
 |b=>exact h
 |s=>exact .inl h
 |n=>exact .inl (RN.rep h hf)
theorem Rep1.ext {hid:bK}(h:Rep1 K H (vw H hid) v d)(e:Same H H'):Rep1 K H' (vw H' hid) v d:=by
 rcases h with h|⟨a,xs,ds,h1,h2,h3,h4⟩
 ·exact .inl (h.mono (aR e))
 ·exact .inr ⟨a,xs,ds,h1,h2,e _ _ h3,h4.mono (aR e)⟩
theorem Rep1.int {i:Int}(h:Rep1 K H (vw H hid) v (.int i)):v=.int i:=by
 rcases h with h|⟨a,xs,ds,h1,h2,_⟩
 ·cases h;rfl
 ·cases h2
theorem Rep1.bl {i:Bool}(h:Rep1 K H (vw H hid) v (.bl i)):v=.bl i:=by
 rcases h with h|⟨a,xs,ds,h1,h2,_⟩
 ·cases h;rfl
 ·cases h2
theorem Rep1.str {i:Str}(h:Rep1 K H (vw H hid) v (.str i)):v=.str i:=by
 rcases h with h|⟨a,xs,ds,h1,h2,_⟩
 ·cases h;rfl
 ·cases h2
theorem Rep1.non(h:Rep1 K H (vw H hid) v .non):v=.non:=by
 rcases h with h|⟨a,xs,ds,h1,h2,_⟩
 ·cases h;rfl
 ·cases h2
theorem Rep1.tup {ds:List D}(h:Rep1 K H (vw H hid) v (.tup ds)): ∃a xs,v=.ref a/\SqT K (vw H hid) a xs/\SqT K H a xs/\Reps K (vw H hid) xs ds:=by
 rcases h with h|⟨a,xs,ds,h1,h2,_⟩
 ·cases h with
  |tup q r=>exact⟨_,_,rfl,q,Same.seqT (dZ _ _) q,r⟩
 ·cases h2
theorem Rep1.lst {ds:List D}(h:Rep1 K H (vw H hid) v (.lst ds)): ∃a xs,v=.ref a/\SqL K H a xs/\Reps K (vw H hid) xs ds:=by
 rcases h with h|⟨a,xs,ds,h1,h2,h3,h4⟩
 ·cases h with
  |lst q r=>exact⟨_,_,rfl,SqL.of (dZ _ _ _ _ q),r⟩
 ·cases h2
  exact⟨a,xs,h1,SqL.of h3,h4⟩
theorem Rep1.scr {ds:List D}(h:Rep1 K H (vw H hid) v (.scr ds)): ∃a xs,v=.ref a/\SqL K H a xs/\Reps K (vw H hid) xs ds:=by
 rcases h with h|⟨a,xs,ds,h1,h2,h3,h4⟩
 ·cases h with
  |scr q r=>exact⟨_,_,rfl,(dZ _ _).seq q.seq,r⟩
 ·cases h2
end
theorem PE.imp {X:Cx}{e:Expr}{t t':TE}(h:PE X e t)(i: ∀σ H Q,t' σ H Q->t σ H Q):PE X e t':=λae s σ H Q I q=>h ae s σ H Q I (i σ H Q q)
theorem PT.imp {X:Cx}{e:Expr}{t t':TT}(h:PT X e t)(i: ∀σ H Q,t' σ H Q->t σ H Q):PT X e t':=λae s σ H Q I q=>h ae s σ H Q I (i σ H Q q)
theorem PW.imp {X:Cx}{e:Expr}{t t':TT}(h:PW X e t)(i: ∀σ H Q,t' σ H Q->t σ H Q):PW X e t':=λwh ae s σ H Q I q=>h wh ae s σ H Q I (i σ H Q q)
theorem PA.imp {X:Cx}{e:List Expr}{t t':TA}(h:PA X e t)(i: ∀σ H Q,t' σ H Q->t σ H Q):PA X e t':=λp ae s σ H Q I q=>h p ae s σ H Q I (i σ H Q q)
theorem PS.imp {X:Cx}{e:Stmt}{t t':TS}(h:PS X e t)(i: ∀D σ H,t' D σ H->t D σ H):PS X e t':=λae s σ H D I q=>h ae s σ H D I (i D σ H q)
theorem PSs.imp {X:Cx}{e:List Stmt}{t t':TS}(h:PSs X e t)(i: ∀D σ H,t' D σ H->t D σ H):PSs X e t':=λae s σ H D I q=>h ae s σ H D I (i D σ H q)
abbrev FE:=aF->Option D
abbrev FT:=aF->Option Bool
abbrev FA:=aF->Option (List D)
def A9(K:W.Frag)(c:Ct)(hid:bK)(k:Kd)(f:FE)(ρ:aF):TE:=λσ H Q=>SR K c hid ρ σ H/\ ∃d,f ρ=some d/\ ∀v H',Same H H'->RK K k H H' hid v d->Q v H'
def HQ(K:W.Frag)(c:Ct)(hid:bK)(f:FT)(ρ:aF):TT:=λσ H Q=>SR K c hid ρ σ H/\ ∃d,f ρ=some d/\ ∀H',Same H H'->Q d H'
def IO(K:W.Frag)(c:Ct)(hid:bK)(f:FA)(ρ:aF):TA:=λσ H Q=>SR K c hid ρ σ H/\ ∃d,f ρ=some d/\ ∀vs H',Same H H'->Reps K (vw H' hid) vs d->Q vs H'
def DP(X:Cx)(c:Ct)(k:Kd)(e:Expr)(f:FE):Prop:= ∀hid ρ,PE X e (A9 X.K c hid k f ρ)
def DT(X:Cx)(c:Ct)(e:Expr)(f:FT):Prop:= ∀hid ρ,PT X e (HQ X.K c hid f ρ)
def DW(X:Cx)(c:Ct)(e:Expr)(f:FT):Prop:= ∀hid ρ,PW X e (HQ X.K c hid f ρ)
def DA(X:Cx)(c:Ct)(es:List Expr)(f:FA):Prop:= ∀hid ρ,PA X es (IO X.K c hid f ρ)
section
variable {X:Cx}{c:Ct}{e a b:Expr}{es:List Expr}{f g:FE}{k:Kd}{pos:Pos}
theorem DP.toS(h:DP X c .n e f):DP X c .s e f:=λhid ρ=>PE.imp (h hid ρ) λσ H Q ⟨sr,d,hd,q⟩=>⟨sr,d,hd,λv H' s r=>q v H' s (RN.rep r λa n=>sr.fresh n)⟩
def ah(i:Nat):FE:=λρ=>match ρ[i]? with
 |some (.v d)=>some d
 |_=>none
def cU(i:Nat):FE:=λρ=>match ρ[i]? with
 |some (.v d)=>some d
 |some (.own ds)=>some (.lst ds)
 |some (.arg ds)=>some (.lst ds)
 |_=>none
theorem af(i:Nat){x:Str}(hN:X.N[i]? =some x:=by rfl)(hv:qB X.env.scope x:=by first|exact Or.inl rfl|exact Or.inr (Or.inl rfl)|exact Or.inr (Or.inr rfl))(hd:(x==("__debug__":Str))=false:=by decide)
 (hcd:(x==("__classdict__":Str))=false:=by decide):DP X c .s (.Name x pos) (ah i):=λhid ρ=>PE.imp (pv i hN hv hd hcd) λσ H Q hq_=>by
 obtain⟨sr,d,hd,q⟩:=hq_
 unfold ah at hd;split at hd
 ·rename_i d' e'
  cases hd
  obtain⟨x,h1,h2⟩:=sr.sl i _ e'
  exact⟨x,h1,q x H (Same.refl _) h2⟩
 ·cases hd
theorem cY(i:Nat){x:Str}(hN:X.N[i]? =some x:=by rfl)(hv:qB X.env.scope x:=by first|exact Or.inl rfl|exact Or.inr (Or.inl rfl)|exact Or.inr (Or.inr rfl))(hd:(x==("__debug__":Str))=false:=by decide)
 (hcd:(x==("__classdict__":Str))=false:=by decide):DP X c .b (.Name x pos) (cU i):=λhid ρ=>PE.imp (pv i hN hv hd hcd) λσ H Q hq_=>by
 obtain⟨sr,d,hd,q⟩:=hq_
 unfold cU at hd;split at hd
 ·rename_i d' e'
  cases hd
  obtain⟨x,h1,h2⟩:=sr.sl i _ e'
  exact⟨x,h1,q x H (Same.refl _) (.inl h2)⟩
 ·rename_i d' e'
  cases hd
  obtain⟨a,xs,h1,h2,h3,h4,h5⟩:=sr.sl i _ e'
  exact⟨_,h1,q _ H (Same.refl _) (.inr ⟨a,xs,_,rfl,rfl,h2,h5⟩)⟩
 ·rename_i d' e'
  cases hd
  obtain⟨a,xs,h1,h2,h3,h4,h5⟩:=sr.sl i _ e'
  exact⟨_,h1,q _ H (Same.refl _) (.inr ⟨a,xs,_,rfl,rfl,h2,h5⟩)⟩
 ·cases hd
def aA(d:D):FE:=λ_=>some d
theorem au {i:Int}{j pos}:DP X c .s (.Constant (.int i) j pos) (aA (.int i)):=λhid ρ=>PE.imp EO λσ H Q hq_=>by
 obtain⟨sr,d,hd,q⟩:=hq_
 cases hd;exact q _ H (Same.refl _) .int
theorem iE {i:Bool}{j pos}:DP X c .s (.Constant (.bool i) j pos) (aA (.bl i)):=λhid ρ=>PE.imp FN λσ H Q hq_=>by
 obtain⟨sr,d,hd,q⟩:=hq_
 cases hd;exact q _ H (Same.refl _) .bl
theorem Al {j pos}:DP X c .s (.Constant .none j pos) (aA .non):=λhid ρ=>PE.imp D1 λσ H Q hq_=>by
 obtain⟨sr,d,hd,q⟩:=hq_
 cases hd;exact q _ H (Same.refl _) .non
def ak(F:D->D->Option D)(f g:FE):FE:=λρ=>(f ρ).bind λx=>(g ρ).bind λy=>F x y
theorem zO {F:D->D->Option D}{ρ:aF}{d:D}(h:ak F f g ρ=some d): ∃x y,f ρ=some x/\g ρ=some y/\F x y=some d:=by
 unfold ak at h;cases e1:f ρ with
 |none=>rw[e1] at h;cases h
 |some x=>
  cases e2:g ρ with
  |none=>rw[e1,e2] at h;cases h
  |some y=>rw[e1,e2] at h;exact⟨x,y,rfl,rfl,h⟩
def mN(K:W.Frag)(k:Kd)(r:R2)(F:D->D->Option D):Prop:= ∀(H:Hp) (hid:bK) (v u:V) (x y d:D) (Q:VK),(∀a,H a=none->hid a=false)->F x y=some d->Rep1 K H (vw H hid) v x->Rep1 K H (vw H hid) u y->
 (∀w H',Same H H'->RK K k H H' hid w d->Q w H')->r v u H Q
theorem RK.left {K:W.Frag}{H H1 H':Hp}{hid:bK}{v:V}{d:D}(s:Same H H1)(h:RK K k H1 H' hid v d):RK K k H H' hid v d:=by
 cases k with
 |b=>exact h
 |s=>exact h
 |n=>
  obtain⟨a,xs,ds,h1,h2,h3,h4⟩:=h
  exact⟨a,xs,ds,h1,h2,s.free h3,h4⟩
theorem Hd {r:R2}{F:D->D->Option D}{k1 k2:Kd}{hid:bK}{ρ:aF}(hF:mN X.K k r F){σ:St}{H:Hp}{Q:VK}(h:A9 X.K c hid k (ak F f g) ρ σ H Q):Fk r (A9 X.K c hid k1 f ρ) (A9 X.K c hid k2 g ρ) σ H Q:=by
 obtain⟨sr,d,hd,q⟩:=h
 obtain⟨x,y,e1,e2,e3⟩:=zO hd
 refine⟨sr,x,e1,λv H1 s1 r1=>⟨sr.ext s1,y,e2,λu H2 s2 r2=>?_⟩⟩
 have b1:=(RK.b k1 r1 λa n=>sr.fresh n).ext s2
 have b2:=RK.b k2 r2 λa n=>(sr.ext s1).fresh n
 exact hF H2 hid v u x y d Q (λa n=>((sr.ext s1).ext s2).fresh n) e3 b1 b2 λw H' s3 r3=>q w H' ((s1.trans s2).trans s3) (RK.left (s1.trans s2) r3)
theorem mQ {op:Operator}{r:R2}{F:D->D->Option D}{k1 k2:Kd}(ho:jK X (binaryOp op) r)(hF:mN X.K k r F)(ha:DP X c k1 a f)(hb:DP X c k2 b g):DP X c k (.BinOp a op b pos) (ak F f g):=λhid ρ=>
 PE.imp (Fp ho (ha hid ρ) (hb hid ρ)) λσ H Q h=>Hd hF h
theorem kz {op:CmpOp}{r:R2}{F:D->D->Option D}{k1 k2:Kd}(ho:jK X (compareOp op) r)(hF:mN X.K .s r F)(ha:DP X c k1 a f)(hb:DP X c k2 b g)(hm:behindInMarks op b=false):DP X c .s (.Compare a [op] [b] pos) (ak F f g):=λhid ρ=>
 PE.imp (BW ho (ha hid ρ) (hb hid ρ) hm) λσ H Q h=>Hd hF h
def xG:Option D->Option Bool
 |some (.bl b)=>some b
 |_=>none
theorem bw {op:CmpOp}{r:R2}{F:D->D->Option D}{k1 k2:Kd}(ho:jK X (compareOp op) r)(hF:mN X.K .s r F)(ha:DP X c k1 a f)(hb:DP X c k2 b g)(hm:behindInMarks op b=false):DT X c (.Compare a [op] [b] pos) (λρ=>xG (ak F f g ρ)):=λhid ρ=>
 PT.imp (CG ho (ha hid ρ) (hb hid ρ) hm) λσ H Q hq_=>by
  obtain⟨sr,d,hd,q⟩:=hq_
  refine Hd (X:=X) (k:=.s) (F:=F) hF ?_
  dsimp only at hd;cases e:ak F f g ρ with
  |none=>rw[e] at hd;cases hd
  |some x=>
   rw[e] at hd;cases x with
   |bl z=>
    cases hd
    refine⟨sr,_,e,λv H' s r=>⟨d,?_,q H' s⟩⟩
    cases r;rfl
   |_=>cases hd
theorem aJ {r:R2}{F:D->D->Option D}{k1 k2:Kd}(hr:IxR X r)(hF:mN X.K k r F)(ha:DP X c k1 a f)(hb:DP X c k2 b g)(hs:qk b):DP X c k (.Subscript a b pos) (ak F f g):=λhid ρ=>
 PE.imp (Dk hr (ha hid ρ) (hb hid ρ) hs) λσ H Q h=>Hd hF h
end
def i2(C:Int->Int->Bool)(G:Int->Int->D):D->D->Option D
 | .int i,.int j=>if C i j=true then some (G i j) else none
 |_,_=>none
section
variable {K:W.Frag}
theorem nr {C:Int->Int->Bool}{G:Int->Int->D}{x y d:D}(h:i2 C G x y=some d): ∃i j,x=.int i/\y=.int j/\C i j=true/\d=G i j:=by
 unfold i2 at h;split at h
 ·split at h
  ·cases h;exact⟨_,_,rfl,rfl, ‹_›,rfl⟩
  ·cases h
 ·cases h
theorem BZ {C:Int->Int->Prop}{B:Int->Int->Bool}{g:Int->Int->Int}(hC: ∀i j,B i j=true->C i j):mN K .s (rI C λi j=>.int (g i j)) (i2 B λi j=>.int (g i j)):=by
 intro H hid v u x y d Q hf h r1 r2 q;obtain⟨i,j,rfl,rfl,hc,rfl⟩:=nr h
 cases r1.int;cases r2.int
 exact⟨i,j,rfl,rfl,hC i j hc,q _ H (Same.refl _) .int⟩
theorem Dj {g:Int->Int->Int}:mN K .s (A7 λi j=>.int (g i j)) (i2 (λ_ _=>true) λi j=>.int (g i j)):=by
 intro H hid v u x y d Q hf h r1 r2 q;obtain⟨i,j,rfl,rfl,hc,rfl⟩:=nr h
 cases r1.int;cases r2.int
 exact⟨i,j,rfl,rfl,q _ H (Same.refl _) .int⟩
theorem iX {g:Int->Int->Bool}:mN K .s (A7 λi j=>.bl (g i j)) (i2 (λ_ _=>true) λi j=>.bl (g i j)):=by
 intro H hid v u x y d Q hf h r1 r2 q;obtain⟨i,j,rfl,rfl,hc,rfl⟩:=nr h
 cases r1.int;cases r2.int
 exact⟨i,j,rfl,rfl,q _ H (Same.refl _) .bl⟩
end
section
variable {X:Cx}{c:Ct}{e a b:Expr}{es rest:List Expr}{f g:FE}{p q:FT}{k:Kd}{pos:Pos}
def By:D->Option Bool
 | .non=>some false
 | .bl b=>some b
 | .int i=>some (i !=0)
 | .str y=>if y.length<=sizeLine then some ((y.length:Int) !=0) else none
 | .lst ds=>some (!ds.isEmpty)
 | .tup ds=>some (!ds.isEmpty)
 | .scr ds=>some (!ds.isEmpty)
theorem Reps.isEmpty {K:W.Frag}{F:Hp}{xs:List V}{ds:List D}(r:Reps K F xs ds):xs.isEmpty=ds.isEmpty:=by cases r<;>rfl
theorem zq {K:W.Frag}{H:Hp}{hid:bK}{v:V}{d:D}{b:Bool}(h:By d=some b)(r:Rep1 K H (vw H hid) v d):El K v H b:=by
 cases d with
 |non=>cases r.non;cases h;rfl
 |bl x=>cases r.bl;cases h;rfl
 |int i=>cases r.int;cases h;rfl
 |str y=>
  cases r.str
  have h':(if y.length<=sizeLine then some ((y.length:Int) !=0) else none)=some b:=h
  split at h'
  ·cases h';exact⟨‹_›,rfl⟩
  ·cases h'
 |lst ds=>
  obtain⟨a,xs,rfl,h1,h2⟩:=r.lst
  cases h
  exact .inl ⟨xs,h1,by rw[h2.isEmpty]⟩
 |tup ds=>
  obtain⟨a,xs,rfl,_,h1,h2⟩:=r.tup
  cases h
  exact .inr (.inl ⟨xs,h1,by rw[h2.isEmpty]⟩)
 |scr ds=>
  obtain⟨a,xs,rfl,h1,h2⟩:=r.scr
  cases h
  exact .inl ⟨xs,h1,by rw[h2.isEmpty]⟩
def dI(f:FE):FT:=λρ=>(f ρ).bind By
theorem fZ(ha:DP X c k a f)(he: ∀whole,isTrue a X.env whole=(do let v <-whole;standAt a.pos;holding [v] (truthy v)):=by intro _;rfl):DT X c a (dI f):=λhid ρ=>
 PT.imp (tK (ha hid ρ) he) λσ H Q hq_=>by
  obtain⟨sr,d,hd,q⟩:=hq_
  unfold dI at hd;cases e:f ρ with
  |none=>rw[e] at hd;cases hd
  |some x=>
   rw[e] at hd;exact⟨sr,x,e,λv H' s r=>⟨d,zq hd (RK.b k r λa n=>sr.fresh n),q H' s⟩⟩
def ft(p q:FT):FT:=λρ=>(p ρ).bind λb=>if b=true then q ρ else some false
def rC(p q:FT):FT:=λρ=>(p ρ).bind λb=>if b=true then some true else q ρ
def gH(p:FT):FT:=λρ=>(p ρ).map (!·)
theorem kO(ha:DT X c a p):DW X c (.BoolOp .And [a] pos) p:=λhid ρ=>pw_and1 (ha hid ρ)
theorem qE(ha:DT X c a p):DW X c (.BoolOp .Or [a] pos) p:=λhid ρ=>pw_or1 (ha hid ρ)
theorem oD(ha:DT X c a p)(hb:DW X c (.BoolOp .And (b::rest) pos) q):DW X c (.BoolOp .And (a::b::rest) pos) (ft p q):=λhid ρ=>
 PW.imp (pw_and (ha hid ρ) (hb hid ρ)) λσ H Q hq_=>by
  obtain⟨sr,d,hd,hq⟩:=hq_
  unfold ft at hd;cases e:p ρ with
  |none=>rw[e] at hd;cases hd
  |some x=>
   rw[e] at hd;refine⟨sr,x,e,λH1 s1=>?_⟩
   cases x with
   |true=>exact qp ⟨sr.ext s1,d,hd,λH2 s2=>hq H2 (s1.trans s2)⟩
   |false=>cases hd;exact qR (hq H1 s1)
theorem sM(ha:DT X c a p)(hb:DW X c (.BoolOp .Or (b::rest) pos) q):DW X c (.BoolOp .Or (a::b::rest) pos) (rC p q):=λhid ρ=>
 PW.imp (pw_or (ha hid ρ) (hb hid ρ)) λσ H Q hq_=>by
  obtain⟨sr,d,hd,hq⟩:=hq_
  unfold rC at hd;cases e:p ρ with
  |none=>rw[e] at hd;cases hd
  |some x=>
   rw[e] at hd;refine⟨sr,x,e,λH1 s1=>?_⟩
   cases x with
   |false=>exact qR ⟨sr.ext s1,d,hd,λH2 s2=>hq H2 (s1.trans s2)⟩
   |true=>cases hd;exact qp (hq H1 s1)
theorem DW.dt(h:DW X c e p):DT X c e p:=λhid ρ=>(h hid ρ).pt
theorem n6(ha:DT X c a p):DT X c (.UnaryOp .Not a pos) (gH p):=λhid ρ=>
 PT.imp (zI (ha hid ρ)) λσ H Q hq_=>by
  obtain⟨sr,d,hd,hq⟩:=hq_
  unfold gH at hd;cases e:p ρ with
  |none=>rw[e] at hd;cases hd
  |some x=>rw[e] at hd;cases hd;exact⟨sr,x,e,λH1 s1=>hq H1 s1⟩
def rL(p:FT):FE:=λρ=>(p ρ).map D.bl
def bc(f:FE):FT:=λρ=>xG (f ρ)
theorem h9 {ρ:aF}{b:Bool}(h:bc f ρ=some b):f ρ=some (.bl b):=by
 unfold bc xG at h;split at h
 ·cases h;assumption
 ·cases h
theorem AE(ha:DP X c .s a f)(hb:DP X c .s (.BoolOp .And (b::rest) pos) g):DP X c .s (.BoolOp .And (a::b::rest) pos) (rL (ft (bc f) (bc g))):=λhid ρ=>
 PE.imp (DC (ha hid ρ) (hb hid ρ)) λσ H Q hq_=>by
  obtain⟨sr,d,hd,hq⟩:=hq_
  unfold rL ft at hd;cases e:bc f ρ with
  |none=>rw[e] at hd;cases hd
  |some x=>
   rw[e] at hd;refine⟨sr,_,h9 e,λv H1 s1 r=>?_⟩
   cases r
   refine⟨x,rfl,?_⟩
   cases x with
   |true=>
    refine qp ?_
    cases e2:bc g ρ with
    |none=>rw[show(some true:Option Bool).bind (λb=>if b=true then bc g ρ else some false)=bc g ρ from rfl,e2] at hd;cases hd
    |some y=>
     rw[show(some true:Option Bool).bind (λb=>if b=true then bc g ρ else some false)=bc g ρ from rfl,e2] at hd;cases hd
     exact⟨sr.ext s1,_,h9 e2,λv2 H2 s2 r2=>hq v2 H2 (s1.trans s2) r2⟩
   |false=>cases hd;exact qR (hq _ H1 s1 .bl)
theorem Gi(ha:DP X c .s a f)(hb:DP X c .s (.BoolOp .Or (b::rest) pos) g):DP X c .s (.BoolOp .Or (a::b::rest) pos) (rL (rC (bc f) (bc g))):=λhid ρ=>
 PE.imp (FY (ha hid ρ) (hb hid ρ)) λσ H Q hq_=>by
  obtain⟨sr,d,hd,hq⟩:=hq_
  unfold rL rC at hd;cases e:bc f ρ with
  |none=>rw[e] at hd;cases hd
  |some x=>
   rw[e] at hd;refine⟨sr,_,h9 e,λv H1 s1 r=>?_⟩
   cases r
   refine⟨x,rfl,?_⟩
   cases x with
   |false=>
    refine qR ?_
    cases e2:bc g ρ with
    |none=>rw[show(some false:Option Bool).bind (λb=>if b=true then some true else bc g ρ)=bc g ρ from rfl,e2] at hd;cases hd
    |some y=>
     rw[show(some false:Option Bool).bind (λb=>if b=true then some true else bc g ρ)=bc g ρ from rfl,e2] at hd;cases hd
     exact⟨sr.ext s1,_,h9 e2,λv2 H2 s2 r2=>hq v2 H2 (s1.trans s2) r2⟩
   |true=>cases hd;exact qp (hq _ H1 s1 .bl)
theorem uv {op}(h:DP X c k a f):DP X c k (.BoolOp op [a] pos) f:=λhid ρ=>EG (h hid ρ)
theorem uR(ha:DP X c .s a f):DP X c .s (.UnaryOp .Not a pos) (rL (gH (bc f))):=λhid ρ=>
 PE.imp (Er (ha hid ρ)) λσ H Q hq_=>by
  obtain⟨sr,d,hd,hq⟩:=hq_
  unfold rL gH at hd;cases e:bc f ρ with
  |none=>rw[e] at hd;cases hd
  |some x=>
   rw[e] at hd;cases hd;refine⟨sr,_,h9 e,λv H1 s1 r=>?_⟩
   cases r
   exact⟨x,rfl,hq _ H1 s1 .bl⟩
def C7(p:FT)(f g:FE):FE:=λρ=>(p ρ).bind λb=>if b=true then f ρ else g ρ
theorem FF {t:Expr}(hk:k≠ .n)(ht:DT X c t p)(ha:DP X c k a f)(hb:DP X c k b g):DP X c k (.IfExp t a b pos) (C7 p f g):=λhid ρ=>
 PE.imp (AO (ht hid ρ) (ha hid ρ) (hb hid ρ)) λσ H Q hq_=>by
  obtain⟨sr,d,hd,hq⟩:=hq_
  unfold C7 at hd;cases e:p ρ with
  |none=>rw[e] at hd;cases hd
  |some x=>
   rw[e] at hd;refine⟨sr,x,e,λH1 s1=>?_⟩
   have lf: ∀ {v H2},RK X.K k H1 H2 hid v d->RK X.K k H H2 hid v d:=λ{v H2} r=>RK.left s1 r
   cases x with
   |true=>exact qp ⟨sr.ext s1,d,hd,λv H2 s2 r=>hq v H2 (s1.trans s2) (lf r)⟩
   |false=>exact qR ⟨sr.ext s1,d,hd,λv H2 s2 r=>hq v H2 (s1.trans s2) (lf r)⟩
variable {r r':R2}{h:FE}{e3:Expr}
def ub(F G:D->D->Option D)(f g h:FE):FE:=λρ=>(f ρ).bind λx=>(g ρ).bind λy=>(xG (F x y)).bind λk=>if k=true then(h ρ).bind λz=>G y z else some (.bl false)
theorem Aw {F G:D->D->Option D}{k1 k2 k3:Kd}{hid:bK}{ρ:aF}(hF:mN X.K .s r F)(hG:mN X.K .s r' G){σ:St}{H:Hp}{Q:VK}(hh:A9 X.K c hid .s (ub F G f g h) ρ σ H Q):
 uF r r' (A9 X.K c hid k1 f ρ) (A9 X.K c hid k2 g ρ) (A9 X.K c hid k3 h ρ) σ H Q:=by
 obtain⟨sr,d,hd,q⟩:=hh
 unfold ub at hd;cases e1:f ρ with
 |none=>rw[e1] at hd;cases hd
 |some x=>
  cases e2:g ρ with
  |none=>rw[e1,e2] at hd;cases hd
  |some y=>
   rw[e1,e2] at hd;have hd':(xG (F x y)).bind (λk=>if k=true then(h ρ).bind λz=>G y z else some (.bl false))=some d:=hd
   cases e3:F x y with
   |none=>rw[e3] at hd';cases hd'
   |some z=>
    cases z with
    |bl kk=>
     rw[e3] at hd';refine⟨sr,x,e1,λv H1 s1 r1=>⟨sr.ext s1,y,e2,λu H2 s2 r2=>?_⟩⟩
     have b1:=(RK.b k1 r1 λa n=>sr.fresh n).ext s2
     have b2:=RK.b k2 r2 λa n=>(sr.ext s1).fresh n
     have fr: ∀a,H2 a=none->hid a=false:=λa n=>((sr.ext s1).ext s2).fresh n
     refine hF H2 hid v u x y _ _ fr e3 b1 b2 λw H3 s3 r3=>?_
     cases r3
     refine⟨kk,rfl,?_⟩
     cases kk with
     |false=>cases hd';exact qR (q _ H3 ((s1.trans s2).trans s3) .bl)
     |true=>
      refine qp ?_
      cases e4:h ρ with
      |none=>rw[e4] at hd';cases hd'
      |some z=>
       rw[e4] at hd';have hd2:G y z=some d:=hd'
       refine⟨((sr.ext s1).ext s2).ext s3,z,e4,λw' H4 s4 r4=>?_⟩
       have b3:=RK.b k3 r4 λa n=>(((sr.ext s1).ext s2).ext s3).fresh n
       exact hG H4 hid u w' y z d Q (λa n=>((((sr.ext s1).ext s2).ext s3).ext s4).fresh n) hd2 ((b2.ext s3).ext s4) b3 λw2 H5 s5 r5=>q w2 H5 ((((s1.trans s2).trans s3).trans s4).trans s5) r5
    |_=>rw[e3] at hd';cases hd'
theorem GG {op op':CmpOp}{F G:D->D->Option D}{k1 k2 k3:Kd}(ho:jK X (compareOp op) r)(ho':jK X (compareOp op') r')(hF:mN X.K .s r F)(hG:mN X.K .s r' G)(ha:DP X c k1 a f)(hb:DP X c k2 b g)(hc:DP X c k3 e3 h)
 (hm:lastMarks [op,op'] [b,e3]=false:=by with_unfolding_all rfl):DP X c .s (.Compare a [op,op'] [b,e3] pos) (ub F G f g h):=λhid ρ=>
 PE.imp (yV ho ho' (ha hid ρ) (hb hid ρ) (hc hid ρ) hm) λσ H Q hh=>Aw hF hG hh
theorem Dg {op op':CmpOp}{F G:D->D->Option D}{k1 k2 k3:Kd}(ho:jK X (compareOp op) r)(ho':jK X (compareOp op') r')(hF:mN X.K .s r F)(hG:mN X.K .s r' G)(ha:DP X c k1 a f)(hb:DP X c k2 b g)(hc:DP X c k3 e3 h)
 (hm:lastMarks [op,op'] [b,e3]=false:=by with_unfolding_all rfl):DT X c (.Compare a [op,op'] [b,e3] pos) (bc (ub F G f g h)):=λhid ρ=>
 PT.imp (zi ho ho' (ha hid ρ) (hb hid ρ) (hc hid ρ) hm) λσ H Q hq_=>by
  obtain⟨sr,d,hd,q⟩:=hq_
  refine Aw (X:=X) (F:=F) (G:=G) hF hG ⟨sr,_,h9 hd,λv H' s r=>⟨d,?_,q H' s⟩⟩
  cases r;rfl
end
section
variable {X:Cx}{c:Ct}{e a b:Expr}{es rest:List Expr}{f g:FE}{fs:FA}{k:Kd}{pos:Pos}
def ai:FA:=λ_=>some []
def aa(f:FE)(fs:FA):FA:=λρ=>(f ρ).bind λd=>(fs ρ).map λr=>d::r
theorem oB {ρ:aF}{ds:List D}(h:aa f fs ρ=some ds): ∃d r,f ρ=some d/\fs ρ=some r/\ds=d::r:=by
 unfold aa at h;cases e1:f ρ with
 |none=>rw[e1] at h;cases h
 |some d=>
  cases e2:fs ρ with
  |none=>rw[e1,e2] at h;cases h
  |some r=>rw[e1,e2] at h;cases h;exact⟨d,r,rfl,rfl,rfl⟩
theorem aw:DA X c [] ai:=λhid ρ=>PA.imp iF λσ H Q ⟨sr,d,hd,q⟩=>by cases hd;exact q [] H (Same.refl _) .nil
theorem ag(ha:DP X c .s e f)(hr:DA X c es fs)(hs:starEach (e::es) X.env=(false,eval e X.env)::starEach es X.env:=by rfl):DA X c (e::es) (aa f fs):=λhid ρ=>
 PA.imp (eA (ha hid ρ) (hr hid ρ) hs) λσ H Q hq_=>by
  obtain⟨sr,d,hd,q⟩:=hq_
  obtain⟨d1,r,e1,e2,rfl⟩:=oB hd
  exact⟨sr,d1,e1,λv H1 s1 r1=>⟨sr.ext s1,r,e2,λvs H2 s2 r2=>q _ H2 (s1.trans s2) (.cons (Rep.mono (aR s2) r1) r2)⟩⟩
def cw(fs:FA):FE:=λρ=>(fs ρ).bind λds=>if ds.length<=sizeLine then some (.tup ds) else none
def cg(fs:FA):FE:=λρ=>(fs ρ).bind λds=>if ds.length<=sizeLine then some (.lst ds) else none
theorem wT {ρ:aF}{d:D}(h:cw fs ρ=some d): ∃ds,fs ρ=some ds/\ds.length<=sizeLine/\d=.tup ds:=by
 unfold cw at h;cases e1:fs ρ with
 |none=>rw[e1] at h;cases h
 |some ds=>
  rw[e1] at h;have h':(if ds.length<=sizeLine then some (D.tup ds) else none)=some d:=h
  split at h'
  ·cases h';exact⟨ds,rfl, ‹_›,rfl⟩
  ·cases h'
theorem wQ {ρ:aF}{d:D}(h:cg fs ρ=some d): ∃ds,fs ρ=some ds/\ds.length<=sizeLine/\d=.lst ds:=by
 unfold cg at h;cases e1:fs ρ with
 |none=>rw[e1] at h;cases h
 |some ds=>
  rw[e1] at h;have h':(if ds.length<=sizeLine then some (D.lst ds) else none)=some d:=h
  split at h'
  ·cases h';exact⟨ds,rfl, ‹_›,rfl⟩
  ·cases h'
theorem aX {H:Hp}{p:Addr}(h:H p=none)(o:HO):Same H (bN H p o):=λb u q=>by rw[aH (be q h)];exact q
theorem lD {K:W.Frag}{H:Hp}{hid:bK}{p:Addr}{xs:List V}{ds:List D}(hn:H p=none)(hf:hid p=false)(r:Reps K (vw H hid) xs ds):Rep K (vw (bN H p (.tup xs)) hid) (.ref p) (.tup ds):=
 .tup (SqT.of (vw_some.mpr ⟨hf,aL⟩)) (r.mono (aR (aX hn _)))
theorem gv {K:W.Frag}{H H0:Hp}{hid:bK}{p:Addr}{xs:List V}{ds:List D}(hn:H p=none)(s:Same H0 H)(r:Reps K (vw H hid) xs ds):RN K H0 (bN H p (.lst xs)) hid (.ref p) (.lst ds):=
 ⟨p,xs,ds,rfl,rfl,s.free hn,aL,by rw[qY hn];exact r⟩
theorem cS {x1}(h:DA X c es fs):DP X c .s (.Tuple es x1 pos) (cw fs):=λhid ρ=>PE.imp (Ed (h hid ρ)) λσ H Q hq_=>by
 obtain⟨sr,d,hd,q⟩:=hq_
 obtain⟨ds,e1,hz,rfl⟩:=wT hd
 exact⟨sr,ds,e1,λvs H1 s1 r1=>⟨by rw[r1.length];exact hz,λp hp=>q _ _ (s1.trans (aX hp _)) (lD hp ((sr.ext s1).fresh hp) r1)⟩⟩
theorem cZ(h:DA X c es fs):DP X c .n (.List es pos) (cg fs):=λhid ρ=>PE.imp (EI (h hid ρ)) λσ H Q hq_=>by
 obtain⟨sr,d,hd,q⟩:=hq_
 obtain⟨ds,e1,hz,rfl⟩:=wQ hd
 exact⟨sr,ds,e1,λvs H1 s1 r1=>⟨by rw[r1.length];exact hz,λp hp=>q _ _ (s1.trans (aX hp _)) (gv hp s1 r1)⟩⟩
abbrev Reps1(K:W.Frag)(H W:Hp):List V->List D->Prop:=Paired (Rep1 K H W)
def IE(K:W.Frag)(c:Ct)(hid:bK)(f:FA)(ρ:aF):TA:=λσ H Q=>SR K c hid ρ σ H/\ ∃d,f ρ=some d/\ ∀vs H',Same H H'->Reps1 K H' (vw H' hid) vs d->Q vs H'
def DB(X:Cx)(c:Ct)(es:List Expr)(f:FA):Prop:= ∀hid ρ,PA X es (IE X.K c hid f ρ)
theorem bB:DB X c [] ai:=λhid ρ=>PA.imp iF λσ H Q ⟨sr,d,hd,q⟩=>by cases hd;exact q [] H (Same.refl _) .nil
theorem aZ(ha:DP X c k e f)(hr:DB X c es fs)(hs:starEach (e::es) X.env=(false,eval e X.env)::starEach es X.env:=by rfl):DB X c (e::es) (aa f fs):=λhid ρ=>
 PA.imp (eA (ha hid ρ) (hr hid ρ) hs) λσ H Q hq_=>by
  obtain⟨sr,d,hd,q⟩:=hq_
  obtain⟨d1,r,e1,e2,rfl⟩:=oB hd
  exact⟨sr,d1,e1,λv H1 s1 r1=>⟨sr.ext s1,r,e2,λvs H2 s2 r2=>q _ H2 (s1.trans s2) (.cons ((RK.b k r1 λa n=>sr.fresh n).ext s2) r2)⟩⟩
def gA(K:W.Frag)(k:Kd)(r:List V->Hp->VK->Prop)(F:List D->Option D):Prop:= ∀(H:Hp) (hid:bK) (vs:List V) (ds:List D) (d:D) (Q:VK),(∀a,H a=none->hid a=false)->F ds=some d->Reps1 K H (vw H hid) vs ds->
 (∀w H',Same H H'->RK K k H H' hid w d->Q w H')->r vs H Q
def ao(F:List D->Option D)(fs:FA):FE:=λρ=>(fs ρ).bind F
theorem nO {F:List D->Option D}{ρ:aF}{d:D}(h:ao F fs ρ=some d): ∃ds,fs ρ=some ds/\F ds=some d:=by
 unfold ao at h;cases e1:fs ρ with
 |none=>rw[e1] at h;cases h
 |some ds=>rw[e1] at h;exact⟨ds,rfl,h⟩
theorem Ge {r:List V->Hp->VK->Prop}{F:List D->Option D}{hid:bK}{ρ:aF}(hF:gA X.K k r F){σ:St}{H:Hp}{Q:VK}(h:A9 X.K c hid k (ao F fs) ρ σ H Q):Gs r (IE X.K c hid fs ρ) σ H Q:=by
 obtain⟨sr,d,hd,q⟩:=h
 obtain⟨ds,e1,e2⟩:=nO hd
 exact⟨sr,ds,e1,λvs H1 s1 r1=>hF H1 hid vs ds d Q (λa n=>(sr.ext s1).fresh n) e2 r1 λw H' s2 r2=>q w H' (s1.trans s2) (RK.left s1 r2)⟩
variable {x:Str}{p:Pos}{id T:String}{r:List V->Hp->VK->Prop}{F:List D->Option D}
theorem bm(hc:dQ X (.builtin id) r)(hF:gA X.K k r F)(hm:X.mg x=none)(ha:DB X c (e::es) fs)(hg:Gl X x:=by rfl)(hv:bootBuiltins x=some (.builtin id):=by first|exact PySem.boot_len|rfl|kernel_rfl)(hn:x≠"__name__":=by decide)(hdb:(x==("__debug__":Str))=false:=by decide)
 (he:starEach (e::es) X.env=(false,eval e X.env)::starEach es X.env:=by rfl) (hpl:(backTo pos (starEach es X.env)).any (·.1)=false:=by rfl):DP X c k (.Call (.Name x p) (e::es) [] pos) (ao F fs):=λhid ρ=>
 PE.imp (lA hc hg hm hv (ha hid ρ) hn hdb he hpl) λσ H Q h=>Ge hF h
theorem fD(hc:dQ X (.type T) r)(hF:gA X.K k r F)(hm:X.mg x=none)(ha:DB X c (e::es) fs)(hg:Gl X x:=by rfl)(hv:bootBuiltins x=some (.type T):=by first|rfl|kernel_rfl)(hn:x≠"__name__":=by decide)(hdb:(x==("__debug__":Str))=false:=by decide)
 (he:starEach (e::es) X.env=(false,eval e X.env)::starEach es X.env:=by rfl) (hpl:(backTo pos (starEach es X.env)).any (·.1)=false:=by rfl):DP X c k (.Call (.Name x p) (e::es) [] pos) (ao F fs):=λhid ρ=>
 PE.imp (ig hc hg hm hv (ha hid ρ) hn hdb he hpl) λσ H Q h=>Ge hF h
end
section
variable {K:W.Frag}
theorem Reps1.one {H W:Hp}{v:List V}{d:D}(r:Reps1 K H W v [d]): ∃x,v=[x]/\Rep1 K H W x d:=by
 cases r with
 |cons r t=>cases t;exact⟨_,rfl,r⟩
theorem Reps1.two {H W:Hp}{v:List V}{d d':D}(r:Reps1 K H W v [d,d']): ∃x y,v=[x,y]/\Rep1 K H W x d/\Rep1 K H W y d':=by
 cases r with
 |cons r t=>cases t with
  |cons r' t=>cases t;exact⟨_,_,rfl,r,r'⟩
def cV:List D->Option D
 | [.lst ds]=>some (.int ds.length)
 | [.tup ds]=>some (.int ds.length)
 | [.scr ds]=>some (.int ds.length)
 |_=>none
theorem gB:gA K .s (λxs H Q=> ∃p ys,xs=[.ref p]/\(SqL K H p ys\/SqT K H p ys)/\Q (.int ys.length) H) cV:=by
 intro H hid vs ds d Q hf h r q;unfold cV at h;split at h
 ·cases h
  obtain⟨x,rfl,r1⟩:=Reps1.one r
  obtain⟨a,xs,rfl,h1,h2⟩:=r1.lst
  exact⟨a,xs,rfl,.inl h1,by rw[h2.length];exact q _ H (Same.refl _) .int⟩
 ·cases h
  obtain⟨x,rfl,r1⟩:=Reps1.one r
  obtain⟨a,xs,rfl,_,h1,h2⟩:=r1.tup
  exact⟨a,xs,rfl,.inr h1,by rw[h2.length];exact q _ H (Same.refl _) .int⟩
 ·cases h
  obtain⟨x,rfl,r1⟩:=Reps1.one r
  obtain⟨a,xs,rfl,h1,h2⟩:=r1.scr
  exact⟨a,xs,rfl,.inl h1,by rw[h2.length];exact q _ H (Same.refl _) .int⟩
 ·cases h
def tm:List D->Option D
 | [.int i]=>some (.int (if i<0 then -i else i))
 |_=>none
theorem EB:gA K .s (λxs H Q=> ∃i,xs=[.int i]/\Q (.int (if i<0 then -i else i)) H) tm:=by
 intro H hid vs ds d Q hf h r q;unfold tm at h;split at h
 ·cases h
  obtain⟨x,rfl,r1⟩:=Reps1.one r
  cases r1.int
  exact⟨_,rfl,q _ H (Same.refl _) .int⟩
 ·cases h
def r6:List D->Option D
 | [.int i,.int j]=>some (.int (if j>i then j else i))
 |_=>none
theorem BE:gA K .s (λxs H Q=> ∃i j,xs=[.int i,.int j]/\Q (.int (if j>i then j else i)) H) r6:=by
 intro H hid vs ds d Q hf h r q;unfold r6 at h;split at h
 ·cases h
  obtain⟨x,y,rfl,r1,r2⟩:=Reps1.two r
  cases r1.int;cases r2.int
  exact⟨_,_,rfl,q _ H (Same.refl _) .int⟩
 ·cases h
def kf:List D->Option D
 | [.int i,.int j]=>some (.int (if j<i then j else i))
 |_=>none
theorem wF:gA K .s (λxs H Q=> ∃i j,xs=[.int i,.int j]/\Q (.int (if j<i then j else i)) H) kf:=by
 intro H hid vs ds d Q hf h r q;unfold kf at h;split at h
 ·cases h
  obtain⟨x,y,rfl,r1,r2⟩:=Reps1.two r
  cases r1.int;cases r2.int
  exact⟨_,_,rfl,q _ H (Same.refl _) .int⟩
 ·cases h
def mT:List D->Option D
 | [.lst ds]=>some (.lst ds)
 | [.tup ds]=>some (.lst ds)
 |_=>none
theorem qo:gA K .n (λxs H Q=> ∃p ys,xs=[.ref p]/\(SqL K H p ys\/SqT K H p ys)/\ ∀l,H l=none->Q (.ref l) (bN H l (.lst ys))) mT:=by
 intro H hid vs ds d Q hf h r q;unfold mT at h;split at h
 ·cases h
  obtain⟨x,rfl,r1⟩:=Reps1.one r
  obtain⟨a,xs,rfl,h1,h2⟩:=r1.lst
  exact⟨a,xs,rfl,.inl h1,λl hl=>q _ _ (aX hl _) (gv hl (Same.refl _) h2)⟩
 ·cases h
  obtain⟨x,rfl,r1⟩:=Reps1.one r
  obtain⟨a,xs,rfl,_,h1,h2⟩:=r1.tup
  exact⟨a,xs,rfl,.inr h1,λl hl=>q _ _ (aX hl _) (gv hl (Same.refl _) h2)⟩
 ·cases h
def gV:List D->Option D
 | [.lst ds]=>some (.tup ds)
 | [.tup ds]=>some (.tup ds)
 |_=>none
theorem jr:gA K .s (λxs H Q=> ∃p ys,xs=[.ref p]/\((SqL K H p ys/\ ∀l,H l=none->Q (.ref l) (bN H l (.tup ys)))\/(SqT K H p ys/\Q (.ref p) H))) gV:=by
 intro H hid vs ds d Q hf h r q;unfold gV at h;split at h
 ·cases h
  obtain⟨x,rfl,r1⟩:=Reps1.one r
  obtain⟨a,xs,rfl,h1,h2⟩:=r1.lst
  exact⟨a,xs,rfl,.inl ⟨h1,λl hl=>q _ _ (aX hl _) (lD hl (hf l hl) h2)⟩⟩
 ·cases h
  obtain⟨x,rfl,r1⟩:=Reps1.one r
  obtain⟨a,xs,rfl,h0,h1,h2⟩:=r1.tup
  exact⟨a,xs,rfl,.inr ⟨h1,q _ H (Same.refl _) (.tup h0 h2)⟩⟩
 ·cases h
def aP:D->D->Option D
 | .lst ds,.int i=>rJ ds i
 | .tup ds,.int i=>rJ ds i
 | .scr ds,.int i=>rJ ds i
 |_,_=>none
theorem qD {F:Hp}{xs:List V}{ds:List D}{i:Int}{d:D}(r:Reps K F xs ds)(h:rJ ds i=some d): ∃x,rJ xs i=some x/\Rep K F x d:=by
 unfold rJ at h⊢;rw[r.length];cases e:uc ds.length i with
 |none=>rw[e] at h;cases h
 |some j=>
  rw[e] at h;obtain⟨x,h1,h2⟩:=r.get (i:=j) h
  exact⟨x,h1,h2⟩
theorem aI:mN K .s (IG K) aP:=by
 intro H hid v u x y d Q hf h r1 r2 q;unfold aP at h;split at h
 ·cases r2.int
  obtain⟨a,xs,rfl,h1,h2⟩:=r1.lst
  obtain⟨z,h3,h4⟩:=qD h2 h
  exact .inl ⟨a,xs,_,z,rfl,rfl,h1,h3,q _ H (Same.refl _) h4⟩
 ·cases r2.int
  obtain⟨a,xs,rfl,_,h1,h2⟩:=r1.tup
  obtain⟨z,h3,h4⟩:=qD h2 h
  exact .inr (.inl ⟨a,xs,_,z,rfl,rfl,h1,h3,q _ H (Same.refl _) h4⟩)
 ·cases r2.int
  obtain⟨a,xs,rfl,h1,h2⟩:=r1.scr
  obtain⟨z,h3,h4⟩:=qD h2 h
  exact .inl ⟨a,xs,_,z,rfl,rfl,h1,h3,q _ H (Same.refl _) h4⟩
 ·cases h
end
abbrev GE:=aF->Option (D×aF)
abbrev GA:=aF->Option (List D×aF)
def Kept(hid:bK)(H H':Hp):Prop:= ∀b o,H b=some o->hid b=false->H' b=some o
theorem Kept.of {hid:bK}{H H':Hp}(s:Same H H'):Kept hid H H':=λb o q _=>s b o q
theorem Kept.trans {hid:bK}{H H1 H2:Hp}(a:Kept hid H H1)(b:Kept hid H1 H2):Kept hid H H2:=λc o q h=>b c o (a c o q h) h
theorem Kept.vw {hid:bK}{H H':Hp}(a:Kept hid H H'):Same (vw H hid) (vw H' hid):=vN a
def PostE(K:W.Frag)(c:Ct)(hid:bK)(k:Kd)(ρ':aF)(σ:St)(H H':Hp)(v:V)(d:D):Prop:=Kept hid H H'/\match k with
 | .n=> ∃a xs ds,d=.lst ds/\v=.ref a/\H a=none/\H' a=some (.lst xs)/\c.H₀ a=none/\hid a=false/\SR K c (ba hid a) ρ' σ H'/\Reps K (vw H' (ba hid a)) xs ds/\ ∀i:Nat,Ow ρ'[i]? ->σ[i]? ≠some (some (.ref a))
 |_=>SR K c hid ρ' σ H'/\Rep K (vw H' hid) v d
def Fm(K:W.Frag)(c:Ct)(hid:bK)(k:Kd)(f:GE)(ρ:aF):TE:=λσ H Q=>SR K c hid ρ σ H/\ ∃d ρ',f ρ=some (d,ρ')/\ ∀v H',PostE K c hid k ρ' σ H H' v d->Q v H'
def DE(X:Cx)(c:Ct)(k:Kd)(e:Expr)(f:GE):Prop:= ∀hid ρ,PE X e (Fm X.K c hid k f ρ)
def pu(f:FE):GE:=λρ=>(f ρ).map λd=>(d,ρ)
theorem BC {f:FE}{ρ ρ':aF}{d:D}(h:pu f ρ=some (d,ρ')):f ρ=some d/\ρ'=ρ:=by
 unfold pu at h;cases e:f ρ with
 |none=>rw[e] at h;cases h
 |some x=>rw[e] at h;cases h;exact⟨rfl,rfl⟩
section
variable {K:W.Frag}{c:Ct}{hid hid':bK}{ρ:aF}{σ:St}{H H':Hp}{i:Nat}{a:Addr}
theorem cu {hid:bK}{a b:Addr}(h:hid b=true):ba hid a b=true:=by unfold ba;rw[h];rfl
theorem eS {hid:bK}{a:Addr}:ba hid a a=true:=by unfold ba;simp
theorem vh {hid:bK}{a b:Addr}(h:ba hid a b=false):hid b=false/\b≠a:=by
 unfold ba at h;cases e:hid b with
 |true=>rw[e] at h;cases h
 |false=>rw[e] at h;exact⟨rfl,by simpa using h⟩
theorem SR.hide(h:SR K c hid ρ σ H)(e:Same H H')(n:H a=none){o:HO}(ho:H' a=some o)(hn: ∀xs,o≠ .tup xs:=by intro _ e;cases e):SR K c (ba hid a) ρ σ H':=by
 have sm:Same (vw H hid) (vw H' (ba hid a)):=λb o q=>by
  obtain⟨q1,q2⟩:=vw_some.mp q
  refine vw_some.mpr ⟨?_,e _ _ q2⟩
  unfold ba;rw[q1];have:b≠a:=be q2 n
  simp[this]
 refine⟨λb hb=>?_,λb xs hb q=>by
  by_cases eb:b=a
  ·subst eb;rw[ho] at q;exact hn _ (Option.some.inj q)
  ·unfold ba at hb
   exact(h.ext e).ht b xs (by simpa [eb] using hb) q,λb q=>cu (h.h0 b q),(h.ext e).kp,(h.ext e).t0,h.c0,h.m0,h.len,λi s q=>?_,h.ap⟩
 ·by_cases eb:b=a
  ·subst eb;exact⟨_,ho⟩
  ·unfold ba at hb
   have:hid b=true:=by simpa [eb] using hb
   obtain⟨o',q⟩:=h.tr b this
   exact⟨o',e _ _ q⟩
 ·have z:=h.sl i s q
  cases s with
  |no=>trivial
  |v d=>obtain⟨x,h1,h2⟩:=z;exact⟨x,h1,h2.mono sm⟩
  |own ds=>obtain⟨a',xs,h1,h2,h3,h4,h5⟩:=z;exact⟨a',xs,h1,e _ _ h2,cu h3,h4,h5.mono sm⟩
  |arg ds=>obtain⟨a',xs,h1,h2,h3,h4,h5⟩:=z;exact⟨a',xs,h1,e _ _ h2,cu h3,h4,h5.mono sm⟩
  |ob b=>obtain⟨a',h1,h2⟩:=z;exact⟨a',h1,h2.mono (λ_=>e a') sm λ_=>cu⟩
theorem SR.show(h:SR K c (ba hid a) ρ σ H)(h0: ∀b,c.hid₀ b=true->hid b=true)(no: ∀i:Nat,Ow ρ[i]? ->σ[i]? ≠some (some (.ref a))):SR K c hid ρ σ H:=by
 have sm:Same (vw H (ba hid a)) (vw H hid):=iR λb q=>cu q
 have un: ∀b,b≠a->ba hid a b=true->hid b=true:=λb nb hb=>by unfold ba at hb;simpa [nb] using hb
 refine⟨λb hb=>h.tr b (cu hb),λb xs hb=>h.ht b xs (cu hb),h0,h.kp,h.t0,h.c0,h.m0,h.len,λi s q=>?_,h.ap⟩
 have z:=h.sl i s q
 cases s with
 |no=>trivial
 |v d=>obtain⟨x,h1,h2⟩:=z;exact⟨x,h1,h2.mono sm⟩
 |own ds=>
  obtain⟨a',xs,h1,h2,h3,h4,h5⟩:=z
  have:a'≠a:=λe=>by subst e;exact no i (by rw[q];trivial) h1
  exact⟨a',xs,h1,h2,un a' this h3,h4,h5.mono sm⟩
 |arg ds=>
  obtain⟨a',xs,h1,h2,h3,h4,h5⟩:=z
  have:a'≠a:=λe=>by subst e;exact no i (by rw[q];trivial) h1
  exact⟨a',xs,h1,h2,un a' this h3,h4,h5.mono sm⟩
 |ob b=>
  obtain⟨a',h1,h2⟩:=z
  exact⟨a',h1,h2.mono (λ_ _ q=>q) sm λow=>un a' λe=>by subst e;exact no i (by rw[q];exact ow) h1⟩
theorem SR.notOw(h:SR K c hid ρ σ H)(n:hid a=false)(i:Nat)(o:Ow ρ[i]?):σ[i]? ≠some (some (.ref a)):=λe=>by
 cases q:ρ[i]? with
 |none=>rw[q] at o;exact o
 |some s=>
  rw[q] at o;have z:=h.sl i s q
  cases s with
  |no=>exact o
  |v d=>exact o
  |own ds=>obtain⟨a',xs,h1,h2,h3,_⟩:=z;rw[e] at h1;cases h1;rw[n] at h3;cases h3
  |arg ds=>obtain⟨a',xs,h1,h2,h3,_⟩:=z;rw[e] at h1;cases h1;rw[n] at h3;cases h3
  |ob b=>obtain⟨a',h1,h2⟩:=z;rw[e] at h1;cases h1;have:=h2.hid o;rw[n] at this;cases this
theorem SR.post {k:Kd}{v:V}{d:D}(h:SR K c hid ρ σ H)(e:Same H H')(r:RK K k H H' hid v d)(hk:k≠ .b):PostE K c hid k ρ σ H H' v d:=by
 cases k with
 |b=>exact absurd rfl hk
 |s=>exact⟨.of e,h.ext e,r⟩
 |n=>
  obtain⟨a,xs,ds,h1,h2,h3,h4,h5⟩:=r
  exact⟨.of e,a,xs,ds,h1,h2,h3,h4,h.fresh0 h3,h.fresh h3,h.hide e h3 h4,h5,h.notOw (h.fresh h3)⟩
theorem PostE.left {k:Kd}{ρ':aF}{H1:Hp}{v:V}{d:D}(s:Kept hid H H1)(p:PostE K c hid k ρ' σ H1 H' v d):PostE K c hid k ρ' σ H H' v d:=by
 cases k with
 |b=>exact⟨s.trans p.1,p.2⟩
 |s=>exact⟨s.trans p.1,p.2⟩
 |n=>
  obtain⟨kp,a,xs,ds,h1,h2,hn,h3,h4,h5,h6⟩:=p
  refine⟨s.trans kp,a,xs,ds,h1,h2,?_,h3,h4,h5,h6⟩
  cases e:H a with
  |none=>rfl
  |some o=>rw[s a o e h5] at hn;cases hn
theorem PostE.toS {ρ':aF}{v:V}{d:D}(h0: ∀b,c.hid₀ b=true->hid b=true)(p:PostE K c hid .n ρ' σ H H' v d):PostE K c hid .s ρ' σ H H' v d:=by
 obtain⟨kp,a,xs,ds,rfl,rfl,hn,h1,h2,h3,h4,h5,h6⟩:=p
 exact⟨kp,h4.show h0 h6,.lst (vw_some.mpr ⟨h3,h1⟩) (h5.mono (iR λb q=>cu q))⟩
end
section
variable {X:Cx}{c:Ct}{e a b:Expr}{es rest:List Expr}{f g:GE}{k:Kd}{pos:Pos}
theorem DP.ef {f:FE}(h:DP X c k e f)(hk:k≠ .b:=by decide):DE X c k e (pu f):=λhid ρ=>PE.imp (h hid ρ) λσ H Q hq_=>by
 obtain⟨sr,d,ρ',hd,q⟩:=hq_
 obtain⟨h1,rfl⟩:=BC hd
 exact⟨sr,d,h1,λv H' s r=>q v H' (sr.post s r hk)⟩
theorem DE.toS(h:DE X c .n e f):DE X c .s e f:=λhid ρ=>PE.imp (h hid ρ) λσ H Q ⟨sr,d,ρ',hd,q⟩=>⟨sr,d,ρ',hd,λv H' p=>q v H' (p.toS sr.h0)⟩
def bE {α:Type}(f:GE)(g:D->aF->Option α):aF->Option α:=λρ=>(f ρ).bind λp=>g p.1 p.2
theorem qd {α:Type}{g:D->aF->Option α}{ρ:aF}{z:α}(h:bE f g ρ=some z): ∃d ρ',f ρ=some (d,ρ')/\g d ρ'=some z:=by
 unfold bE at h;cases e:f ρ with
 |none=>rw[e] at h;cases h
 |some p=>rw[e] at h;exact⟨p.1,p.2,rfl,h⟩
def ue(F:D->D->Option D)(f g:GE):GE:=bE f λx=>bE g λy ρ=>(F x y).map λd=>(d,ρ)
theorem xm {F:D->D->Option D}{ρ ρ':aF}{d:D}(h:ue F f g ρ=some (d,ρ')): ∃x ρ1 y,f ρ=some (x,ρ1)/\g ρ1=some (y,ρ')/\F x y=some d:=by
 obtain⟨x,ρ1,h1,h2⟩:=qd h
 obtain⟨y,ρ2,h3,h4⟩:=qd h2
 cases e:F x y with
 |none=>rw[e] at h4;cases h4
 |some z=>rw[e] at h4;cases h4;exact⟨x,ρ1,y,h1,h3,e⟩
theorem HE {r:R2}{F:D->D->Option D}{hid:bK}{ρ:aF}(hF:mN X.K k r F)(hk:k≠ .b){σ:St}{H:Hp}{Q:VK}(h:Fm X.K c hid k (ue F f g) ρ σ H Q):Fk r (Fm X.K c hid .s f ρ) (λσ H Q=> ∃ρ1,Fm X.K c hid .s g ρ1 σ H Q) σ H Q:=by
 obtain⟨sr,d,ρ',hd,q⟩:=h
 obtain⟨x,ρ1,y,e1,e2,e3⟩:=xm hd
 refine⟨sr,x,ρ1,e1,λv H1 ⟨k1,s1,r1⟩=>⟨ρ1,s1,y,ρ',e2,λu H2 ⟨k2,s2,r2⟩=>?_⟩⟩
 exact hF H2 hid v u x y d Q (λa n=>s2.fresh n) e3 (.inl (r1.mono k2.vw)) (.inl r2) λw H' s3 r3=>q w H' (PostE.left (k1.trans k2) (s2.post s3 r3 hk))
theorem oy {α:Type}{t:α->TE}(h: ∀z,PE X e (t z)):PE X e (λσ H Q=> ∃z,t z σ H Q):=λae s σ H Q I ⟨z,q⟩=>h z ae s σ H Q I q
def II(K:W.Frag)(c:Ct)(hid:bK)(f:GA)(ρ:aF):TA:=λσ H Q=>SR K c hid ρ σ H/\ ∃d ρ',f ρ=some (d,ρ')/\ ∀vs H',Kept hid H H'->SR K c hid ρ' σ H'->Reps K (vw H' hid) vs d->Q vs H'
def DG(X:Cx)(c:Ct)(es:List Expr)(f:GA):Prop:= ∀hid ρ,PA X es (II X.K c hid f ρ)
def bL(f:FA):GA:=λρ=>(f ρ).map λd=>(d,ρ)
theorem sY {f:FA}{ρ ρ':aF}{d:List D}(h:bL f ρ=some (d,ρ')):f ρ=some d/\ρ'=ρ:=by
 unfold bL at h;cases e:f ρ with
 |none=>rw[e] at h;cases h
 |some x=>rw[e] at h;cases h;exact⟨rfl,rfl⟩
theorem DA.gf {f:FA}(h:DA X c es f):DG X c es (bL f):=λhid ρ=>PA.imp (h hid ρ) λσ H Q hq_=>by
 obtain⟨sr,d,ρ',hd,q⟩:=hq_
 obtain⟨h1,rfl⟩:=sY hd
 exact⟨sr,d,h1,λv H' s r=>q v H' (.of s) (sr.ext s) r⟩
def da(f:GE)(fs:GA):GA:=bE f λd ρ=>(fs ρ).map λp=>(d::p.1,p.2)
theorem Go {α:Type}{t:α->TA}(h: ∀z,PA X es (t z)):PA X es (λσ H Q=> ∃z,t z σ H Q):=λp ae s σ H Q I ⟨z,q⟩=>h z p ae s σ H Q I q
theorem gR {fs:GA}(ha:DE X c .s e f)(hr:DG X c es fs)(hs:starEach (e::es) X.env=(false,eval e X.env)::starEach es X.env:=by rfl):DG X c (e::es) (da f fs):=λhid ρ=>
 PA.imp (eA (ha hid ρ) (Go λρ1=>hr hid ρ1) hs) λσ H Q hq_=>by
  obtain⟨sr,d,ρ',hd,q⟩:=hq_
  obtain⟨d1,ρ1,e1,h2⟩:=qd hd
  cases e2:fs ρ1 with
  |none=>rw[e2] at h2;cases h2
  |some p=>
   rw[e2] at h2;obtain⟨ds,ρ2⟩:=p
   cases h2
   exact⟨sr,d1,ρ1,e1,λv H1 ⟨k1,s1,r1⟩=>⟨ρ1,s1,ds,_,e2,λvs H2 k2 s2 r2=>q _ H2 (k1.trans k2) s2 (.cons (r1.mono k2.vw) r2)⟩⟩
end
def dX(K:W.Frag)(k:Kd)(n:Nat)(P:List D->Option D):Sp:=λvs H Q _=> ∃hid ds,Fo hid H/\Reps K (vw H hid) vs ds/\ds.length=n/\ ∃d,P ds=some d/\ ∀v H',Same H H'->RK K k H H' hid v d->Q v H'
def Gg(K:W.Frag)(k:Kd)(hid:bK)(H H':Hp)(v:V)(d:D)(xs':List V)(bs':List D):Prop:=match k with
 | .n=> ∃p ys es,d=.lst es/\v=.ref p/\H p=none/\H' p=some (.lst ys)/\Reps K (vw H' (ba hid p)) ys es/\Reps K (vw H' (ba hid p)) xs' bs'
 |_=>Rep K (vw H' hid) v d/\Reps K (vw H' hid) xs' bs'
def si(K:W.Frag)(k:Kd)(n:Nat)(M:List D->List D->Option (D×List D)):Sp:=λvs H Q _=> ∃hid a xs bs us ds,vs=.ref a::us/\Fo hid H/\hid a=true/\H a=some (.lst xs)/\Reps K (vw H hid) xs bs/\
 Reps K (vw H hid) us ds/\ds.length=n/\ ∃d bs',M bs ds=some (d,bs')/\ ∀v H' xs',(∀b o,H b=some o->b≠a->H' b=some o)->H' a=some (.lst xs')->Gg K k hid H H' v d xs' bs'->Q v H'
section
variable {X:Cx}{c:Ct}{e a b:Expr}{es rest:List Expr}{k:Kd}{pos p:Pos}{x:Str}{f:Addr}{fd:FuncData}{ps:List Str}{j n:Nat}
theorem Cu {P:List D->Option D}{fs:FA}(F:FnOk X.prog X.w X.K X.mg X.base rM j f fd ps (dX X.K k n P))(hr:Room j X.A)(hm:X.mg x=some (.ref f))(hk:W.keepIn X.K (.ref f)=true)(hb:Binds X.K fd ps [])
 (ha:DA X c (e::es) fs) (hg:Gl X x:=by rfl) (hdb:(x==("__debug__":Str))=false:=by decide) (he:starEach (e::es) X.env=(false,eval e X.env)::starEach es X.env:=by rfl) (hpl:(backTo pos (starEach es X.env)).any (·.1)=false:=by rfl):
 DP X c k (.Call (.Name x p) (e::es) [] pos) (ao (λds=>if ds.length=n then P ds else none) fs):=λhid ρ=>
 PE.imp (qU F hr hg hm hk hb .nil (yA (X:=X)) (ha hid ρ) hdb he hpl) λσ H Q hq_=>by
  obtain⟨sr,d,hd,q⟩:=hq_
  obtain⟨ds,e1,e2⟩:=nO hd
  have e2':(if ds.length=n then P ds else none)=some d:=e2
  split at e2'
  ·refine⟨sr,ds,e1,λvs H1 s1 r1=>?_⟩
   show dX X.K k n P (vs++[]) H1 Q E0;rw[List.append_nil];exact⟨hid,ds,(sr.ext s1).trk,r1, ‹_›,d,e2',λv H' s2 r2=>q v H' (s1.trans s2) (RK.left s1 r2)⟩
  ·cases e2'
def g6(i:Nat)(bs:List D)(ρ:aF):aF:=match ρ[i]? with
 |some (.own _)=>ρ.set i (.own bs)
 |some (.arg _)=>ρ.set i (.arg bs)
 |_=>ρ
def iI(i:Nat)(ρ:aF):Option (List D):=match ρ[i]? with
 |some (.own ds)=>some ds
 |some (.arg ds)=>some ds
 |_=>none
theorem iC {i:Nat}{ρ:aF}{bs:List D}(h:iI i ρ=some bs):ρ[i]? =some (.own bs)\/ρ[i]? =some (.arg bs):=by
 unfold iI at h;split at h
 ·cases h;exact .inl ‹_›
 ·cases h;exact .inr ‹_›
 ·cases h
theorem SR.held {K:W.Frag}{hid:bK}{ρ:aF}{σ:St}{H:Hp}{i:Nat}{bs:List D}(h:SR K c hid ρ σ H)(hg:iI i ρ=some bs): ∃a xs,σ[i]? =some (some (.ref a))/\H a=some (.lst xs)/\hid a=true/\Reps K (vw H hid) xs bs/\(c.mu a=true\/c.H₀ a=none):=by
 rcases iC hg with e|e
 ·obtain⟨a,xs,h1,h2,h3,h4,h5⟩:=h.sl i _ e
  exact⟨a,xs,h1,h2,h3,h5,.inr h4⟩
 ·obtain⟨a,xs,h1,h2,h3,h4,h5⟩:=h.sl i _ e
  exact⟨a,xs,h1,h2,h3,h5,.inl h4⟩
theorem ke {i j:Nat}{ρ:aF}{bs:List D}(h:j≠i):(g6 i bs ρ)[j]? =ρ[j]? :=by
 unfold g6;split
 ·rw[List.getElem?_set_ne (Ne.symm h)]
 ·rw[List.getElem?_set_ne (Ne.symm h)]
 ·rfl
theorem zU {i:Nat}{ρ:aF}{bs:List D}:(g6 i bs ρ).length=ρ.length:=by
 unfold g6;split
 ·simp
 ·simp
 ·rfl
theorem qL {i j:Nat}{ρ:aF}{bs:List D}(h:Ow (g6 i bs ρ)[j]?):Ow ρ[j]? :=by
 by_cases e:j=i
 ·subst e
  unfold g6 at h;split at h
  ·rw[‹ρ[j]? =_›];trivial
  ·rw[‹ρ[j]? =_›];trivial
  ·exact h
 ·rw[ke e] at h;exact h
theorem SR.put {K:W.Frag}{hid:bK}{ρ:aF}{σ:St}{H H':Hp}{i:Nat}{bs bs':List D}{a:Addr}{xs':List V}(h:SR K c hid ρ σ H)(hg:iI i ρ=some bs)(ha:σ[i]? =some (some (.ref a)))(kp: ∀b o,H b=some o->b≠a->H' b=some o)
 (hx:H' a=some (.lst xs')) (r:Reps K (vw H' hid) xs' bs'):SR K c hid (g6 i bs' ρ) σ H':=by
 obtain⟨a1,xs,h1,h2,h3,h4,h5⟩:=h.held hg
 rw[ha] at h1;cases h1;have sm:Same (vw H hid) (vw H' hid):=vN λb o q hb=>kp b o q (λe=>by subst e;rw[h3] at hb;cases hb)
 have tr': ∀b o,H b=some o-> ∃o',H' b=some o':=λb o q=>by
  by_cases e:b=a
  ·subst e;exact⟨_,hx⟩
  ·exact⟨o,kp b o q e⟩
 refine⟨λb hb=>let⟨o,q⟩:=h.tr b hb;tr' b o q,λb xs hb q=>by
  by_cases e:b=a
  ·subst e;rw[hx] at q;cases q
  ·obtain⟨o,w⟩:=h.tr b hb
   have z:=kp b o w e
   rw[q] at z;cases z;exact h.ht b xs hb w,h.h0,λb o q m=>?_,λb o q=>let⟨o',q'⟩:=h.t0 b o q;tr' b o' q',h.c0,h.m0,by rw[zU];exact h.len,λj s q=>?_,λj l z n o1 o2=>h.ap j l z n (qL o1) (qL o2)⟩
 ·refine kp b o (h.kp b o q m) λe=>?_
  subst e;rcases h5 with h5|h5
  ·rw[h5] at m;cases m
  ·rw[h5] at q;cases q
 ·by_cases e:j=i
  ·subst e
   rcases iC hg with w|w
   ·have lt:=(List.getElem?_eq_some_iff.mp w).1
    unfold g6 at q;rw[w] at q;dsimp only at q;rw[List.getElem?_set_self lt] at q;cases q
    obtain⟨a2,xs2,g1,g2,g3,g4,g5⟩:=h.sl j _ w
    rw[ha] at g1;cases g1;exact⟨_,xs',ha,hx,g3,g4,r⟩
   ·have lt:=(List.getElem?_eq_some_iff.mp w).1
    unfold g6 at q;rw[w] at q;dsimp only at q;rw[List.getElem?_set_self lt] at q;cases q
    obtain⟨a2,xs2,g1,g2,g3,g4,g5⟩:=h.sl j _ w
    rw[ha] at g1;cases g1;exact⟨_,xs',ha,hx,g3,g4,r⟩
  ·rw[ke e] at q
   have z:=h.sl j s q
   cases s with
   |no=>trivial
   |v d=>obtain⟨x,h1,h2⟩:=z;exact⟨x,h1,h2.mono sm⟩
   |own ds=>
    obtain⟨a',xs,z1,z2,z3,z4,z5⟩:=z
    have ne:a'≠a:=λe'=>by
     subst e';refine h.ap j i a' e (by rw[q];trivial) ?_ z1 ha
     rcases iC hg with w|w<;>rw[w]<;>trivial
    exact⟨a',xs,z1,kp _ _ z2 ne,z3,z4,z5.mono sm⟩
   |arg ds=>
    obtain⟨a',xs,z1,z2,z3,z4,z5⟩:=z
    have ne:a'≠a:=λe'=>by
     subst e';refine h.ap j i a' e (by rw[q];trivial) ?_ z1 ha
     rcases iC hg with w|w<;>rw[w]<;>trivial
    exact⟨a',xs,z1,kp _ _ z2 ne,z3,z4,z5.mono sm⟩
   |ob b=>
    obtain⟨a',z1,z2⟩:=z
    refine⟨a',z1,z2.mono (λow o w=>kp _ _ w λe'=>?_) sm λ_ w=>w⟩
    subst e';refine h.ap j i a' e (by rw[q];exact ow) ?_ z1 ha
    rcases iC hg with w|w<;>rw[w]<;>trivial
def aN(i n:Nat)(M:List D->List D->Option (D×List D))(fs:GA):GE:=λρ=>match iI i ρ with
 |none=>none
 |some _=>match fs ρ with
  |none=>none
  |some (ds,ρ1)=>match iI i ρ1 with
   |none=>none
   |some bs=>if ds.length=n then match M bs ds with
     |none=>none
     |some (d,bs')=>some (d,g6 i bs' ρ1) else none
theorem oe {i:Nat}{M:List D->List D->Option (D×List D)}{fs:GA}{ρ ρ':aF}{d:D}(h:aN i n M fs ρ=some (d,ρ')): ∃bs0 ds ρ1 bs bs',iI i ρ=some bs0/\fs ρ=some (ds,ρ1)/\iI i ρ1=some bs/\ds.length=n/\M bs ds=some (d,bs')/\ρ'=g6 i bs' ρ1:=by
 unfold aN at h;split at h
 ·cases h
 ·split at h
  ·cases h
  ·split at h
   ·cases h
   ·split at h
    ·split at h
     ·cases h
     ·cases h;exact⟨_,_,_,_,_, ‹_›, ‹_›, ‹_›, ‹_›, ‹_›,rfl⟩
    ·cases h
theorem zg(i:Nat){y:Str}{py:Pos}{M:List D->List D->Option (D×List D)}{fs:GA}(F:FnOk X.prog X.w X.K X.mg X.base rM j f fd ps (si X.K k n M))(hr:Room j X.A)(hm:X.mg x=some (.ref f))(hk:W.keepIn X.K (.ref f)=true)(hb:Binds X.K fd ps [])
 (ha:DG X c es fs) (hkb:k≠ .b:=by decide) (hN:X.N[i]? =some y:=by rfl) (hv:qB X.env.scope y:=by first|exact Or.inl rfl|exact Or.inr (Or.inl rfl)|exact Or.inr (Or.inr rfl)) (hd:(y==("__debug__":Str))=false:=by decide)
 (hcd:(y==("__classdict__":Str))=false:=by decide) (hs:starEach (.Name y py::es) X.env=(false,eval (.Name y py) X.env)::starEach es X.env:=by rfl) (hg:Gl X x:=by rfl) (hdb:(x==("__debug__":Str))=false:=by decide) (hpl:(backTo pos (starEach es X.env)).any (·.1)=false:=by rfl):
 DE X c k (.Call (.Name x p) (.Name y py::es) [] pos) (aN i n M fs):=λhid ρ=>
 PE.imp (qU F hr hg hm hk hb .nil (yA (X:=X)) (eA (pv i hN hv hd hcd) (ha hid ρ) hs) hdb hs hpl) λσ H Q hq_=>by
  obtain⟨sr,d,ρ',hd',q⟩:=hq_
  obtain⟨bs0,ds,ρ1,bs,bs',e0,e1,e2,e3,e4,rfl⟩:=oe hd'
  obtain⟨a,xs0,a1,_,a3,_,_⟩:=sr.held e0
  refine⟨.ref a,a1,sr,ds,ρ1,e1,λus H1 k1 s1 r1=>?_⟩
  obtain⟨a',xs,b1,b2,b3,b4,b5⟩:=s1.held e2
  rw[a1] at b1;cases b1;show si X.K k n M ((.ref a::us)++[]) H1 Q E0;rw[List.append_nil];refine⟨hid,a,xs,bs,us,ds,rfl,s1.trk,b3,b2,b4,r1,e3,d,bs',e4,λv H' xs' kp hx hr'=>q v H' ?_⟩
  have kp':Kept hid H1 H':=λb o q hb=>kp b o q λe=>by subst e;rw[b3] at hb;cases hb
  cases k with
  |b=>exact absurd rfl hkb
  |s=>exact⟨k1.trans kp',s1.put e2 a1 kp hx hr'.2,hr'.1⟩
  |n=>
   obtain⟨p',ys,es',rfl,rfl,h1,h2,h3,h4⟩:=hr'
   have np:hid p'=false:=s1.fresh h1
   have na:a≠p':=λe=>by subst e;rw[b2] at h1;cases h1
   have sB:SR X.K c (ba hid p') ρ1 σ (bN H1 p' (.lst ys)):=s1.hide (aX h1 _) h1 aL
   have kp2: ∀b o,(bN H1 p' (.lst ys)) b=some o->b≠a->H' b=some o:=λb o z hb=>by
    by_cases e:b=p'
    ·subst e;rw[aL] at z;cases z;exact h2
    ·rw[aH e] at z;exact kp b o z hb
   have sC:SR X.K c (ba hid p') (g6 i bs' ρ1) σ H':=sB.put e2 a1 kp2 hx h4
   have hn:H p'=none:=by
    cases e:H p' with
    |none=>rfl
    |some o=>rw[k1 p' o e np] at h1;cases h1
   refine⟨k1.trans kp',p',ys,es',rfl,rfl,hn,h2,s1.fresh0 h1,np,sC,h3,λm hm hσ=>?_⟩
   have:=s1.notOw np m (qL hm)
   exact this hσ
end
inductive Out where
 |nx (ρ:aF)|rt (d:D) (ρ:aF)|bk (ρ:aF)|ct (ρ:aF)|no
abbrev FS:=aF->Out
def HA(c:Ct)(k:Kd)(v:V):bK:=match k,v with
 | .n,.ref a=>ba c.hid₀ a
 |_,_=>c.hid₀
structure Ret(K:W.Frag)(c:Ct)(k:Kd)(ρ':aF)(H':Hp)(v:V)(d:D):Prop where
 kp: ∀b o,c.H₀ b=some o->c.mu b=false->H' b=some o
 val:match k with
  | .n=> ∃a xs ds,d=.lst ds/\v=.ref a/\c.H₀ a=none/\H' a=some (.lst xs)/\Reps K (vw H' (ba c.hid₀ a)) xs ds
  |_=>Rep K (vw H' c.hid₀) v d
 arg: ∀(i:Nat) (bs:List D),ρ'[i]? =some (Sl.arg bs)-> ∃a xs,c.mu a=true/\H' a=some (.lst xs)/\Reps K (vw H' (HA c k v)) xs bs
def EndOk(K:W.Frag)(c:Ct)(k:Kd)(D:Ends)(W:Hp):Out->Prop
 | .nx ρ'=> ∀σ' H' hid',SR K c hid' ρ' σ' H'->Same W (vw H' hid')->D.nx σ' H'
 | .rt d ρ'=> ∀v H',Ret K c k ρ' H' v d->D.rt v H'
 | .bk ρ'=> ∀σ' H' hid',SR K c hid' ρ' σ' H'->Same W (vw H' hid')->D.bk σ' H'
 | .ct ρ'=> ∀σ' H' hid',SR K c hid' ρ' σ' H'->Same W (vw H' hid')->D.ct σ' H'
 | .no=>False
theorem EndOk.mono {K:W.Frag}{c:Ct}{k:Kd}{D:Ends}{W W':Hp}{o:Out}(h:EndOk K c k D W o)(s:Same W W'):EndOk K c k D W' o:=by
 cases o with
 |nx ρ=>exact λσ' H' hid' z w=>h σ' H' hid' z (s.trans w)
 |rt d ρ=>exact h
 |bk ρ=>exact λσ' H' hid' z w=>h σ' H' hid' z (s.trans w)
 |ct ρ=>exact λσ' H' hid' z w=>h σ' H' hid' z (s.trans w)
 |no=>exact h
def ID(K:W.Frag)(c:Ct)(k:Kd)(t:FS)(ρ:aF):TS:=λD σ H=> ∃hid,SR K c hid ρ σ H/\EndOk K c k D (vw H hid) (t ρ)
def DS(X:Cx)(c:Ct)(k:Kd)(st:Stmt)(t:FS):Prop:= ∀ρ,PS X st (ID X.K c k t ρ)
def ua(X:Cx)(c:Ct)(k:Kd)(st:List Stmt)(t:FS):Prop:= ∀ρ,PSs X st (ID X.K c k t ρ)
section
variable {X:Cx}{c:Ct}{k:Kd}{st:Stmt}{sts rest:List Stmt}{t u:FS}{e:Expr}{pos:Pos}
theorem su {α:Type}{t:α->TS}(h: ∀z,PSs X sts (t z)):PSs X sts (λD σ H=> ∃z,t z D σ H):=λae s σ H D I ⟨z,q⟩=>h z ae s σ H D I q
theorem Fi {α:Type}{t:α->TT}(h: ∀z,PT X e (t z)):PT X e (λD σ H=> ∃z,t z D σ H):=λae s σ H D I ⟨z,q⟩=>h z ae s σ H D I q
def skip:FS:=λρ=>.nx ρ
def aB(t u:FS):FS:=λρ=>match t ρ with
 | .nx ρ'=>u ρ'
 | .rt d ρ'=>.rt d ρ'
 | .bk ρ'=>.bk ρ'
 | .ct ρ'=>.ct ρ'
 | .no=>.no
theorem bh:ua X c k [] skip:=λρ=>PSs.imp BS λD σ H ⟨hid,sr,q⟩=>q σ H hid sr (Same.refl _)
theorem az(h:DS X c k st t):ua X c k [st] t:=λρ=>BQ (h ρ)
theorem aj(h1:DS X c k st t)(h2:ua X c k rest u):ua X c k (st::rest) (aB t u):=λρ=>
 PSs.imp (yr (h1 ρ) (su λρ1=>h2 ρ1)) λD σ H hq_=>by
  obtain⟨hid,sr,q⟩:=hq_
  refine⟨hid,sr,?_⟩
  unfold aB at q;cases e:t ρ with
  |nx ρ1=>rw[e] at q;exact λσ1 H1 hid1 sr1 v1=>⟨ρ1,hid1,sr1,EndOk.mono q v1⟩
  |rt d ρ1=>rw[e] at q;exact q
  |bk ρ1=>rw[e] at q;exact q
  |ct ρ1=>rw[e] at q;exact q
  |no=>rw[e] at q;exact q
def uk:FS:=λρ=>.bk ρ
theorem yi:DS X c k (.Break pos) uk:=λρ=>PS.imp Ai λD σ H ⟨hid,sr,q⟩=>q σ H hid sr (Same.refl _)
def cM(p:FT)(t u:FS):FS:=λρ=>match p ρ with
 |some true=>t ρ
 |some false=>u ρ
 |none=>.no
theorem cy {p:FT}{a b:List Stmt}(hp:DT X c e p)(ha:ua X c k a t)(hb:ua X c k b u):DS X c k (.If e a b pos) (cM p t u):=λρ=>
 PS.imp (Di (Fi λhid=>hp hid ρ) (ha ρ) (hb ρ)) λD σ H hq_=>by
  obtain⟨hid,sr,q⟩:=hq_
  cases e1:p ρ with
  |none=>unfold cM at q;rw[e1] at q;exact q.elim
  |some x=>
   refine⟨hid,sr,x,e1,λH1 s1=>?_⟩
   unfold cM at q;rw[e1] at q;cases x with
   |true=>exact qp ⟨hid,sr.ext s1,EndOk.mono q (aR s1)⟩
   |false=>exact qR ⟨hid,sr.ext s1,EndOk.mono q (aR s1)⟩
def aY(f:FE):FS:=λρ=>match f ρ with
 |some d=>.rt d ρ
 |none=>.no
theorem De {K:W.Frag}{hid:bK}{ρ':aF}{σ:St}{H H':Hp}{v:V}{d:D}(hk:k≠ .b)(p:PostE K c hid k ρ' σ H H' v d)(h0: ∀b,c.hid₀ b=true->hid b=true):Ret K c k ρ' H' v d:=by
 cases k with
 |b=>exact absurd rfl hk
 |s=>
  obtain⟨_,sr,r⟩:=p
  refine⟨sr.kp,r.mono (iR sr.h0),λi bs e=>?_⟩
  obtain⟨a,xs,z1,z2,z3,z4,z5⟩:=sr.sl i _ e
  refine⟨a,xs,z4,z2,?_⟩
  show Reps K (vw H' c.hid₀) xs bs;exact z5.mono (iR sr.h0)
 |n=>
  obtain⟨_,a,xs,ds,rfl,rfl,_,h1,h2,h3,sr,h5,h6⟩:=p
  have le:Same (vw H' (ba hid a)) (vw H' (ba c.hid₀ a)):=iR λb q=>by
   unfold ba at q⊢;cases e:c.hid₀ b with
   |true=>rw[h0 b e];rfl
   |false=>rw[e] at q;rw[Bool.or_eq_true];right;simpa using q
  refine⟨sr.kp,⟨a,xs,ds,rfl,rfl,h2,h1,h5.mono le⟩,λi bs e=>?_⟩
  obtain⟨a',xs',z1,z2,z3,z4,z5⟩:=sr.sl i _ e
  exact⟨a',xs',z4,z2,z5.mono le⟩
theorem aW {f:FE}(he:DP X c k e f)(hk:k≠ .b:=by decide):DS X c k (.Return (some e) pos) (aY f):=λρ=>PS.imp (zK (oy λhid=>he hid ρ)) λD σ H hq_=>by
 obtain⟨hid,sr,q⟩:=hq_
 unfold aY at q;cases e1:f ρ with
 |none=>rw[e1] at q;exact q.elim
 |some z=>rw[e1] at q;exact⟨hid,sr,_,e1,λv H' s r=>q v H' (De hk (sr.post s r hk) sr.h0)⟩
def yq:Option Sl->Option (List D)
 |some (.own ds)=>some ds
 |_=>none
def ya(i:Nat):FS:=λρ=>match yq ρ[i]? with
 |some ds=>.rt (.lst ds) ρ
 |none=>.no
theorem w6 {o:Option Sl}{ds:List D}(h:yq o=some ds):o=some (.own ds):=by
 unfold yq at h;split at h
 ·cases h;rfl
 ·cases h
theorem wu(i:Nat){x:Str}{pos':Pos}(hN:X.N[i]? =some x:=by rfl)(hv:qB X.env.scope x:=by first|exact Or.inl rfl|exact Or.inr (Or.inl rfl)|exact Or.inr (Or.inr rfl))(hd:(x==("__debug__":Str))=false:=by decide)
 (hcd:(x==("__classdict__":Str))=false:=by decide):DS X c .n (.Return (some (.Name x pos')) pos) (ya i):=λρ=>PS.imp (zK (pv i hN hv hd hcd)) λD σ H hq_=>by
 obtain⟨hid,sr,q⟩:=hq_
 unfold ya at q;cases e0:yq ρ[i]? with
 |none=>rw[e0] at q;exact q.elim
 |some ds=>
  rw[e0] at q;have e:=w6 e0
  obtain⟨a,xs,z1,z2,z3,z4,z5⟩:=sr.sl i _ e
  have le:Same (vw H hid) (vw H (ba c.hid₀ a)):=iR λb w=>by
   unfold ba at w;cases e:c.hid₀ b with
   |true=>exact sr.h0 b e
   |false=>
    rw[e] at w;have:b=a:=by simpa using w
    rw[this];exact z3
  refine⟨_,z1,q _ H ⟨sr.kp,⟨a,xs,ds,rfl,rfl,z4,z2,z5.mono le⟩,λj bs e'=>?_⟩⟩
  obtain⟨a',xs',w1,w2,w3,w4,w5⟩:=sr.sl j _ e'
  exact⟨a',xs',w4,w2,w5.mono le⟩
end
section
variable {K:W.Frag}{c:Ct}{hid:bK}{ρ:aF}{σ:St}{H H':Hp}{i:Nat}{a:Addr}{v:V}{d:D}
theorem SR.setV(h:SR K c hid ρ σ H)(r:Rep K (vw H hid) v d)(i:Nat):SR K c hid (ρ.set i (.v d)) (σ.set i (some v)) H:=by
 refine⟨h.tr,h.ht,h.h0,h.kp,h.t0,h.c0,h.m0,by simp[h.len],λj s q=>?_,λj l z n o1 o2 q1 q2=>?_⟩
 ·by_cases e:j=i
  ·subst e
   have lt:j<ρ.length:=by
    have:=(List.getElem?_eq_some_iff.mp q).1
    simpa using this
   rw[List.getElem?_set_self lt] at q;cases q
   exact⟨v,List.getElem?_set_self (by rw[h.len];exact lt),r⟩
  ·rw[List.getElem?_set_ne (Ne.symm e)] at q
   have w:=h.sl j s q
   have es:(σ.set i (some v))[j]? =σ[j]? :=List.getElem?_set_ne (Ne.symm e)
   cases s with
   |no=>trivial
   |v d=>obtain⟨x,h1,h2⟩:=w;exact⟨x,es.trans h1,h2⟩
   |own ds=>obtain⟨a,xs,h1,h2⟩:=w;exact⟨a,xs,es.trans h1,h2⟩
   |arg ds=>obtain⟨a,xs,h1,h2⟩:=w;exact⟨a,xs,es.trans h1,h2⟩
   |ob b=>obtain⟨a,h1,h2⟩:=w;exact⟨a,es.trans h1,h2⟩
 ·have nj: ∀m,Ow (ρ.set i (.v d))[m]? ->m≠i:=λm o e=>by
   subst e
   by_cases lt:m<ρ.length
   ·rw[List.getElem?_set_self lt] at o;exact o
   ·rw[List.getElem?_eq_none (by simpa using lt)] at o;exact o
  have e1:=nj j o1
  have e2:=nj l o2
  rw[List.getElem?_set_ne (Ne.symm e1)] at o1 q1;rw[List.getElem?_set_ne (Ne.symm e2)] at o2 q2;exact h.ap j l z n o1 o2 q1 q2
theorem SR.setO {xs:List V}{ds:List D}(h:SR K c hid ρ σ H)(ha:H a=some (.lst xs))(hh:hid a=true)(h0:c.H₀ a=none)(r:Reps K (vw H hid) xs ds)(no: ∀i:Nat,Ow ρ[i]? ->σ[i]? ≠some (some (.ref a)))(i:Nat):
 SR K c hid (ρ.set i (.own ds)) (σ.set i (some (.ref a))) H:=by
 refine⟨h.tr,h.ht,h.h0,h.kp,h.t0,h.c0,h.m0,by simp[h.len],λj s q=>?_,λj l z n o1 o2 q1 q2=>?_⟩
 ·by_cases e:j=i
  ·subst e
   have lt:j<ρ.length:=by
    have:=(List.getElem?_eq_some_iff.mp q).1
    simpa using this
   rw[List.getElem?_set_self lt] at q;cases q
   exact⟨a,xs,List.getElem?_set_self (by rw[h.len];exact lt),ha,hh,h0,r⟩
  ·rw[List.getElem?_set_ne (Ne.symm e)] at q
   have w:=h.sl j s q
   have es:(σ.set i (some (V.ref a)))[j]? =σ[j]? :=List.getElem?_set_ne (Ne.symm e)
   cases s with
   |no=>trivial
   |v d=>obtain⟨x,h1,h2⟩:=w;exact⟨x,es.trans h1,h2⟩
   |own ds=>obtain⟨a,xs,h1,h2⟩:=w;exact⟨a,xs,es.trans h1,h2⟩
   |arg ds=>obtain⟨a,xs,h1,h2⟩:=w;exact⟨a,xs,es.trans h1,h2⟩
   |ob b=>obtain⟨a,h1,h2⟩:=w;exact⟨a,es.trans h1,h2⟩
 ·by_cases e1:j=i
  ·subst e1
   have e2:l≠j:=λe=>n e.symm
   rw[List.getElem?_set_ne (Ne.symm e2)] at o2 q2
   by_cases lt:j<σ.length
   ·rw[List.getElem?_set_self lt] at q1;cases q1;exact no l o2 q2
   ·rw[List.getElem?_eq_none (by simpa using lt)] at q1;cases q1
  ·rw[List.getElem?_set_ne (Ne.symm e1)] at o1 q1
   by_cases e2:l=i
   ·subst e2
    by_cases lt:l<σ.length
    ·rw[List.getElem?_set_self lt] at q2;cases q2;exact no j o1 q1
    ·rw[List.getElem?_eq_none (by simpa using lt)] at q2;cases q2
   ·rw[List.getElem?_set_ne (Ne.symm e2)] at o2 q2
    exact h.ap j l z n o1 o2 q1 q2
end
section
variable {X:Cx}{c:Ct}{k:Kd}{st:Stmt}{sts rest:List Stmt}{t u:FS}{e:Expr}{es:List Expr}{pos pos':Pos}{x:Str}{i:Nat}
def jc(i:Nat)(f:GE):FS:=λρ=>match f ρ with
 |some (d,ρ')=>.nx (ρ'.set i (.v d))
 |none=>.no
def aQ(i:Nat)(f:FE):FS:=λρ=>match f ρ with
 |some d=>.nx (ρ.set i (.v d))
 |none=>.no
def Ie:D->Option (List D)
 | .lst ds=>some ds
 |_=>none
def zu(i:Nat)(f:GE):FS:=λρ=>match f ρ with
 |some (d,ρ')=>(match Ie d with
  |some ds=>.nx (ρ'.set i (.own ds))
  |none=>.no)
 |none=>.no
def fX(i:Nat)(f:FE):FS:=λρ=>match f ρ with
 |some d=>(match Ie d with
  |some ds=>.nx (ρ.set i (.own ds))
  |none=>.no)
 |none=>.no
theorem nu(i:Nat){f:GE}(hn:X.N.Nodup)(he:DE X c .s e f)(hi:X.N[i]? =some x:=by rfl)(hx:yd X.env.scope x:=by first|exact Or.inl rfl|exact Or.inr rfl)(hs:swapsWith e (some (.Name x pos')) pos.line X.env=pure false:=by rfl)
 (hf:X.fn x=true\/X.env.scope.names.lookup x=some .local:=by first|exact .inl rfl|exact .inr rfl|assumption):DS X c k (.Assign [.Name x pos'] e pos) (jc i f):=λρ=>PS.imp (oz hn hi hx (oy λhid=>he hid ρ) hs hf) λD σ H hq_=>by
 obtain⟨hid,sr,q⟩:=hq_
 unfold jc at q;cases e1:f ρ with
 |none=>rw[e1] at q;exact q.elim
 |some z=>
  rw[e1] at q;exact⟨hid,sr,z.1,z.2,e1,λv H' ⟨kp,s',r⟩=>q _ H' hid (s'.setV r i) kp.vw⟩
theorem aO(i:Nat){f:FE}(hn:X.N.Nodup)(he:DP X c .s e f)(hi:X.N[i]? =some x:=by rfl)(hx:yd X.env.scope x:=by first|exact Or.inl rfl|exact Or.inr rfl)(hs:swapsWith e (some (.Name x pos')) pos.line X.env=pure false:=by rfl)
 (hf:X.fn x=true\/X.env.scope.names.lookup x=some .local:=by first|exact .inl rfl|exact .inr rfl|assumption):DS X c k (.Assign [.Name x pos'] e pos) (aQ i f):=λρ=>PS.imp (oz hn hi hx (oy λhid=>he hid ρ) hs hf) λD σ H hq_=>by
 obtain⟨hid,sr,q⟩:=hq_
 unfold aQ at q;cases e1:f ρ with
 |none=>rw[e1] at q;exact q.elim
 |some z=>
  rw[e1] at q;exact⟨hid,sr,z,e1,λv H' s' r=>q _ H' hid ((sr.ext s').setV r i) (aR s')⟩
theorem GW {K:W.Frag}{hid:bK}{ρ':aF}{σ:St}{H H':Hp}{v:V}{d:D}{D:Ends}(p:PostE K c hid .n ρ' σ H H' v d)(q:EndOk K c k D (vw H hid) (match Ie d with
 |some ds=>.nx (ρ'.set i (.own ds))
 |none=>.no)):D.nx (σ.set i (some v)) H':=by
 obtain⟨kp,a,xs,ds,rfl,rfl,hn,h1,h2,h3,h4,h5,h6⟩:=p
 refine q _ H' (ba hid a) (h4.setO h1 eS h2 h5 h6 i) λb o w=>?_
 obtain⟨w1,w2⟩:=vw_some.mp w
 refine vw_some.mpr ⟨?_,kp b o w2 w1⟩
 unfold ba;rw[w1];have:b≠a:=be w2 hn
 simp[this]
theorem gj(i:Nat){f:FE}(hn:X.N.Nodup)(he:DP X c .n e f)(hi:X.N[i]? =some x:=by rfl)(hx:yd X.env.scope x:=by first|exact Or.inl rfl|exact Or.inr rfl)(hs:swapsWith e (some (.Name x pos')) pos.line X.env=pure false:=by rfl)
 (hf:X.fn x=true\/X.env.scope.names.lookup x=some .local:=by first|exact .inl rfl|exact .inr rfl|assumption):DS X c k (.Assign [.Name x pos'] e pos) (fX i f):=λρ=>PS.imp (oz hn hi hx (oy λhid=>he hid ρ) hs hf) λD σ H hq_=>by
 obtain⟨hid,sr,q⟩:=hq_
 unfold fX at q;cases e1:f ρ with
 |none=>rw[e1] at q;exact q.elim
 |some z=>
  rw[e1] at q;exact⟨hid,sr,z,e1,λv H' s r=>GW (sr.post s r (by decide)) q⟩
def ca(f:GE):FS:=λρ=>match f ρ with
 |some (_,ρ')=>.nx ρ'
 |none=>.no
theorem gJ {f:GE}(he:DE X c .s e f)(hs:swapsWith e none pos.line X.env=pure false:=by rfl):DS X c k (.Expr e pos) (ca f):=λρ=>PS.imp (Bu (oy λhid=>he hid ρ) hs) λD σ H hq_=>by
 obtain⟨hid,sr,q⟩:=hq_
 unfold ca at q;cases e1:f ρ with
 |none=>rw[e1] at q;exact q.elim
 |some z=>
  rw[e1] at q;exact⟨hid,sr,z.1,z.2,e1,λv H' ⟨kp,s',_⟩=>q _ H' hid s' kp.vw⟩
def Hf(K:W.Frag)(r:V->List V->Hp->VK->Prop)(n:Nat)(M:List D->List D->Option (D×List D)):Prop:= ∀(H:Hp) (hid:bK) (a:Addr) (xs us:List V) (bs ds bs':List D) (d:D) (Q:VK),H a=some (.lst xs)->hid a=true->Reps K (vw H hid) xs bs->Reps K (vw H hid) us ds->
 ds.length=n->M bs ds=some (d,bs')->(∀w xs',Reps K (vw H hid) xs' bs'->Rep K (vw H hid) w d->Q w (bN H a (.lst xs')))->r (.ref a) us H Q
theorem Ga {K:W.Frag}{r:V->List V->Hp->VK->Prop}{n:Nat}{M:List D->List D->Option (D×List D)}(hM:Hf K r n M){hid:bK}{ρ1:aF}{σ:St}{H H1:Hp}{a:Addr}{us:List V}{bs ds bs':List D}{d:D}{Q:VK}(k1:Kept hid H H1)(s1:SR K c hid ρ1 σ H1)(e2:iI i ρ1=some bs)
 (ha:σ[i]? =some (some (.ref a))) (r1:Reps K (vw H1 hid) us ds) (hn:ds.length=n) (hm:M bs ds=some (d,bs')) (q: ∀v H',PostE K c hid .s (g6 i bs' ρ1) σ H H' v d->Q v H'):r (.ref a) us H1 Q:=by
 obtain⟨a',xs,b1,b2,b3,b4,b5⟩:=s1.held e2
 rw[ha] at b1;cases b1;refine hM H1 hid a xs us bs ds bs' d Q b2 b3 b4 r1 hn hm λw xs' rx rw'=>q w _ ⟨k1.trans λb o z hb=>?_,?_,?_⟩
 ·rw[aH (λe=>by subst e;rw[b3] at hb;cases hb)];exact z
 ·exact s1.put e2 ha (λb o z hb=>by rw[aH hb];exact z) aL (by rw[eE b3];exact rx)
 ·rw[eE b3];exact rw'
variable {n:Nat}{M:List D->List D->Option (D×List D)}{fs:GA}{r:V->List V->Hp->VK->Prop}{y name:Str}{py apos:Pos}{id:String}
theorem iQ(i:Nat)(hM:Hf X.K r n M)(hm:Iq X id r)(slot:Slot "list" name id)(hty:typeOf (.builtin id)=pure (.type "method_descriptor"))(ha:DG X c (e::es) fs)
 (hN:X.N[i]? =some y:=by rfl) (hv:qB X.env.scope y:=by first|exact Or.inl rfl|exact Or.inr (Or.inl rfl)|exact Or.inr (Or.inr rfl)) (hd:(y==("__debug__":Str))=false:=by decide) (hcd:(y==("__classdict__":Str))=false:=by decide)
 (hbase:attributeBase (.Name y py) name X.env (eval (.Name y py) X.env)=eval (.Name y py) X.env:=by rfl)
 (hfew:((backTo pos (starEach (e::es) X.env)).all (λx=> !x.1)&&(backToKw pos (keywordEach [] X.env)).all (λx=>x.1.isSome)
   &&decide ((e::es).length+([]:List Keyword).length+(if([]:List Keyword).isEmpty then 0 else 1)<30))=true:=by rfl)
 (hline:(apos.endLine==pos.line)=true:=by rfl) (hs:starEach (e::es) X.env=(false,eval e X.env)::starEach es X.env:=by rfl) (hplain:(backTo pos (starEach es X.env)).any (·.1)=false:=by rfl):
 DE X c .s (.Call (.Attribute (.Name y py) name apos) (e::es) [] pos) (aN i n M fs):=λhid ρ=>
 PE.imp (zZ PySem.F.plainAttrs_list slot hty hm (pv i hN hv hd hcd) (ha hid ρ) hbase hfew hline hs hplain) λσ H Q hq_=>by
  obtain⟨sr,d,ρ',hd',q⟩:=hq_
  obtain⟨bs0,ds,ρ1,bs,bs',e0,e1,e2,e3,e4,rfl⟩:=oe hd'
  obtain⟨a,xs0,a1,a2,a3,_,_⟩:=sr.held e0
  exact⟨.ref a,a1,.inl ⟨rfl,_,SqL.of a2⟩,sr,ds,ρ1,e1,λus H1 k1 s1 r1=>Ga hM k1 s1 e2 a1 r1 e3 e4 q⟩
end
section
variable {K:W.Frag}
def gG:List D->List D->Option (D×List D):=λbs ds=>match ds with
 | [d]=>if bs.length<sizeLine then some (.non,bs++[d]) else none
 |_=>none
theorem gk:Hf K vG 1 gG:=by
 intro H hid a xs us bs ds bs' d Q h1 h2 h3 h4 h5 h6 q;unfold gG at h6;split at h6
 ·split at h6
  ·cases h6
   cases h4 with
   |cons r t=>
    cases t
    exact⟨a,xs,_,rfl,rfl,h1,by rw[h3.length];assumption,q _ _ (h3.append (.cons r .nil)) .non⟩
  ·cases h6
 ·cases h6
def o7:List D->List D->Option (D×List D):=λbs ds=>match ds with
 | [.int i]=>match (if bs.length<=sizeLine then uc bs.length i else none) with
   |some j=>(bs[j]?).map λd=>(d,bs.eraseIdx j)
   |none=>none
 |_=>none
theorem Ey:Hf K yK 1 o7:=by
 intro H hid a xs us bs ds bs' d Q h1 h2 h3 h4 h5 h6 q;unfold o7 at h6;split at h6
 ·split at h6
  ·rename_i i _ j e
   cases e1:bs[j]? with
   |none=>rw[e1] at h6;cases h6
   |some z=>
    rw[e1] at h6;cases h6;cases h4 with
    |cons r t=>
     cases t
     cases r
     obtain⟨x,g1,g2⟩:=h3.get e1
     split at e
     ·obtain⟨w1,w2,w3,w4⟩:=qV e
      have hl:=h3.length
      have l63:=kG
      refine⟨a,xs,i,j,x,rfl,rfl,h1,by omega,by omega,by rw[hl];exact w1,g1,q _ _ (h3.eraseIdx j) g2⟩
     ·cases e
  ·cases h6
 ·cases h6
end
abbrev FG:=D->aF->Option aF
abbrev vM:=List D->aF->Option aF
def OwK(ρ ρ':aF)(σ σ':St):Prop:= ∀i:Nat,Ow ρ'[i]? ->Ow ρ[i]? /\σ'[i]? =σ[i]?
theorem OwK.trans {ρ ρ1 ρ2:aF}{σ σ1 σ2:St}(a:OwK ρ ρ1 σ σ1)(b:OwK ρ1 ρ2 σ1 σ2):OwK ρ ρ2 σ σ2:=λi o=>⟨(a i (b i o).1).1,(b i o).2.trans (a i (b i o).1).2⟩
def Hx(K:W.Frag)(c:Ct)(hid:bK)(g:FG)(ρ:aF)(d:D):TG:=λv σ H Q=>SR K c hid ρ σ H/\Rep K (vw H hid) v d/\ ∃ρ',g d ρ=some ρ'/\ ∀σ',SR K c hid ρ' σ' H->OwK ρ ρ' σ σ'->Q σ' H
def oN(X:Cx)(c:Ct)(tg:Expr)(g:FG):Prop:= ∀hid ρ d,PG X tg (Hx X.K c hid g ρ d)
def Ht(K:W.Frag)(c:Ct)(hid:bK)(g:vM)(ρ:aF)(d:List D):xq:=λv σ H Q=>SR K c hid ρ σ H/\Reps K (vw H hid) v d/\ ∃ρ',g d ρ=some ρ'/\ ∀σ',SR K c hid ρ' σ' H->OwK ρ ρ' σ σ'->Q σ' H
def G2(X:Cx)(c:Ct)(tg:List Expr)(g:vM):Prop:= ∀hid ρ d,PGs X tg (Ht X.K c hid g ρ d)
theorem PG.imp {X:Cx}{e:Expr}{t t':TG}(h:PG X e t)(i: ∀v σ H Q,t' v σ H Q->t v σ H Q):PG X e t':=λae s σ H v u Q I r q=>h ae s σ H v u Q I r (i v σ H Q q)
theorem PGs.imp {X:Cx}{e:List Expr}{t t':xq}(h:PGs X e t)(i: ∀v σ H Q,t' v σ H Q->t v σ H Q):PGs X e t':=λae s σ H v u Q I r q=>h ae s σ H v u Q I r (i v σ H Q q)
theorem zM {X:Cx}{e:Expr}{α:Type}{t:α->TG}(h: ∀z,PG X e (t z)):PG X e (λv σ H Q=> ∃z,t z v σ H Q):=λae s σ H v u Q I r ⟨z,q⟩=>h z ae s σ H v u Q I r q
theorem rN {X:Cx}{e:List Expr}{α:Type}{t:α->xq}(h: ∀z,PGs X e (t z)):PGs X e (λv σ H Q=> ∃z,t z v σ H Q):=λae s σ H v u Q I r ⟨z,q⟩=>h z ae s σ H v u Q I r q
section
variable {X:Cx}{c:Ct}{k:Kd}{st:Stmt}{sts body:List Stmt}{t u:FS}{e tg iter:Expr}{es:List Expr}{pos pos':Pos}{x:Str}{i:Nat}
def gN(i:Nat):FG:=λd ρ=>some (ρ.set i (.v d))
theorem aC(i:Nat)(hn:X.N.Nodup)(hi:X.N[i]? =some x:=by rfl)(hx:yd X.env.scope x:=by first|exact Or.inl rfl|exact Or.inr rfl)(hf:X.fn x=true\/X.env.scope.names.lookup x=some .local:=by first|exact .inl rfl|exact .inr rfl|assumption):
 oN X c (.Name x pos) (gN i):=λhid ρ d=>PG.imp (C2 (i:=i) hn hi hx hf) λv σ H Q hq_=>by
 obtain⟨sr,r,ρ',e,q⟩:=hq_
 cases e
 refine q _ (sr.setV r i) λj o=>?_
 have ne:j≠i:=λe=>by
  subst e
  by_cases lt:j<ρ.length
  ·rw[List.getElem?_set_self lt] at o;exact o
  ·rw[List.getElem?_eq_none (by simpa using lt)] at o;exact o
 rw[List.getElem?_set_ne (Ne.symm ne)] at o⊢;exact⟨o,rfl⟩
def jI:vM:=λds ρ=>match ds with
 | []=>some ρ
 |_=>none
def eU(g:FG)(gs:vM):vM:=λds ρ=>match ds with
 | []=>none
 |d::r=>(g d ρ).bind λρ'=>gs r ρ'
theorem eX:G2 X c [] jI:=λhid ρ d=>PGs.imp v4 λv σ H Q hq_=>by
 obtain⟨sr,r,ρ',e,q⟩:=hq_
 unfold jI at e;split at e
 ·cases e;cases r;exact⟨rfl,q σ sr λi o=>⟨o,rfl⟩⟩
 ·cases e
theorem bf {g:FG}{gs:vM}(h1:oN X c e g)(h2:G2 X c es gs)(hs:(assignEach (e::es) X.env).map (·.2)=assign e X.env::(assignEach es X.env).map (·.2):=by rfl):G2 X c (e::es) (eU g gs):=λhid ρ d=>
 PGs.imp (tQ (zM λd=>h1 hid ρ d) (rN λz:aF×List D=>h2 hid z.1 z.2) hs) λv σ H Q hq_=>by
  obtain⟨sr,r,ρ',e,q⟩:=hq_
  cases d with
  |nil=>cases e
  |cons d1 ds=>
   cases r with
   |cons r1 r2=>
    have e:(g d1 ρ).bind (λρ'=>gs ds ρ')=some ρ':=e
    cases e1:g d1 ρ with
    |none=>rw[e1] at e;cases e
    |some ρ1=>
     rw[e1] at e;exact⟨_,_,rfl,d1,sr,r1,ρ1,e1,λσ1 s1 o1=>⟨(ρ1,ds),s1,r2,ρ',e,λσ2 s2 o2=>q σ2 s2 (o1.trans o2)⟩⟩
def gT(n:Nat)(gs:vM):FG:=λd ρ=>match d with
 | .tup ds=>if ds.length=n then gs ds ρ else none
 |_=>none
theorem gd {gs:vM}{kk n:Nat}(hc:X.calm=true)(h:G2 X c es gs)(hn:(assignEach es X.env).length=n:=by rfl)(hst:(assignEach es X.env).findIdx? (·.1)=none:=by rfl):oN X c (.Tuple es kk pos) (gT n gs):=λhid ρ d=>
 PG.imp (zB hc (rN λds=>h hid ρ ds) hn hst) λv σ H Q hq_=>by
  obtain⟨sr,r,ρ',e,q⟩:=hq_
  unfold gT at e;split at e
  ·split at e
   ·cases r with
    |tup h1 h2=>exact⟨_,_,rfl,Same.seqT (dZ _ _) h1,by rw[h2.length];assumption,_,sr,h2,ρ',e,q⟩
   ·cases e
  ·cases e
def E1:Option aF->Out
 |some ρ=>.nx ρ
 |none=>.no
def cv(g:FG)(f:GE):FS:=λρ=>match f ρ with
 |some z=>E1 (g z.1 z.2)
 |none=>.no
theorem g7 {g:FG}{f:GE}(he:DE X c .s e f)(hg:oN X c tg g)(hs:swapsWithSole [tg] e pos.line X.env=pure false:=by rfl)(hw:swappedStores [tg] e X.env=pure none:=by rfl)
 (h1:(assignEach [tg] X.env).map (·.2)=[assign tg X.env]:=by rfl):DS X c k (.Assign [tg] e pos) (cv g f):=λρ=>
 PS.imp (AN (oy λhid=>he hid ρ) (zM λz:bK×aF×D=>hg z.1 z.2.1 z.2.2) hs hw h1) λD σ H hq_=>by
  obtain⟨hid,sr,q⟩:=hq_
  unfold cv at q;cases e1:f ρ with
  |none=>rw[e1] at q;exact q.elim
  |some z=>
   rw[e1] at q;cases e2:g z.1 z.2 with
   |none=>dsimp only at q;rw[e2] at q;exact q.elim
   |some ρ2=>
    dsimp only at q;rw[e2] at q;exact⟨hid,sr,z.1,z.2,e1,λv H' ⟨kp,s',r⟩=>⟨(hid,z.2,z.1),s',r,ρ2,e2,λσ' s2 _=>q σ' H' hid s2 kp.vw⟩⟩
def bX(i:Nat)(fi:FE)(d:D)(ρ:aF):Option aF:=match iI i ρ with
 |some bs=>(match fi ρ with
  |some (.int j)=>(match uc bs.length j with
   |some m=>some (g6 i (bs.set m d) ρ)
   |none=>none)
  |_=>none)
 |none=>none
theorem uB {fi:FE}{d:D}{ρ ρ':aF}(h:bX i fi d ρ=some ρ'): ∃bs j m,iI i ρ=some bs/\fi ρ=some (.int j)/\uc bs.length j=some m/\ρ'=g6 i (bs.set m d) ρ:=by
 unfold bX at h;split at h
 ·split at h
  ·split at h
   ·cases h;exact⟨_,_,_, ‹_›, ‹_›, ‹_›,rfl⟩
   ·cases h
  ·cases h
 ·cases h
def HS(K:W.Frag)(c:Ct)(hid:bK)(g:FG)(ρ:aF)(d:D):TG:=λv σ H Q=>SR K c hid ρ σ H/\Rep K (vw H hid) v d/\ ∃ρ',g d ρ=some ρ'/\ ∀H',Kept hid H H'->SR K c hid ρ' σ H'->Q σ H'
def Hb(X:Cx)(c:Ct)(tg:Expr)(g:FG):Prop:= ∀hid ρ d,PG X tg (HS X.K c hid g ρ d)
theorem gc(i:Nat){y:Str}{py:Pos}{ix:Expr}{fi:FE}{k1:Kd}(hi:DP X c k1 ix fi)(hN:X.N[i]? =some y:=by rfl)(hv:qB X.env.scope y:=by first|exact Or.inl rfl|exact Or.inr (Or.inl rfl)|exact Or.inr (Or.inr rfl))(hd:(y==("__debug__":Str))=false:=by decide)(hcd:(y==("__classdict__":Str))=false:=by decide)
 (ha: ∀v,assign (.Subscript (.Name y py) ix pos) X.env v=(do
   let ov <-holding [v] (eval (.Name y py) X.env)
   let iv <-holding [v,ov] (eval ix X.env)
   standAt pos
   holding [v,ov,iv] (setItem ov iv v)
   release [v,ov,iv] []):=by intro _;rfl):Hb X c (.Subscript (.Name y py) ix pos) (bX i fi):=λhid ρ d=>
 PG.imp (Dt (pv i hN hv hd hcd) (hi hid ρ) Ay ha) λv σ H Q hq_=>by
  obtain⟨sr,r,ρ',e,q⟩:=hq_
  obtain⟨bs,j,m,e1,e2,e3,rfl⟩:=uB e
  obtain⟨a,xs,a1,a2,a3,a4,a5⟩:=sr.held e1
  refine⟨.ref a,a1,sr,_,e2,λw H1 s1 r1=>?_⟩
  have b1:=(RK.b k1 r1 λa n=>sr.fresh n).int
  cases b1
  have a4':=a4.mono (aR (hid:=hid) s1)
  refine⟨a,xs,j,m,rfl,rfl,s1 _ _ a2,by rw[a4.length];exact e3,q _ (λb o z hb=>?_) ?_⟩
  ·rw[aH (λe=>by subst e;rw[a3] at hb;cases hb)];exact s1 _ _ z
  ·exact(sr.ext s1).put e1 a1 (λb o z hb=>by rw[aH hb];exact z) aL (by rw[eE a3];exact Reps.set (r.mono (aR s1)) m a4')
theorem lO {g:FG}{f:GE}(he:DE X c .s e f)(hg:Hb X c tg g)(hs:swapsWithSole [tg] e pos.line X.env=pure false:=by rfl)(hw:swappedStores [tg] e X.env=pure none:=by rfl)
 (h1:(assignEach [tg] X.env).map (·.2)=[assign tg X.env]:=by rfl):DS X c k (.Assign [tg] e pos) (cv g f):=λρ=>
 PS.imp (AN (oy λhid=>he hid ρ) (zM λz:bK×aF×D=>hg z.1 z.2.1 z.2.2) hs hw h1) λD σ H hq_=>by
  obtain⟨hid,sr,q⟩:=hq_
  unfold cv at q;cases e1:f ρ with
  |none=>rw[e1] at q;exact q.elim
  |some z=>
   rw[e1] at q;cases e2:g z.1 z.2 with
   |none=>dsimp only at q;rw[e2] at q;exact q.elim
   |some ρ2=>
    dsimp only at q;rw[e2] at q;exact⟨hid,sr,z.1,z.2,e1,λv H' ⟨kp,s',r⟩=>⟨(hid,z.2,z.1),s',r,ρ2,e2,λH2 k2 s2=>q σ H2 hid s2 (kp.trans k2).vw⟩⟩
def HK(K:W.Frag)(c:Ct)(hid:bK)(g:vM)(ρ:aF)(d:List D):xq:=λv σ H Q=>SR K c hid ρ σ H/\Reps K (vw H hid) v d/\ ∃ρ',g d ρ=some ρ'/\ ∀H',Kept hid H H'->SR K c hid ρ' σ H'->Q σ H'
def Hh(X:Cx)(c:Ct)(tg:List Expr)(g:vM):Prop:= ∀hid ρ d,PGs X tg (HK X.K c hid g ρ d)
theorem qW:Hh X c [] jI:=λhid ρ d=>PGs.imp v4 λv σ H Q hq_=>by
 obtain⟨sr,r,ρ',e,q⟩:=hq_
 unfold jI at e;split at e
 ·cases e;cases r;exact⟨rfl,q H (.of (Same.refl _)) sr⟩
 ·cases e
theorem iq {g:FG}{gs:vM}(h1:Hb X c e g)(h2:Hh X c es gs)(hs:(assignEach (e::es) X.env).map (·.2)=assign e X.env::(assignEach es X.env).map (·.2):=by rfl):Hh X c (e::es) (eU g gs):=λhid ρ d=>
 PGs.imp (tQ (zM λd=>h1 hid ρ d) (rN λz:aF×List D=>h2 hid z.1 z.2) hs) λv σ H Q hq_=>by
  obtain⟨sr,r,ρ',e,q⟩:=hq_
  cases d with
  |nil=>cases e
  |cons d1 ds=>
   cases r with
   |cons r1 r2=>
    have e:(g d1 ρ).bind (λρ'=>gs ds ρ')=some ρ':=e
    cases e1:g d1 ρ with
    |none=>rw[e1] at e;cases e
    |some ρ1=>
     rw[e1] at e;exact⟨_,_,rfl,d1,sr,r1,ρ1,e1,λH1 k1 s1=>⟨(ρ1,ds),s1,r2.mono k1.vw,ρ',e,λH2 k2 s2=>q H2 (k1.trans k2) s2⟩⟩
theorem qi {gs:vM}{kk n:Nat}(hc:X.calm=true)(h:Hh X c es gs)(hn:(assignEach es X.env).length=n:=by rfl)(hst:(assignEach es X.env).findIdx? (·.1)=none:=by rfl):Hb X c (.Tuple es kk pos) (gT n gs):=λhid ρ d=>
 PG.imp (zB hc (rN λds=>h hid ρ ds) hn hst) λv σ H Q hq_=>by
  obtain⟨sr,r,ρ',e,q⟩:=hq_
  unfold gT at e;split at e
  ·split at e
   ·cases r with
    |tup h1 h2=>exact⟨_,_,rfl,Same.seqT (dZ _ _) h1,by rw[h2.length];assumption,_,sr,h2,ρ',e,q⟩
   ·cases e
  ·cases e
def ItOk(K:W.Frag)(W:Hp)(J:It)(ds:List D):Prop:=
 (∀(i:Nat) (d:D) (H:Hp),ds[i]? =some d->Same W H->J.go i H/\ ∀x H',J.yld i H x H'->Same H H'/\ ∀hid:bK,(∀b,hid b=true-> ∃o,H b=some o)->Same W (vw H hid)->Rep K (vw H' hid) x d)/\ ∀H,Same W H->J.stop ds.length H
def IS(K:W.Frag)(c:Ct)(hid:bK)(f:GA)(ρ:aF):TI:=λσ H R=>SR K c hid ρ σ H/\ ∃ds ρ',f ρ=some (ds,ρ')/\ ∀J H',Kept hid H H'->SR K c hid ρ' σ H'->ItOk K (vw H' hid) J ds->R J H'
def DI(X:Cx)(c:Ct)(tg iter:Expr)(f:GA):Prop:= ∀hid ρ,PI X tg iter (IS X.K c hid f ρ)
theorem PI.imp {t t':TI}(h:PI X tg iter t)(i: ∀σ H Q,t' σ H Q->t σ H Q):PI X tg iter t':=λae s σ H R I q=>h ae s σ H R I (i σ H R q)
theorem HW {α:Type}{t:α->TI}(h: ∀z,PI X tg iter (t z)):PI X tg iter (λσ H R=> ∃z,t z σ H R):=λae s σ H R I ⟨z,q⟩=>h z ae s σ H R I q
def vb(f:GE):GA:=λρ=>match f ρ with
 |some (.lst ds,ρ')=>some (ds,ρ')
 |_=>none
theorem Ar {K:W.Frag}{W:Hp}{a:Addr}{xs:List V}{ds:List D}(h:SqT K W a xs)(r:Reps K W xs ds):ItOk K W (HC K a) ds:=by
 refine⟨λi d H e s=>?_,λH s=>⟨xs,Same.seqT s h,by rw[r.length];exact Nat.le_refl _⟩⟩
 obtain⟨x,e1,r1⟩:=r.get e
 refine⟨⟨xs,x,Same.seqT s h,e1⟩,λy H' ⟨e2,e3⟩=>?_⟩
 subst e2;have:=e3 xs (Same.seqT s h)
 rw[e1] at this;cases this;exact⟨Same.refl _,λhid _ sw=>r1.mono sw⟩
theorem wn {f:GE}(h:DE X c .s iter f):DI X c tg iter (vb f):=λhid ρ=>PI.imp (qf (h hid ρ)) λσ H R hq_=>by
 obtain⟨sr,ds,ρ',e,q⟩:=hq_
 unfold vb at e;split at e
 ·rename_i ds' ρ1 e1
  cases e
  refine⟨sr,.lst ds,ρ',e1,λv H' ⟨kp,s',r⟩=>?_⟩
  cases r with
  |lst h1 h2=>have h1:=SqL.of (K:=X.K) h1;exact⟨_,rfl,⟨_,(dZ _ _).seq h1⟩,q _ H' kp s' (by
    refine⟨λi d H e s=>?_,λH s=>⟨_,s.seq h1,by rw[h2.length];exact Nat.le_refl _⟩⟩
    obtain⟨x,e1,r1⟩:=h2.get e
    refine⟨⟨_,x,s.seq h1,e1⟩,λy H' ⟨e2,e3⟩=>?_⟩
    subst e2;have:=e3 _ (s.seq h1)
    rw[e1] at this;cases this;exact⟨Same.refl _,λhid _ sw=>r1.mono sw⟩)⟩
 ·cases e
def o3(lo:Int)(n:Nat):List D:=(List.range n).map λ(i:Nat)=>D.int (lo+i)
theorem ku {K:W.Frag}{W:Hp}{lo:Int}{n:Nat}:ItOk K W (FH lo n) (o3 lo n):=by
 refine⟨λi d H e s=>?_,λH s=>by show n<=(o3 lo n).length;simp[o3]⟩
 unfold o3 at e;rw[List.getElem?_map] at e;cases e1:(List.range n)[i]? with
 |none=>rw[e1] at e;cases e
 |some j=>
  rw[e1] at e;obtain⟨h1,h2⟩:=List.getElem?_eq_some_iff.mp e1
  simp at h1 h2;subst h2;cases e
  refine⟨h1,λy H' ⟨e2,e3⟩=>?_⟩
  subst e2 e3;exact⟨Same.refl _,λhid _ sw=>.int⟩
def zS(f:GA):GA:=λρ=>match f ρ with
 |some ([.int j],ρ')=>if j.natAbs<4000000000 then some (o3 0 j.toNat,ρ') else none
 |_=>none
theorem xp {a:Expr}{f:GA}{p:Pos}(hm:X.mg "range"=none)(ha:DG X c [a] f)(hg:Gl X "range":=by rfl)(hs:starEach [a] X.env=[(false,eval a X.env)]:=by rfl):DI X c tg (.Call (.Name "range" p) [a] [] pos) (zS f):=λhid ρ=>
 PI.imp (p6 hg hm (ha hid ρ) hs) λσ H R hq_=>by
  obtain⟨sr,ds,ρ',e,q⟩:=hq_
  unfold zS at e;split at e
  ·split at e
   ·cases e
    refine⟨sr,_,_, ‹_›,λvs H' kp s' r=>?_⟩
    cases r with
    |cons r t=>cases t;cases r;exact⟨_,rfl,by omega,by omega,q _ H' kp s' ku⟩
   ·cases e
  ·cases e
def cF(g:FG)(b:FS):List D->FS
 | [],ρ=>.nx ρ
 |d::r,ρ=>match g d ρ with
  |none=>.no
  |some ρ1=>match b ρ1 with
   | .nx ρ2=>cF g b r ρ2
   | .ct ρ2=>cF g b r ρ2
   | .bk ρ2=>.nx ρ2
   | .rt d ρ2=>.rt d ρ2
   | .no=>.no
def dn(f:GA)(g:FG)(b:FS):FS:=λρ=>match f ρ with
 |some (ds,ρ')=>cF g b ds ρ'
 |none=>.no
theorem eN {f:GA}{g:FG}{tb:FS}(hp:PassesOwn (model X.prog X.w) X.A X.env X.xe)(hc:X.calm=true)(hi:DI X c tg iter f)(hg:oN X c tg g)(hb:ua X c k body tb)
 (hs: ∀x,foldedSetIterable iter X.env x=pure x:=by intro _;rfl):DS X c k (.For tg iter body [] pos) (dn f g tb):=λρ=>
 PS.imp (Dz hp hc (HW λhid=>hi hid ρ) (zM λz:bK×aF×D=>hg z.1 z.2.1 z.2.2) (su λρ=>hb ρ) hs) λD σ H hq_=>by
  obtain⟨hid,sr,q⟩:=hq_
  unfold dn at q;cases e1:f ρ with
  |none=>rw[e1] at q;exact q.elim
  |some z=>
   obtain⟨ds,ρ0⟩:=z
   rw[e1] at q;have q':EndOk X.K c k D (vw H hid) (cF g tb ds ρ0):=q
   refine⟨hid,sr,ds,ρ0,e1,λJ H1 kp s1 it=>?_⟩
   refine⟨λi m σ H=>m=ds.length-i/\i<=ds.length/\ ∃hid2 ρ2,SR X.K c hid2 ρ2 σ H/\Same (vw H1 hid) (vw H hid2)/\EndOk X.K c k D (vw H hid2) (cF g tb (ds.drop i) ρ2),⟨ds.length,by simp,Nat.zero_le _,hid,ρ0,s1,Same.refl _,EndOk.mono q' kp.vw⟩,?_⟩
   rintro i m σ2 H2 ⟨rfl,hi',hid2,ρ2,s2,w2,q2⟩
   have wH:Same (vw H1 hid) H2:=w2.trans (dZ _ _)
   by_cases hlt:i<ds.length
   ·have hd:ds[i]? =some ds[i]:=List.getElem?_eq_getElem hlt
    have e2:ds.drop i=ds[i]::ds.drop (i+1):=List.drop_eq_getElem_cons hlt
    rw[e2] at q2;unfold cF at q2;obtain⟨go,yl⟩:=it.1 i ds[i] H2 hd wH
    refine .inr ⟨go,λσ' H'=> ∃hid3 ρ3,SR X.K c hid3 ρ3 σ' H'/\Same (vw H1 hid) (vw H' hid3)/\EndOk X.K c k D (vw H' hid3) (cF g tb (ds.drop (i+1)) ρ3),λσ' H' n3=>⟨ds.length- (i+1),by omega,rfl,hlt,n3⟩,λx H3 y=>?_⟩
    obtain⟨s3,rp⟩:=yl x H3 y
    have rx:=rp hid2 s2.tr w2
    cases e3:g ds[i] ρ2 with
    |none=>rw[e3] at q2;exact q2.elim
    |some ρ3=>
     rw[e3] at q2;refine⟨(hid2,ρ2,ds[i]),s2.ext s3,rx,ρ3,e3,λσ4 s4 _=>⟨ρ3,hid2,s4,?_⟩⟩
     have w3:Same (vw H2 hid2) (vw H3 hid2):=aR s3
     dsimp only at q2;cases e4:tb ρ3 with
     |nx ρ5=>rw[e4] at q2;exact λσ' H' hid' z w=>⟨hid',ρ5,z,(w2.trans w3).trans w,EndOk.mono q2 (w3.trans w)⟩
     |ct ρ5=>rw[e4] at q2;exact λσ' H' hid' z w=>⟨hid',ρ5,z,(w2.trans w3).trans w,EndOk.mono q2 (w3.trans w)⟩
     |bk ρ5=>rw[e4] at q2;exact λσ' H' hid' z w=>q2 σ' H' hid' z (w3.trans w)
     |rt d ρ5=>rw[e4] at q2;exact q2
     |no=>rw[e4] at q2;exact q2.elim
   ·have e:i=ds.length:=by omega
    subst e;rw[List.drop_eq_nil_of_le (Nat.le_refl _)] at q2;exact .inl ⟨it.2 H2 wH,q2 σ2 H2 hid2 s2 (Same.refl _)⟩
def yc(p:FT)(b:FS):Nat->FS
 |0,_=>.no
 |n+1,ρ=>match p ρ with
  |none=>.no
  |some false=>.nx ρ
  |some true=>match b ρ with
   | .nx ρ2=>yc p b n ρ2
   | .ct ρ2=>yc p b n ρ2
   | .bk ρ2=>.nx ρ2
   | .rt d ρ2=>.rt d ρ2
   | .no=>.no
theorem A5(n:Nat){p:FT}{tb:FS}(hp:PassesOwn (model X.prog X.w) X.A X.env X.xe)(hc:DT X c e p)(hb:ua X c k body tb):DS X c k (.While e body [] pos) (yc p tb n):=λρ=>
 PS.imp (Ag hp (Fi λz:bK×aF=>hc z.1 z.2) (su λρ=>hb ρ)) λD σ H hq_=>by
  obtain⟨hid,sr,q⟩:=hq_
  refine⟨λm σ H=> ∃hid2 ρ2,SR X.K c hid2 ρ2 σ H/\EndOk X.K c k D (vw H hid2) (yc p tb m ρ2),⟨n,hid,ρ,sr,q⟩,?_⟩
  rintro m σ2 H2 ⟨hid2,ρ2,s2,q2⟩
  cases m with
  |zero=>exact q2.elim
  |succ m=>
   unfold yc at q2;cases e1:p ρ2 with
   |none=>rw[e1] at q2;exact q2.elim
   |some b=>
    rw[e1] at q2;refine⟨(hid2,ρ2),s2,b,e1,λH3 s3=>?_⟩
    cases b with
    |false=>exact qR (q2 σ2 H3 hid2 (s2.ext s3) (aR s3))
    |true=>
     refine qp ⟨λσ' H'=> ∃hid3 ρ3,SR X.K c hid3 ρ3 σ' H'/\EndOk X.K c k D (vw H' hid3) (yc p tb m ρ3),λσ' H' n3=>⟨m,Nat.lt_succ_self _,n3⟩,ρ2,hid2,s2.ext s3,?_⟩
     have w3:Same (vw H2 hid2) (vw H3 hid2):=aR s3
     dsimp only at q2;cases e4:tb ρ2 with
     |nx ρ5=>rw[e4] at q2;exact λσ' H' hid' z w=>⟨hid',ρ5,z,EndOk.mono q2 (w3.trans w)⟩
     |ct ρ5=>rw[e4] at q2;exact λσ' H' hid' z w=>⟨hid',ρ5,z,EndOk.mono q2 (w3.trans w)⟩
     |bk ρ5=>rw[e4] at q2;exact λσ' H' hid' z w=>q2 σ' H' hid' z (w3.trans w)
     |rt d ρ5=>rw[e4] at q2;exact q2
     |no=>rw[e4] at q2;exact q2.elim
end
def ii(n:Nat)(ds:List D):aF:=ds.map Sl.v++List.replicate (n-ds.length) .no
def gE(kd:Kd)(n:Nat)(t:FS)(ds:List D):Option D:=match t (ii n ds) with
 | .rt d _=>some d
 | .nx _=>(match kd with
   | .n=>none
   |_=>some .non)
 |_=>none
def nW(n:Nat)(bs ds:List D):aF:=.arg bs::(ds.map Sl.v++List.replicate (n-1-ds.length) .no)
def n9:aF->Option (List D)
 | .arg bs::_=>some bs
 |_=>none
def uZ(kd:Kd)(n:Nat)(t:FS)(bs ds:List D):Option (D×List D):=match t (nW n bs ds) with
 | .rt d ρ=>(n9 ρ).map λb=>(d,b)
 | .nx ρ=>(match kd with
   | .n=>none
   |_=>(n9 ρ).map λb=>(.non,b))
 |_=>none
theorem za {K:W.Frag}{c:Ct}{hid:bK}{H:Hp}(m:Nat): ∀ {vs:List V} {ds:List D},Reps K (vw H hid) vs ds-> ∀(i:Nat) (s:Sl),(ds.map Sl.v++List.replicate m .no)[i]? =some s->SlOk K c hid (vs.map some++List.replicate m none) H i s:=by
 intro vs ds r i s e;have hl:=r.length
 by_cases hi:i<ds.length
 ·rw[List.getElem?_append_left (by simpa using hi),List.getElem?_map] at e
  have e2:ds[i]? =some ds[i]:=List.getElem?_eq_getElem hi
  rw[e2] at e;cases e
  obtain⟨x,h1,h2⟩:=r.get e2
  exact⟨x,by rw[List.getElem?_append_left (by simp;omega),List.getElem?_map,h1];rfl,h2⟩
 ·rw[List.getElem?_append_right (by simpa using hi),List.getElem?_replicate] at e
  split at e
  ·cases e;trivial
  ·cases e
theorem DF {ds:List D}{m i:Nat}: ¬Ow (ds.map Sl.v++List.replicate m Sl.no)[i]? :=λo=>by
 by_cases hi:i<ds.length
 ·rw[List.getElem?_append_left (by simpa using hi),List.getElem?_map,List.getElem?_eq_getElem hi] at o
  exact o
 ·rw[List.getElem?_append_right (by simpa using hi),List.getElem?_replicate] at o
  split at o<;>exact o
theorem SR.begins {K:W.Frag}{hid:bK}{H:Hp}{N:List Str}{vs:List V}{ds:List D}(tr:Fo hid H)(r:Reps K (vw H hid) vs ds):SR K ⟨H,hid,λ_=>false⟩ hid (ii N.length ds) (start N vs) H:=by
 have hl:=r.length
 unfold start ii;rw[hl];exact⟨tr.1,tr.2,λ_ h=>h,λ_ _ h _=>h,λb o h=>⟨o,h⟩,tr.1,(λ_ h=>nomatch h),by simp[hl],λi s e=>za _ r i s e,λi j a _ o=>absurd o DF⟩
section
variable {P:Program}{w:World}{K:W.Frag}{mg:Str->Option Value}{base:Heap}{x qual:Str}{st:Stmt}{f:Addr}{fd:FuncData}{N ps:List Str}{k:Nat}{t:FS}{kd:Kd}
theorem wI(F:Fun K x qual st f fd)(S:FnScope N ps (am st))(hkd:kd≠ .b)
 (body: ∀(cdv:Value) (A:Around) (outer:List Env) (s:Shared) (H:Hp) (hid:bK) (E:XK),Room k (A.deeper (envOfC qual (am st) s.heap.objs.size f cdv))->
   ua (o9 rM P w K mg base N qual (am st) f cdv A outer s H E).nox ⟨H,hid,λ_=>false⟩ kd (aM st) t):
 FnOk P w K mg base rM (k+1) f fd ps (dX K kd ps.length (gE kd N.length t)):=by
 refine F.ok S (λvs H Q E h=>?_) (λcdv A outer s H vs Q E hr h=>?_)
 ·obtain⟨hid,ds,_,r,hl,_⟩:=h
  rw[r.length,hl]
 ·obtain⟨hid,ds,tr,r,hl,d,hP,q⟩:=h
  refine⟨_,body cdv A outer s H hid E hr (ii N.length ds),hid,SR.begins tr r,?_⟩
  unfold gE at hP;cases e:t (ii N.length ds) with
  |nx ρ=>
   rw[e] at hP;intro σ' H' hid' sr _;have sm:Same H H':=λb o z=>sr.kp b o z rfl
   cases kd with
   |b=>exact absurd rfl hkd
   |s=>cases hP;exact q _ H' sm .non
   |n=>cases hP
  |rt d' ρ=>
   rw[e] at hP;cases hP
   intro v H' R;have sm:Same H H':=λb o z=>R.kp b o z rfl
   cases kd with
   |b=>exact absurd rfl hkd
   |s=>exact q v H' sm R.val
   |n=>exact q v H' sm R.val
  |bk ρ=>rw[e] at hP;cases hP
  |ct ρ=>rw[e] at hP;cases hP
  |no=>rw[e] at hP;cases hP
theorem SR.beginsE {hid:bK}{H:Hp}{a:Addr}{xs us:List V}{bs ds:List D}(tr:Fo hid H)(ha:hid a=true)(hx:H a=some (.lst xs))(rb:Reps K (vw H hid) xs bs)(r:Reps K (vw H hid) us ds)(hN:0<N.length):
 SR K ⟨H,hid,λb=>decide (b=a)⟩ hid (nW N.length bs ds) (start N (.ref a::us)) H:=by
 have hl:=r.length
 have es:start N (.ref a::us)=some (V.ref a)::(us.map some++List.replicate (N.length-1-ds.length) none):=by
  unfold start;rw[List.map_cons,List.cons_append,List.length_cons,hl];congr 3
  omega
 rw[es];unfold nW;refine⟨tr.1,tr.2,λ_ h=>h,λ_ _ h _=>h,λb o h=>⟨o,h⟩,tr.1,λb h=>?_,by simp[hl],λi s e=>?_,λi j z n o1 o2 q1 q2=>?_⟩
 ·have:b=a:=by simpa using h
  rw[this];exact ha
 ·cases i with
  |zero=>
   cases e
   exact⟨a,xs,rfl,hx,ha,by simp,rb⟩
  |succ i=>
   have z:=za (c:=⟨H,hid,λb=>decide (b=a)⟩) (N.length-1-ds.length) r i s (by simpa using e)
   cases s with
   |no=>trivial
   |v d=>obtain⟨x,h1,h2⟩:=z;exact⟨x,by simpa using h1,h2⟩
   |own ds=>obtain⟨x,xs,h1,h2⟩:=z;exact⟨x,xs,by simpa using h1,h2⟩
   |arg ds=>obtain⟨x,xs,h1,h2⟩:=z;exact⟨x,xs,by simpa using h1,h2⟩
   |ob b=>obtain⟨x,h1,h2⟩:=z;exact⟨x,by simpa using h1,h2⟩
 ·cases i with
  |zero=>
   cases j with
   |zero=>exact n rfl
   |succ j=>exact DF (by simpa using o2)
  |succ i=>exact DF (by simpa using o1)
theorem wX {ρ:aF}{b:List D}(h:n9 ρ=some b):ρ[0]? =some (.arg b):=by
 unfold n9 at h;split at h
 ·cases h;rfl
 ·cases h
theorem E6 {n:Nat}(F:Fun K x qual st f fd)(S:FnScope N ps (am st))(hkd:kd≠ .b)(hn:ps.length=n+1)
 (body: ∀(cdv:Value) (A:Around) (outer:List Env) (s:Shared) (H:Hp) (hid:bK) (a:Addr) (E:XK),Room k (A.deeper (envOfC qual (am st) s.heap.objs.size f cdv))->
   ua (o9 rM P w K mg base N qual (am st) f cdv A outer s H E).nox ⟨H,hid,λb=>decide (b=a)⟩ kd (aM st) t):
 FnOk P w K mg base rM (k+1) f fd ps (si K kd n (uZ kd N.length t)):=by
 refine F.ok S (λvs H Q E h=>?_) (λcdv A outer s H vs Q E hr h=>?_)
 ·obtain⟨hid,a,xs,bs,us,ds,rfl,_,_,_,_,r,hl,_⟩:=h
  rw[List.length_cons,r.length,hl,hn]
 ·obtain⟨hid,a,xs,bs,us,ds,rfl,tr,ha,hx,rb,r,hl,d,bs',hM,q⟩:=h
  have hN:0<N.length:=by have:=congrArg List.length S.pre;rw[List.length_take] at this;omega
  refine⟨_,body cdv A outer s H hid a E hr (nW N.length bs ds),hid,SR.beginsE tr ha hx rb r hN,?_⟩
  have fin: ∀(v:V) (H':Hp) (ρ:aF) (d:D),Ret K ⟨H,hid,λb=>decide (b=a)⟩ kd ρ H' v d->n9 ρ=some bs'->(∀v H' xs',(∀b o,H b=some o->b≠a->H' b=some o)->H' a=some (.lst xs')->Gg K kd hid H H' v d xs' bs'->Q v H')->Q v H':=by
   intro v H' ρ d R h0 q;obtain⟨a',xs',m1,m2,m3⟩:=R.arg 0 _ (wX h0)
   have:a'=a:=by simpa using m1
   subst this;refine q v H' xs' (λb o z n=>R.kp b o z (by simpa using n)) m2 ?_
   cases kd with
   |b=>exact absurd rfl hkd
   |s=>exact⟨R.val,m3⟩
   |n=>
    obtain⟨p,ys,es,rfl,rfl,h1,h2,h3⟩:=R.val
    exact⟨p,ys,es,rfl,rfl,h1,h2,h3,m3⟩
  unfold uZ at hM;cases e:t (nW N.length bs ds) with
  |nx ρ=>
   rw[e] at hM;intro σ' H' hid' sr _;cases kd with
   |b=>exact absurd rfl hkd
   |s=>
    dsimp only at hM;cases e0:n9 ρ with
    |none=>rw[e0] at hM;cases hM
    |some b=>
     rw[e0] at hM;cases hM;exact fin .non H' ρ .non (De (k:=.s) (by decide) (sr.post (k:=.s) (Same.refl _) .non (by decide)) sr.h0) e0 q
   |n=>cases hM
  |rt d' ρ=>
   rw[e] at hM;dsimp only at hM;cases e0:n9 ρ with
   |none=>rw[e0] at hM;cases hM
   |some b=>
    rw[e0] at hM;cases hM;intro v H' R;exact fin v H' ρ _ R e0 q
  |bk ρ=>rw[e] at hM;cases hM
  |ct ρ=>rw[e] at hM;cases hM
  |no=>rw[e] at hM;cases hM
end
def vJ(K:W.Frag):Sp:=λvs H Q _=> ∃(a:Addr) (ns:List Int),vs=[.ref a]/\SqR K H a (ns.map V.int)/\ns.length<=63/\ ∀H',Q (.bl true) H'
theorem pZ {K:W.Frag}{F:Hp}: ∀ns:List Int,Reps K F (ns.map V.int) (ns.map D.int)
 | []=>.nil
 |_::r=>.cons .int (pZ r)
theorem D8 {P:Program}{w:World}{K:W.Frag}{mg:Str->Option Value}{base:Heap}{f:Addr}{fd:FuncData}{x:Str}{k:Nat}{M:List D->Option D}(F:FnOk P w K mg base rM k f fd [x] (dX K .s 1 M))(hM: ∀ns:List Int,ns.length<=63->M [.scr (ns.map D.int)]=some (.bl true)):
 FnOk P w K mg base rM k f fd [x] (vJ K):=F.imp λvs H Q E hq_=>by
 obtain⟨a,ns,e,hS,hl,q⟩:=hq_
 subst e;have hv:vw H (λ_=>false)=H:=by funext b;unfold vw;simp
 refine⟨λ_=>false,[.scr (ns.map D.int)],⟨(λb h=>nomatch h),(λb xs h=>nomatch h)⟩,?_,rfl,.bl true,hM ns hl,λv H' _ r=>?_⟩
 ·rw[hv];exact .cons (.scr hS (pZ ns)) .nil
 ·cases r;exact q H'
theorem walkD {l:W.OpenLaw}{k:Nat}{x:Str}{q:Program}{loose:List Str}{XP:(Str->Option Value)->Heap->Prop}{YP:World->Heap->Prop}{d:DefRec}{K:Params->W.Frag}(hn:l.most=some 63)(hdf:d.params.defaults=[])(hr:Room k callerA)
 (hY: ∀(w:World) (h:Heap),YP w h->(K w.params).In h)
 (F: ∀(w:World) (mg:Str->Option Value) (fa:Addr) (h:Heap),(K w.params).In h->h.Ns mainGlobals mg->mg d.name=some (.ref fa)->
   ∃fd:FuncData,(∀(s:Shared) (u:Value),BindsTo s fd ⟨[u],[]⟩ [(x,u)])/\ ∀base:Heap,(K w.params).In base->base.Ns mainGlobals mg->FnOk l.prog w (K w.params) mg base rM k fa fd [x] (vJ (K w.params))):
 W.WalkO q loose XP YP l.row.toRowW d [] (λf vs=>PySem.call f vs):=
 L2.walk_of (n:=63) (k:=k) (x:=x) (CX:=λ_=>rM) (sp:=λw=>vJ (K w.params)) hn (by decide) hdf hr hY F (λ_ H a ns hl hO hS=>⟨a,ns,rfl,hS.elim (λr=>r.elim (λe=>by rcases hO a with z|⟨o,xs,z⟩<;>rw[z] at e<;>cases e) .inl) .inr,hl,λ_=>rfl⟩) λ_ _ _ _ _ z=>z
def qw(cells:List (Str×Addr)):List (Str×NameKind)->List (Str×Addr)->List (Str×Addr)
 | [],acc=>acc
 |(n,k)::r,acc=>qw cells r (if k== .free then(match cells.lookup n with
  |some c=>(n,c)::acc
  |none=>acc) else acc)
theorem rq {cells:List (Str×Addr)}: ∀ {names:List (Str×NameKind)} {acc:List (Str×Addr)},(∀p∈acc,cells.lookup p.1=some p.2)-> ∀p∈qw cells names acc,cells.lookup p.1=some p.2
 | [],acc,h,p,hp=>h p hp
 |(n,k)::r,acc,h,p,hp=>by
  refine rq (names:=r) ?_ p hp
  intro q hq;split at hq
  ·split at hq
   ·rename_i c e
    rcases List.mem_cons.mp hq with rfl|hq
    ·exact e
    ·exact h q hq
   ·exact h q hq
  ·exact h q hq
theorem tY {cells:List (Str×Addr)}: ∀ {names:List (Str×NameKind)} {acc:List (Str×Addr)} (p:Str×Addr),p∈qw cells names acc->p∈acc\/(p.1,NameKind.free)∈names
 | [],acc,p,hp=>.inl hp
 |(n,k)::r,acc,p,hp=>by
  rcases tY (names:=r) p hp with hq|hq
  ·split at hq
   ·rename_i ek
    split at hq
    ·rcases List.mem_cons.mp hq with e|hq
     ·subst e
      have:k=.free:=by simpa using ek
      subst this;exact .inr List.mem_cons_self
     ·exact .inl hq
    ·exact .inl hq
   ·exact .inl hq
  ·exact .inr (List.mem_cons_of_mem _ hq)
theorem tO {cells:List (Str×Addr)}: ∀ {names:List (Str×NameKind)} {acc:List (Str×Addr)} {p:Str×Addr},p∈acc->p∈qw cells names acc
 | [],acc,p,h=>h
 |(n,k)::r,acc,p,h=>by
  refine tO (names:=r) ?_
  split
  ·split
   ·exact List.mem_cons_of_mem _ h
   ·exact h
  ·exact h
theorem vA {cells:List (Str×Addr)}{x:Str}{c:Addr}(hc:cells.lookup x=some c): ∀ {names:List (Str×NameKind)} {acc:List (Str×Addr)},(x,NameKind.free)∈names->(x,c)∈qw cells names acc
 | [],_,h=>nomatch h
 |(n,k)::r,acc,h=>by
  rcases List.mem_cons.mp h with e|h
  ·cases e
   refine tO (names:=r) ?_
   rw[if_pos (by rfl),hc]
   exact List.mem_cons_self
  ·exact vA hc (names:=r) h
theorem pc {l:List (Str×Addr)}{x:Str}{c:Addr}(h:(x,c)∈l)(u: ∀p∈l,p.1=x->p.2=c):l.lookup x=some c:=by
 induction l with
 |nil=>exact nomatch h
 |cons p r ih=>
  obtain⟨n,a⟩:=p
  rw[List.lookup_cons];cases e:x==n with
  |true=>
   have e':x=n:=eq_of_beq e
   have:=u (n,a) List.mem_cons_self e'.symm
   simpa using this
  |false=>
   have ne:x≠n:=λe'=>by rw[e'] at e;simp at e
   rcases List.mem_cons.mp h with e'|h
   ·cases e';exact absurd rfl ne
   ·exact ih h λp hp=>u p (List.mem_cons_of_mem _ hp)
theorem uo {cells:List (Str×Addr)}{names:List (Str×NameKind)}{x:Str}{c:Addr}(h:(qw cells names []).lookup x=some c):cells.lookup x=some c:=
 rq (names:=names) (acc:=[]) (λ_ z=>nomatch z) (x,c) (PySem.mem_of_lookup h)
theorem mW {cells:List (Str×Addr)}{names:List (Str×NameKind)}{x:Str}{c:Addr}(hc:cells.lookup x=some c)(hf:(x,NameKind.free)∈names):(qw cells names []).lookup x=some c:=
 pc (vA hc hf) λp hp e=>by
  have:=rq (names:=names) (acc:=[]) (λ_ z=>nomatch z) p hp
  rw[e,hc] at this;exact(Option.some.inj this).symm
theorem fc {scope:Scope}{env:Env}(h: ∀x,(x,NameKind.free)∈scope.names-> ∃c,env.cells.lookup x=some c):closureFor scope env=pure (qw env.cells scope.names []):=by
 unfold closureFor;have key: ∀(names:List (Str×NameKind)) (acc:List (Str×Addr)),(∀x,(x,NameKind.free)∈names-> ∃c,env.cells.lookup x=some c)->
  (forIn names acc (λ(p:Str×NameKind) (r:List (Str×Addr))=>match p with
    |(name,kind)=>if(kind==NameKind.free)=true then do
       let __do_lift <-cellOf env name
       pure (ForInStep.yield ((name,__do_lift)::r)) else pure (ForInStep.yield r)):Sem (List (Str×Addr)))=pure (qw env.cells names acc):=by
  intro names
  induction names with
  |nil=>intro acc _;rfl
  |cons p r ih=>
   intro acc h;obtain⟨n,k⟩:=p
   rw[List.forIn_cons];have hr: ∀x,(x,NameKind.free)∈r-> ∃c,env.cells.lookup x=some c:=λx hx=>h x (List.mem_cons_of_mem _ hx)
   cases e:k==NameKind.free with
   |false=>
    simp only[e,Bool.false_eq_true,if_false,pure_bind];rw[ih acc hr]
    conv=>rhs;unfold qw
    simp[e]
   |true=>
    have ek:k=.free:=by simpa using e
    subst ek;obtain⟨c,hc⟩:=h n List.mem_cons_self
    have ec:cellOf env n=pure c:=by unfold cellOf;rw[hc]
    simp only[beq_self_eq_true,if_true,ec,pure_bind];rw[ih _ hr]
    conv=>rhs;unfold qw
    simp[hc]
 have:=key scope.names [] h
 simp only[this,pure_bind]
theorem iG {sc:Scope}{env:Env}{x:Str}{k:NameKind}(h:(relabel sc env).names.lookup x=some k): ∃k0,sc.names.lookup x=some k0/\(k=k0\/(k0=.free/\k=.cell)):=by
 unfold relabel at h;dsimp only at h
 generalize sc.names=l at h⊢
 induction l with
 |nil=>simp at h
 |cons p r ih=>
  obtain⟨n,k1⟩:=p
  rw[List.map_cons] at h;dsimp only at h;rw[List.lookup_cons];cases hx:x==n with
  |true=>
   refine⟨k1,rfl,?_⟩
   split at h
   ·rename_i hc
    rw[List.lookup_cons] at h;simp only[hx] at h;cases h
    have:k1=.free:=by
     simp only[Bool.and_eq_true] at hc;exact eq_of_beq hc.1.1
    exact .inr ⟨this,rfl⟩
   ·rw[List.lookup_cons] at h
    simp only[hx] at h;cases h
    exact .inl rfl
  |false=>
   split at h
   ·rw[List.lookup_cons] at h;simp only[hx] at h;exact ih h
   ·rw[List.lookup_cons] at h;simp only[hx] at h;exact ih h
def ml(cells:List (Str×Addr))(scope:Scope)(C:Addr):List (Str×Addr):=cellsFrom (C+1) scope.names (qw cells scope.names [])
theorem bJ: ∀(names:List (Str×NameKind)) (n:Nat) (acc:List (Str×Addr)),cellsFrom n names acc=cellsFrom n names []++acc
 | [],_,_=>rfl
 |(name,kind)::r,n,acc=>by
  unfold cellsFrom;split
  ·rw[bJ r (n+1) ((name,n)::acc),bJ r (n+1) [(name,n)],List.append_assoc];rfl
  ·exact bJ r n acc
theorem qx: ∀ {names:List (Str×NameKind)} {n:Nat} {p:Str×Addr},p∈cellsFrom n names []->(p.1,NameKind.cell)∈names
 | [],_,_,h=>nomatch h
 |(name,kind)::r,n,p,h=>by
  unfold cellsFrom at h;split at h
  ·rename_i hk
   have hk':kind=.cell:=by simpa using hk
   subst hk';rw[bJ] at h;rcases List.mem_append.mp h with h|h
   ·exact List.mem_cons_of_mem _ (qx h)
   ·rw[List.mem_singleton.mp h];exact List.mem_cons_self
  ·exact List.mem_cons_of_mem _ (qx h)
theorem mE: ∀ {names:List (Str×NameKind)} {n:Nat} {x:Str},(x,NameKind.cell)∈names-> ∃c,(x,c)∈cellsFrom n names []
 | [],_,_,h=>nomatch h
 |(name,kind)::r,n,x,h=>by
  unfold cellsFrom;rcases List.mem_cons.mp h with e|h
  ·cases e
   rw[if_pos (by rfl),bJ]
   exact⟨n,List.mem_append_right _ List.mem_cons_self⟩
  ·split
   ·obtain⟨c,hc⟩:=mE (n:=n+1) h
    rw[bJ];exact⟨c,List.mem_append_left _ hc⟩
   ·exact mE h
theorem uO {l:List (Str×Addr)}{x:Str}{c:Addr}(h:(x,c)∈l): ∃c',l.lookup x=some c':=by
 induction l with
 |nil=>exact nomatch h
 |cons p r ih=>
  obtain⟨n,a⟩:=p
  rw[List.lookup_cons];cases e:x==n with
  |true=>exact⟨a,rfl⟩
  |false=>
   rcases List.mem_cons.mp h with e'|h
   ·cases e';simp at e
   ·exact ih h
theorem fC {cells:List (Str×Addr)}{sc:Scope}{C:Addr}{x:Str}{c:Addr}(h:(ml cells sc C).lookup x=some c):(x,c)∈cellsFrom (C+1) sc.names []\/(qw cells sc.names []).lookup x=some c:=by
 unfold ml at h;rw[bJ,List.lookup_append] at h;cases e:(cellsFrom (C+1) sc.names []).lookup x with
 |none=>rw[e] at h;exact .inr h
 |some c'=>rw[e] at h;cases h;exact .inl (PySem.mem_of_lookup e)
theorem yY {cells:List (Str×Addr)}{sc:Scope}{C:Addr}{x:Str}(h:(x,NameKind.cell)∈sc.names): ∃c,(ml cells sc C).lookup x=some c:=by
 obtain⟨c,hc⟩:=mE (n:=C+1) h
 obtain⟨c',e⟩:=uO hc
 exact⟨c',by unfold ml;rw[bJ,List.lookup_append,e];rfl⟩
theorem tW {cells:List (Str×Addr)}{sc:Scope}{C:Addr}{x:Str}(h:(x,NameKind.cell)∉sc.names):(ml cells sc C).lookup x=(qw cells sc.names []).lookup x:=by
 unfold ml;rw[bJ,List.lookup_append];cases e:(cellsFrom (C+1) sc.names []).lookup x with
 |none=>rfl
 |some c'=>exact absurd (qx (PySem.mem_of_lookup e)) h
theorem qA {M:Model}{A:Around}{E:Value->Shared->Prop}{s:Shared}{scope:Scope}{globals:Addr}{closure:List (Str×Addr)}{qual:Str}{outer:Env}{Q:Env->Shared->Prop}
 (hQ: ∀h',h'.Ns s.heap.objs.size (λ_=>none)->(∀b o,s.heap.get? b=some o->h'.get? b=some o)->CellsOk h' (s.heap.objs.size+1) (cellsFrom (s.heap.objs.size+1) scope.names [])->
   Q (newEnv scope s.heap.objs.size globals (cellsFrom (s.heap.objs.size+1) scope.names closure) qual none .none (some outer) builtinsNs) {s with heap:=h',toks:=s.toks}):
 wpAny M A (newFunctionEnv scope globals closure [] qual none .none (some outer)) Q E s:=by
 simp only[newFunctionEnv,Option.isSome_some,if_true];refine wpAny_bind (wpAny_alloc ?_)
 refine wpAny_bind (wpAny_layCells _ (λname kind cells=>by cases hkc:kind==NameKind.cell<;>simp[hkc]) _ _ _ _ ?_)
 have ok:=cellsFrom_ok scope.names (s.heap.push {cls:=.type "dict",data:=.dict #[]}) (s.heap.objs.size+1) [] ⟨λ_ _ hm=>(nomatch hm),List.Pairwise.nil⟩ (by rw[Heap.size_push];exact Nat.le_refl _)
 rw[Heap.size_push] at ok;rw[show({s with heap:=s.heap.push {cls:=.type "dict",data:=.dict #[]}}:Shared).heap.objs.size=s.heap.objs.size+1 from Heap.size_push ..]
 rw[List.forIn_nil];refine wpAny_bind (wpAny_pure (wpAny_pure ?_))
 exact hQ _ ((Heap.Ns.new s.heap (.type "dict")).keeps (pushCells_keeps _ _)) (λb o e=>pushCells_keeps _ _ b o (Heap.get?_push_of_some _ e)) ok
def aE(X:Cx)(N':List Str)(scope:Scope)(C:Addr)(s₀:Shared)(H₀:Hp)(ex:List Addr):Cx where
 prog:=X.prog
 w:=X.w
 K:=X.K
 mg:=X.mg
 base:=X.base
 A:=X.A
 N:=N'
 s₀:=s₀
 H₀:=H₀
 env:=compEnvC scope (ml X.env.cells scope C) C X.env
 outer:=X.stack
 stack:=X.stack
 ex:=ex
 fn:=λx=>scope.names.lookup x==some .local||scope.names.lookup x==some .cell
 calm:=X.calm
 pn:=[]
 xe:=λ_ _=>False
def ur(N N':List Str)(sc:Scope):Bool:=
 decide (N.length<=N'.length)&&((N'.take N.length).zip N).all (λp=>(p.1==p.2&& !(sc.names.lookup p.1==some .local)&& !(sc.names.lookup p.1==some .cell))||(sc.names.lookup p.1).isNone)&&
  (N'.drop N.length).all λx=>sc.names.lookup x==some .local||sc.names.lookup x==some .cell
def ud(sc:Scope)(outer:Scope):Bool:=
 sc.names.all λy=>(y.2 != .cell||sc.names.lookup y.1==some .cell)&&(y.2 != .local||sc.names.lookup y.1==some .local)&&(y.2 != .free||(sc.names.lookup y.1==some .free&&(outer.names.lookup y.1==some .cell||outer.names.lookup y.1==some .free)))
theorem tG {sc o:Scope}(h:ud sc o=true): ∀y∈sc.names,y.2=.cell->sc.names.lookup y.1=some .cell:=λy hy e=>by
 have:=List.all_eq_true.mp h y hy
 simpa [e] using this
theorem j2 {sc o:Scope}(h:ud sc o=true): ∀y∈sc.names,y.2=.local->sc.names.lookup y.1=some .local:=λy hy e=>by
 have:=List.all_eq_true.mp h y hy
 simpa [e] using this
theorem ie {sc o:Scope}(h:ud sc o=true): ∀x,(x,NameKind.free)∈sc.names->o.names.lookup x=some .cell\/o.names.lookup x=some .free:=λx hx=>by
 have:=List.all_eq_true.mp h _ hx
 simpa using (by simpa using this:_/\_).2
theorem pW {sc o:Scope}(h:ud sc o=true): ∀x,(x,NameKind.free)∈sc.names->sc.names.lookup x=some .free:=λx hx=>by
 have:=List.all_eq_true.mp h _ hx
 simpa using (by simpa using this:_/\_).1
theorem xa {N N':List Str}{sc:Scope}(h:ur N N' sc=true){i:Nat}{x:Str}(hi:i<N.length)(e:N'[i]? =some x)(hv: ∃k,sc.names.lookup x=some k/\(k=.local\/k=.cell\/k=.free)):N[i]? =some x/\sc.names.lookup x=some .free:=by
 unfold ur at h;simp only[Bool.and_eq_true,decide_eq_true_eq] at h;obtain⟨⟨h1,h2⟩,_⟩:=h
 have hN:N[i]? =some N[i]:=List.getElem?_eq_getElem hi
 have e1:(N'.take N.length)[i]? =some x:=by rw[List.getElem?_take_of_lt hi];exact e
 have hm:(x,N[i])∈(N'.take N.length).zip N:=by
  refine List.mem_of_getElem? (i:=i) ?_
  rw[List.getElem?_zip_eq_some];exact⟨e1,hN⟩
 have:=List.all_eq_true.mp h2 _ hm
 obtain⟨k,hk,hk2⟩:=hv
 dsimp only at this;rw[hk] at this;simp only[Option.isNone_some,Bool.or_false,Bool.and_eq_true,Bool.not_eq_true'] at this;obtain⟨⟨t1,t2⟩,t3⟩:=this
 have ex:x=N[i]:=eq_of_beq t1
 rcases hk2 with rfl|rfl|rfl
 ·simp at t2
 ·simp at t3
 ·exact⟨by rw[hN,<-ex],hk⟩
theorem CF {N N':List Str}{sc:Scope}(h:ur N N' sc=true):N.length<=N'.length:=by
 unfold ur at h;simp only[Bool.and_eq_true,decide_eq_true_eq] at h;exact h.1.1
section
variable {X:Cx}{ae:List (Addr×Obj)}{σ:St}{H:Hp}{s:Shared}{scope:Scope}{N':List Str}{fp:List Addr}
theorem xD(I:Inv X ae σ H s){b:Addr}(f:iT X ae H b):b∉pO X.stack:=λz=>by
 rcases List.mem_cons.mp (I.stkSub b z) with e|z
 ·exact f.2.1 e
 ·exact f.2.2.1 z
theorem nR {h':Heap}{tk:Nat}(I:Inv X ae σ H s)(hF: ∀b∈fp,iT X ae H b)(hO: ∀b∈fp,∃o,s.heap.get? b=some o)(hk:scope.kind=.function)(hs:ud scope X.env.scope=true)(hn:ur X.N N' scope=true)
 (ns:h'.Ns s.heap.objs.size λ_=>none) (kp: ∀b o,s.heap.get? b=some o->h'.get? b=some o) (oc:CellsOk h' (s.heap.objs.size+1) (cellsFrom (s.heap.objs.size+1) scope.names [])):
 Inv (aE X N' scope s.heap.objs.size s H fp) [] (σ++List.replicate (N'.length-X.N.length) none) H {s with heap:=h',toks:=tk}:=by
 have hlen:=CF hn
 have cl: ∀x c,(qw X.env.cells scope.names []).lookup x=some c->X.env.cells.lookup x=some c:=λx c e=>uo e
 have clt: ∀x c,(qw X.env.cells scope.names []).lookup x=some c->c<s.heap.objs.size:=λx c e=>let⟨_,z⟩:=I.cell x c (cl x c e);z.lt
 have newC:H s.heap.objs.size=none:=I.hok.fresh (Nat.le_refl _)
 refine⟨⟨I.ok.mod,hk,I.ok.glob,I.ok.blt,Nat.le_refl _,λx y c h1 h2=>?_,λx hx=>?_,λx c h1 h2=>?_,I.ok.hd,I.ok.frames,.inl rfl,λb hb=>⟨?_,λx c e=>?_⟩,I.bs,Nat.le_trans I.ok.bsz I.sz,λb o e hb=>?_,λb hb=>xD I (hF b hb),I.stack,I.stkFree⟩,
  rfl,I.bare,Un.kept kp,⟨_,ns,λi x v e1 e2 e3=>?_⟩,λx c e=>?_,newC,λx c e=>?_,λp hp=>absurd (show p∈([]:List (Addr×Obj)) from hp) (by simp),I.hok.kept kp,?_⟩
 ·
  rcases fC h1 with h1|h1<;>rcases fC h2 with h2|h2
  ·exact name_of_addr oc.apart h1 h2
  ·exact absurd (clt y c h2) (Nat.not_lt.mpr (Nat.le_of_succ_le (oc.empty _ _ h1).2))
  ·exact absurd (clt x c h1) (Nat.not_lt.mpr (Nat.le_of_succ_le (oc.empty _ _ h2).2))
  ·exact I.ok.inj x y c (cl x c h1) (cl y c h2)
 ·
  have hx':(relabel scope X.env).names.lookup x=some .cell\/(relabel scope X.env).names.lookup x=some .free:=hx
  have:(x,NameKind.cell)∈scope.names\/(x,NameKind.free)∈scope.names:=by
   rcases hx' with hx'|hx'
   ·obtain⟨k0,e0,e1|⟨e1,_⟩⟩:=iG hx'
    ·subst e1;exact .inl (PySem.mem_of_lookup e0)
    ·subst e1;exact .inr (PySem.mem_of_lookup e0)
   ·obtain⟨k0,e0,e1|⟨_,e1⟩⟩:=iG hx'
    ·subst e1;exact .inr (PySem.mem_of_lookup e0)
    ·cases e1
  rcases this with this|this
  ·exact yY this
  ·have hc:=ie hs x this
   obtain⟨c,e⟩:=I.ok.has x hc
   exact⟨c,(tW λz=>by have z1:=tG hs _ z rfl;have z2:=pW hs x this;rw[z2] at z1;cases z1).trans (mW e this)⟩
 ·
  have h1':scope.names.lookup x=some .local\/scope.names.lookup x=some .cell:=by
   have h1:(scope.names.lookup x==some .local||scope.names.lookup x==some .cell)=true:=h1
   simpa using h1
  rcases fC h2 with h2|h2
  ·exact Nat.le_of_succ_le (oc.empty _ _ h2).2
  ·exfalso
   rcases tY _ (PySem.mem_of_lookup h2) with z|z
   ·exact nomatch z
   ·rw[pW hs x z] at h1';rcases h1' with h1'|h1'<;>cases h1'
 ·obtain⟨o,e⟩:=hO b hb
  exact Nat.ne_of_lt (Heap.lt_size e)
 ·rcases fC e with e|e
  ·obtain⟨o,e'⟩:=hO b hb
   exact λz=>absurd (Heap.lt_size e') (Nat.not_lt.mpr (z▸Nat.le_of_succ_le (oc.empty _ _ e).2))
  ·exact(hF b hb).2.2.2.2.1 x c (cl x c e)
 ·obtain⟨_,_,_,h4,_⟩:=hF b hb
  rcases h4 with h4|h4
  ·exact I.ok.noex b o e h4
  ·exact absurd (Nat.lt_of_lt_of_le (Heap.lt_size e) (Nat.le_trans I.ok.bsz h4)) (Nat.lt_irrefl _)
 ·have hi:i<X.N.length:=by
   by_cases hi:i<σ.length
   ·rw[<-I.len];exact hi
   ·rw[List.getElem?_append_right (by omega),List.getElem?_replicate] at e2
    split at e2<;>cases e2
  rw[List.getElem?_append_left (by rw[I.len];exact hi)] at e2
  have e3':(relabel scope X.env).names.lookup x=some .local\/(relabel scope X.env).names.lookup x=some .cell\/(relabel scope X.env).names.lookup x=some .free:=e3
  have hv: ∃k,scope.names.lookup x=some k/\(k=.local\/k=.cell\/k=.free):=by
   rcases e3' with z|z|z
   all_goals
    obtain⟨k0,q0,q1|⟨q1,q2⟩⟩:=iG z
    ·subst q1;exact⟨_,q0,by simp⟩
    ·subst q1;exact⟨_,q0,by simp⟩
  obtain⟨hN,hf⟩:=xa hn hi e1 hv
  have hfm:=PySem.mem_of_lookup hf
  have hc:=ie hs x hfm
  have nc:(x,NameKind.cell)∉scope.names:=λz=>by have z1:=tG hs _ z rfl;rw[hf] at z1;cases z1
  obtain⟨m,hm,hl⟩:=I.loc
  obtain⟨u,r,l⟩:=hl i x v hN e2 (.inr hc)
  refine⟨u,r,.inr ⟨?_,?_⟩⟩
  ·show(relabel scope X.env).names.lookup x=some .cell\/(relabel scope X.env).names.lookup x=some .free
   rcases e3' with z|z|z
   ·obtain⟨k0,q0,q1|⟨q1,q2⟩⟩:=iG z
    ·subst q1;rw[hf] at q0;cases q0
    ·cases q2
   ·exact .inl z
   ·exact .inr z
  ·rcases l with⟨l,_⟩|⟨_,c,ec,z⟩
   ·have l':X.env.scope.names.lookup x=some .local:=l
    rcases hc with hc|hc<;>rw[hc] at l'<;>cases l'
   ·exact⟨c,(tW nc).trans (mW ec hfm),z.keeps kp⟩
 ·rcases fC e with e|e
  ·exact⟨_,(oc.empty _ _ e).1⟩
  ·obtain⟨v,z⟩:=I.cell x c (cl x c e)
   exact⟨v,z.keeps kp⟩
 ·rcases fC e with e|e
  ·exact I.hok.fresh (Nat.le_of_succ_le (oc.empty _ _ e).2)
  ·exact I.freeC x c (cl x c e)
 ·show(σ++_).length=N'.length
  rw[List.length_append,List.length_replicate,I.len];omega
end
def Hz(K:W.Frag)(c:Ct)(hid:bK)(f:FA)(ρ:aF):TI:=λσ H R=>SR K c hid ρ σ H/\ ∃ds,f ρ=some ds/\ ∀J H',Same H H'->ItOk K (vw H' hid) J ds->R J H'
def DIp(X:Cx)(c:Ct)(tg iter:Expr)(f:FA):Prop:= ∀hid ρ,PI X tg iter (Hz X.K c hid f ρ)
def Cw(K:W.Frag)(L W:Hp)(J:It)(ds:List D):Prop:=
 (∀(i:Nat) (d:D) (H:Hp),ds[i]? =some d->Same L H->Same W H->J.go i H/\ ∀x H',J.yld i H x H'->Same H H'/\ ∀hid:bK,(∀b,hid b=true-> ∃o,H b=some o)->Same W (vw H hid)->Rep K (vw H' hid) x d)/\ ∀H,Same L H->Same W H->J.stop ds.length H
theorem ItOk.b {K:W.Frag}{L W:Hp}{J:It}{ds:List D}(h:ItOk K W J ds):Cw K L W J ds:=⟨λi d H e _ w=>h.1 i d H e w,λH _ w=>h.2 H w⟩
def Is(K:W.Frag)(c:Ct)(hid:bK)(f:FA)(ρ:aF):TI:=λσ H R=>SR K c hid ρ σ H/\ ∃ds,f ρ=some ds/\ ∀J H',Same H H'->Cw K H' (vw H' hid) J ds->R J H'
def Es(X:Cx)(c:Ct)(tg iter:Expr)(f:FA):Prop:= ∀hid ρ,PI X tg iter (Is X.K c hid f ρ)
section
variable {X:Cx}{c:Ct}{k:Kd}{tg iter:Expr}{pos:Pos}
theorem DIp.b {f:FA}(h:DIp X c tg iter f):Es X c tg iter f:=λhid ρ=>PI.imp (h hid ρ) λσ H R ⟨sr,ds,e,q⟩=>⟨sr,ds,e,λJ H' s io=>q J H' s io.b⟩
theorem DIp.e {f:FA}(h:DIp X c tg iter f):DI X c tg iter (bL f):=λhid ρ=>PI.imp (h hid ρ) λσ H R hq_=>by
 obtain⟨sr,ds,ρ',e,q⟩:=hq_
 obtain⟨e1,rfl⟩:=sY e
 exact⟨sr,ds,e1,λJ H' s io=>q J H' (.of s) (sr.ext s) io⟩
def nl(f:FE):FA:=λρ=>(f ρ).bind λd=>match d with
 | .lst ds=>some ds
 |_=>none
def B6(f:FE):FA:=λρ=>(f ρ).bind λd=>match d with
 | .tup ds=>some ds
 |_=>none
theorem pM {f:FE}{ρ:aF}{ds:List D}(h:nl f ρ=some ds):f ρ=some (.lst ds):=by
 unfold nl at h;cases e:f ρ with
 |none=>rw[e] at h;cases h
 |some d=>
  rw[e] at h;cases d with
  |lst z=>cases h;rfl
  |_=>cases h
theorem xx {f:FE}{ρ:aF}{ds:List D}(h:B6 f ρ=some ds):f ρ=some (.tup ds):=by
 unfold B6 at h;cases e:f ρ with
 |none=>rw[e] at h;cases h
 |some d=>
  rw[e] at h;cases d with
  |tup z=>cases h;rfl
  |_=>cases h
theorem z0 {K:W.Frag}{W:Hp}{a:Addr}{xs:List V}{ds:List D}(h1:SqL K W a xs)(h2:Reps K W xs ds):ItOk K W (HG K a) ds:=by
 refine⟨λi d H e s=>?_,λH s=>⟨_,s.seq h1,by rw[h2.length];exact Nat.le_refl _⟩⟩
 obtain⟨x,e1,r1⟩:=h2.get e
 refine⟨⟨_,x,s.seq h1,e1⟩,λy H' ⟨e2,e3⟩=>?_⟩
 subst e2;have:=e3 _ (s.seq h1)
 rw[e1] at this;cases this;exact⟨Same.refl _,λhid _ sw=>r1.mono sw⟩
theorem sT {f:FE}(h:DP X c .s iter f):DIp X c tg iter (nl f):=λhid ρ=>PI.imp (qf (h hid ρ)) λσ H R hq_=>by
 obtain⟨sr,ds,e,q⟩:=hq_
 refine⟨sr,_,pM e,λv H' s' r=>?_⟩
 cases r with
 |lst h1 h2=>have h1:=SqL.of (K:=X.K) h1;exact⟨_,rfl,⟨_,(dZ _ _).seq h1⟩,q _ H' s' (z0 h1 h2)⟩
theorem zb {f:FE}(h:DP X c .b iter f):Es X c tg iter (nl f):=λhid ρ=>PI.imp (qf (h hid ρ)) λσ H R hq_=>by
 obtain⟨sr,ds,e,q⟩:=hq_
 refine⟨sr,_,pM e,λv H' s' r=>?_⟩
 obtain⟨a,xs,rfl,h1,h2⟩:=Rep1.lst r
 refine⟨a,rfl,⟨_,h1⟩,q _ H' s' ⟨λi d H e s w=>?_,λH s w=>⟨_,s.seq h1,by rw[h2.length];exact Nat.le_refl _⟩⟩⟩
 obtain⟨x,e1,r1⟩:=h2.get e
 refine⟨⟨_,x,s.seq h1,e1⟩,λy H' ⟨e2,e3⟩=>?_⟩
 subst e2;have:=e3 _ (s.seq h1)
 rw[e1] at this;cases this;exact⟨Same.refl _,λhid _ sw=>r1.mono sw⟩
theorem C0 {f:FE}(h:DP X c .s iter f):DIp X c tg iter (B6 f):=λhid ρ=>PI.imp (EV (h hid ρ)) λσ H R hq_=>by
 obtain⟨sr,ds,e,q⟩:=hq_
 refine⟨sr,_,xx e,λv H' s' r=>?_⟩
 cases r with
 |tup h1 h2=>exact⟨_,rfl,⟨_,Same.seqT (dZ _ _) h1⟩,q _ H' s' (Ar h1 h2)⟩
def cN(f:FA):FA:=λρ=>(f ρ).bind λds=>match ds with
 | [.int j]=>if j.natAbs<4000000000 then some (o3 0 j.toNat) else none
 |_=>none
def oA(f:FA):FA:=λρ=>(f ρ).bind λds=>match ds with
 | [.int i,.int j]=>if i.natAbs<4000000000/\j.natAbs<4000000000 then some (o3 i (j-i).toNat) else none
 |_=>none
theorem cC {a:Expr}{f:FA}{p:Pos}(hm:X.mg "range"=none)(ha:DA X c [a] f)(hg:Gl X "range":=by rfl)(hs:starEach [a] X.env=[(false,eval a X.env)]:=by rfl):DIp X c tg (.Call (.Name "range" p) [a] [] pos) (cN f):=λhid ρ=>
 PI.imp (p6 hg hm (ha hid ρ) hs) λσ H R hq_=>by
  obtain⟨sr,ds,e,q⟩:=hq_
  unfold cN at e;cases e1:f ρ with
  |none=>rw[e1] at e;cases e
  |some z=>
   rw[e1] at e;dsimp only[Option.bind] at e;split at e
   ·split at e
    ·cases e
     refine⟨sr,_,e1,λvs H' s' r=>?_⟩
     cases r with
     |cons r t=>cases t;cases r;exact⟨_,rfl,by omega,by omega,q _ H' s' ku⟩
    ·cases e
   ·cases e
theorem ug {a b:Expr}{f:FA}{p:Pos}(hm:X.mg "range"=none)(ha:DA X c [a,b] f)(hg:Gl X "range":=by rfl)(hs:starEach [a,b] X.env=[(false,eval a X.env),(false,eval b X.env)]:=by rfl)(hs2:starEach [b] X.env=[(false,eval b X.env)]:=by rfl):DIp X c tg (.Call (.Name "range" p) [a,b] [] pos) (oA f):=λhid ρ=>
 PI.imp (xR hg hm (ha hid ρ) hs hs2) λσ H R hq_=>by
  obtain⟨sr,ds,e,q⟩:=hq_
  unfold oA at e;cases e1:f ρ with
  |none=>rw[e1] at e;cases e
  |some z=>
   rw[e1] at e;dsimp only[Option.bind] at e;split at e
   ·split at e
    ·cases e
     refine⟨sr,_,e1,λvs H' s' r=>?_⟩
     cases r with
     |cons r t=>cases t with
      |cons r' t=>cases t;cases r;cases r';exact⟨_,_,rfl,by omega,q _ H' s' ku⟩
    ·cases e
   ·cases e
def kZ(ifs:List Expr)(env:Env):Sem Bool:=forIn ifs true λc r=>if r=true then do let ok <-isTrue c env (eval c env);pure (ForInStep.yield ok) else pure (ForInStep.yield r)
def rK(X:Cx)(c:Ct)(ifs:List Expr)(p:FT):Prop:= ∀hid ρ (ae:List (Addr×Obj)) (s:Shared) (σ:St) (H:Hp) (Q:Bool->Hp->Prop),Inv X ae σ H s->HQ X.K c hid p ρ σ H Q->wpAny (model X.prog X.w) X.A (kZ ifs X.env) (TP X ae σ Q) X.xe s
def fq:FT:=λ_=>some true
theorem gI:rK X c [] fq:=λhid ρ ae s σ H Q I hq_=>by
 obtain⟨sr,d,e,q⟩:=hq_
 cases e
 exact wpAny_tests_nil ⟨H,I,q H (Same.refl _)⟩
theorem j0 {e:Expr}{p:FT}(h:DT X c e p):rK X c [e] p:=λhid ρ ae s σ H Q I q=>wpAny_tests_one (h hid ρ ae s σ H Q I q)
end
theorem eY {prog:Program}{w:World}{A:Around}{R:Result->Shared->Prop}{s:Shared}{elt target iter:Expr}{ifs:List Expr}{scope:Scope}{pos:Pos}{it acc:Value}{env:Env}(I:Nat->Shared->Prop)
 (turn: ∀n s,I n s->wpAny (model prog w) A (pyNext it) (λr s₁=>match r with
   |none=>R (.ok .next) s₁
   |some v=>wpAny (model prog w) A (letOwnedTupleGo target it v) (λ_ s₁=>wpAny (model prog w) A (assign target env v) (λ_ s₂=>
     wpAny (model prog w) A (kZ ifs env) (λok s₃=>
      if ok=true then wpAny (model prog w) A (eval elt env) (λx s₄=>
       wpAny (model prog w) A (call (.builtin "list.append") [acc,x]) (λ_ s₅=> ∃m,m<n/\I m s₅) (λ_ _=>False) s₄) (λ_ _=>False) s₃
      else∃m,m<n/\I m s₃) (λ_ _=>False) s₂) (λ_ _=>False) s₁) (λ_ _=>False) s₁) (λ_ _=>False) s)
 (n:Nat) (h:I n s):
 codeAny (model prog w) A (.compLoop (.ListComp elt [⟨target,iter,ifs,0⟩] scope pos) 0 it acc env) R s:=by
 have no: ∀ {E':Value->Shared->Prop} (x:Value) (s:Shared),False->E' x s:=λ_ _ z=>z.elim
 refine codeAny_loop rfl I (λn s hI=>?_) n h
 show wpAny _ A ((compTurn (.ListComp elt [⟨target,iter,ifs,0⟩] scope pos) 0 it acc env).onRaise (λx=>do noteFrame x env;theTreesLotGoes x)) _ _ s
 refine wpAny_noted ?_
 rw[compTurn_list];refine wpAny_bind (wpAny_standAt (wpAny_bind (wpAny_mono (turn n s hI) (λr s₁ h₁=>?_) no)))
 cases r with
 |none=>exact wpAny_pure h₁
 |some v=>
  refine wpAny_bind (wpAny_mono h₁ (λ_ s₁ h₁=>?_) no)
  refine wpAny_bind (wpAny_mono h₁ (λ_ s₂ h₂=>wpAny_bind (wpAny_mono h₂ (λok s₃ h₃=>?_) no)) no)
  cases ok with
  |false=>exact wpAny_pure ⟨rfl,h₃⟩
  |true=>
   exact wpAny_bind (wpAny_bind (wpAny_mono h₃ (λx s₄ h₄=>wpAny_bind (wpAny_mono h₄ (λ_ s₅ h₅=>wpAny_pure (wpAny_pure ⟨rfl,h₅⟩)) no)) no))
def dB(g:FG)(p:FT)(f:FE)(ρ0:aF):List D->Option (List D)
 | []=>some []
 |d::r=>(g d ρ0).bind λρ1=>(p ρ1).bind λb=>if b=true then(f ρ1).bind λy=>(dB g p f ρ0 r).map (y:: ·) else dB g p f ρ0 r
def cx(m:Nat)(gi:FA)(g:FG)(p:FT)(f:FE):FE:=λρ=>(gi ρ).bind λds=>if ds.length<=sizeLine then(dB g p f (ρ++List.replicate m .no) ds).map D.lst else none
theorem nS {m:Nat}{gi:FA}{g:FG}{p:FT}{f:FE}{ρ:aF}{d:D}(h:cx m gi g p f ρ=some d): ∃ds ys,gi ρ=some ds/\ds.length<=sizeLine/\dB g p f (ρ++List.replicate m .no) ds=some ys/\d=.lst ys:=by
 unfold cx at h;cases e1:gi ρ with
 |none=>rw[e1] at h;cases h
 |some ds=>
  rw[e1] at h;dsimp only[Option.bind] at h;split at h
  ·cases e2:dB g p f (ρ++List.replicate m .no) ds with
   |none=>rw[e2] at h;cases h
   |some ys=>rw[e2] at h;cases h;exact⟨ds,ys,rfl, ‹_›,e2,rfl⟩
  ·cases h
def jz(n:Nat)(g:FG):Prop:= ∀d (ρ0 ρ1:aF),g d ρ0=some ρ1->ρ1.length=ρ0.length/\ ∀i:Nat,i<n->ρ1[i]? =ρ0[i]?
theorem fj {n i:Nat}(h:n<=i):jz n (gN i):=λd ρ0 ρ1 e=>by
 cases e
 exact⟨by simp,λj hj=>List.getElem?_set_ne (by omega)⟩
theorem SR.forget {K:W.Frag}{c:Ct}{hid:bK}{ρ0 ρ1:aF}{σ:St}{H:Hp}(h:SR K c hid ρ1 σ H)(hl:ρ1.length=ρ0.length)(hs: ∀(i:Nat) (s:Sl),ρ0[i]? =some s->s=.no\/ρ1[i]? =some s):SR K c hid ρ0 σ H:=by
 have ow: ∀i:Nat,Ow ρ0[i]? ->Ow ρ1[i]? :=λi o=>by
  cases e:ρ0[i]? with
  |none=>rw[e] at o;exact o.elim
  |some s=>
   rcases hs i s e with rfl|z
   ·rw[e] at o;exact o.elim
   ·rw[z,<-e];exact o
 refine⟨h.tr,h.ht,h.h0,h.kp,h.t0,h.c0,h.m0,h.len.trans hl,λi s e=>?_,λi j a n o1 o2=>h.ap i j a n (ow i o1) (ow j o2)⟩
 rcases hs i s e with rfl|z
 ·trivial
 ·exact h.sl i s z
theorem SR.more {K:W.Frag}{c:Ct}{hid:bK}{ρ:aF}{σ:St}{H:Hp}(h:SR K c hid ρ σ H)(m:Nat):SR K c hid (ρ++List.replicate m .no) (σ++List.replicate m none) H:=by
 have lt: ∀ {i:Nat},Ow (ρ++List.replicate m Sl.no)[i]? ->i<ρ.length:=λ{i} o=>by
  by_cases hi:i<ρ.length
  ·exact hi
  ·rw[List.getElem?_append_right (by omega),List.getElem?_replicate] at o
   split at o<;>exact o.elim
 refine⟨h.tr,h.ht,h.h0,h.kp,h.t0,h.c0,h.m0,by simp[h.len],λi s e=>?_,λi j a n o1 o2 q1 q2=>?_⟩
 ·by_cases hi:i<ρ.length
  ·rw[List.getElem?_append_left hi] at e
   have z:=h.sl i s e
   have es:(σ++List.replicate m none)[i]? =σ[i]? :=List.getElem?_append_left (by rw[h.len];exact hi)
   cases s with
   |no=>trivial
   |v d=>obtain⟨x,h1,h2⟩:=z;exact⟨x,es.trans h1,h2⟩
   |own ds=>obtain⟨a,xs,h1,h2⟩:=z;exact⟨a,xs,es.trans h1,h2⟩
   |arg ds=>obtain⟨a,xs,h1,h2⟩:=z;exact⟨a,xs,es.trans h1,h2⟩
   |ob b=>obtain⟨a,h1,h2⟩:=z;exact⟨a,es.trans h1,h2⟩
  ·rw[List.getElem?_append_right (by omega),List.getElem?_replicate] at e
   split at e
   ·cases e;trivial
   ·cases e
 ·have l1:=lt o1
  have l2:=lt o2
  rw[List.getElem?_append_left l1] at o1;rw[List.getElem?_append_left l2] at o2;rw[List.getElem?_append_left (by rw[h.len];exact l1)] at q1
  rw[List.getElem?_append_left (by rw[h.len];exact l2)] at q2
  exact h.ap i j a n o1 o2 q1 q2
section
variable {X:Cx}{c:Ct}{elt tg iter:Expr}{ifs:List Expr}{scope:Scope}{pos:Pos}{N':List Str}{m:Nat}{gi:FA}{g:FG}{p:FT}{f:FE}
theorem SR.write {K:W.Frag}{hid:bK}{ρ:aF}{σ:St}{H:Hp}{a:Addr}{o':HO}(h:SR K c hid ρ σ H)(hh:hid a=true)(h0:c.H₀ a=none)(na: ∀i:Nat,Ow ρ[i]? ->σ[i]? ≠some (some (.ref a)))(hn: ∀xs,o'≠ .tup xs:=by intro _ e;cases e):SR K c hid ρ σ (bN H a o'):=by
 have tr': ∀b o,H b=some o-> ∃o2,(bN H a o') b=some o2:=λb o q=>by
  by_cases e:b=a
  ·subst e;exact⟨_,aL⟩
  ·exact⟨o,by rw[aH e];exact q⟩
 refine⟨λb hb=>let⟨o,q⟩:=h.tr b hb;tr' b o q,λb xs hb q=>by
  by_cases e:b=a
  ·subst e;rw[aL] at q;exact hn _ (Option.some.inj q)
  ·rw[aH e] at q;exact h.ht b xs hb q,h.h0,λb o q m=>?_,λb o q=>let⟨o2,q2⟩:=h.t0 b o q;tr' b o2 q2,h.c0,h.m0,h.len,λi s e=>?_,h.ap⟩
 ·rw[aH (be q h0)];exact h.kp b o q m
 ·have z:=h.sl i s e
  have ne: ∀a',Ow ρ[i]? ->σ[i]? =some (some (.ref a'))->a'≠a:=λa' o q w=>by subst w;exact na i o q
  cases s with
  |no=>trivial
  |v d=>obtain⟨x,h1,h2⟩:=z;exact⟨x,h1,by rw[eE hh];exact h2⟩
  |own ds=>obtain⟨a',xs,h1,h2,h3,h4,h5⟩:=z;exact⟨a',xs,h1,by rw[aH (ne a' (by rw[e];trivial) h1)];exact h2,h3,h4,by rw[eE hh];exact h5⟩
  |arg ds=>obtain⟨a',xs,h1,h2,h3,h4,h5⟩:=z;exact⟨a',xs,h1,by rw[aH (ne a' (by rw[e];trivial) h1)];exact h2,h3,h4,by rw[eE hh];exact h5⟩
  |ob b=>obtain⟨a',h1,h2⟩:=z;exact⟨a',h1,h2.mono (λow o q=>by rw[aH (ne a' (by rw[e];exact ow) h1)];exact q) (by rw[eE hh];exact Same.refl _) λ_ q=>q⟩
structure CLI(Y:Cx)(K:W.Frag)(c:Ct)(hid:bK)(ρ0:aF)(H W:Hp)(D0:Addr)(fp:List Addr)(tn:Nat->Heap->Prop)(g:FG)(p:FT)(f:FE)(ds ys:List D)(n i:Nat)(xs:List V)(ad:List D)(σ':St)(H':Hp)(s':Shared):Prop where
 e:n=ds.length-i
 hi:i<=ds.length
 I:Inv Y [] σ' H' s'
 st:tn i s'.heap
 fr: ∀b∈fp,H' b=none
 sr:SR K c hid ρ0 σ' H'
 sm:Same H H'
 ac:H' D0=some (.lst xs)
 rp:Reps K (vw H' hid) xs ad
 w:Same W (vw H' hid)
 hl:xs.length<=i
 na: ∀i:Nat,Ow ρ0[i]? ->σ'[i]? ≠some (some (.ref D0))
 go: ∃rest,dB g p f ρ0 (ds.drop i)=some rest/\ad++rest=ys
theorem xL(hcalm:X.calm=true)(hT:jz X.N.length g)
 (hg: ∀C s₀ H₀ ex,oN (aE X N' scope C s₀ H₀ ex) c tg g) (hp: ∀C s₀ H₀ ex,rK (aE X N' scope C s₀ H₀ ex) c ifs p) (he: ∀C s₀ H₀ ex,DP (aE X N' scope C s₀ H₀ ex) c .s elt f)
 {σ3:St} {H H3:Hp} {s3 s4:Shared} {hid:bK} {ρ:aF} {J:It} {it D0 C:Addr} {fp:List Addr} {tn:Nat->Heap->Prop} {ds ys:List D} {R:Result->Shared->Prop} {W:Hp} (hρ:ρ.length=X.N.length)
 (I:Inv (aE X N' scope C s3 H3 fp) [] σ3 H3 s4) (sr:SR X.K c hid (ρ++List.replicate m .no) σ3 H3) (hh:hid D0=true) (h00:c.H₀ D0=none) (na: ∀i:Nat,Ow (ρ++List.replicate m Sl.no)[i]? ->σ3[i]? ≠some (some (.ref D0))) (hacc:H3 D0=some (.lst [])) (sm:Same H H3) (nD:H D0=none) (wv:Same W (vw H3 hid)) (T:Turn X.prog X.w X.K tg J fp it tn) (st:tn 0 s4.heap) (hF: ∀b∈fp,H3 b=none)
 (io:Cw X.K H W J ds) (hz:ds.length<=sizeLine) (hc:dB g p f (ρ++List.replicate m .no) ds=some ys)
 (hR: ∀(s':Shared) (σ':St) (H':Hp) (xs:List V),Inv (aE X N' scope C s3 H3 fp) [] σ' H' s'->Same H H'->H' D0=some (.lst xs)->Reps X.K (vw H' hid) xs ys->R (.ok .next) s'):
 codeAny (model X.prog X.w) X.A (.compLoop (.ListComp elt [⟨tg,iter,ifs,0⟩] scope pos) 0 (.ref it) (.ref D0) (compEnvC scope (ml X.env.cells scope C) C X.env)) R s4:=by
 have stat: ∀ {ae:List (Addr×Obj)} {H':Hp},(∀q∈ae,q.1∉fp)->(∀b∈fp,H' b=none)-> ∀b∈fp,iT (aE X N' scope C s3 H3 fp) ae H' b:=λ{ae H'} hpn hn b hb=>
  ⟨hn b hb,(I.ok.exf b hb).1,I.ok.exfs b hb,.inl hb,(I.ok.exf b hb).2,λq hq e=>hpn q (by have hq':q∈([]:List (Addr×Obj))++ae:=hq;simpa using hq') (by rw[e];exact hb)⟩
 have no: ∀q∈([]:List (Addr×Obj)),q.1∉fp:=λq hq=>nomatch hq
 refine eY (λn s'=> ∃(i:Nat) (xs:List V) (ad:List D) (σ':St) (H':Hp),CLI (aE X N' scope C s3 H3 fp) X.K c hid (ρ++List.replicate m .no) H W D0 fp tn g p f ds ys n i xs ad σ' H' s') ?_ ds.length
  ⟨0,[],[],σ3,H3,by simp,Nat.zero_le _,I,st,hF,sr,sm,hacc,.nil,wv,Nat.zero_le _,na,ys,by simpa using hc,rfl⟩
 rintro n s5 ⟨i,xs,ad,σ5,H5,rfl,hi,I5,st5,f5,sr5,sm5,ac5,rp5,w5,hl5,na5,rest,hc5,hy5⟩
 have wH:Same W H5:=w5.trans (dZ _ _)
 by_cases hlt:i<ds.length
 ·have hd:ds[i]? =some ds[i]:=List.getElem?_eq_getElem hlt
  have e2:ds.drop i=ds[i]::ds.drop (i+1):=List.drop_eq_getElem_cons hlt
  rw[e2] at hc5;unfold dB at hc5;obtain⟨go,yl⟩:=io.1 i ds[i] H5 hd sm5 wH
  refine bD (T.item (aE X N' scope C s3 H3 fp) rfl rfl rfl hcalm i [] s5 σ5 H5 (λ_ _=>False) I5 (stat no f5) st5 go) λr s6 hq_=>?_
  obtain⟨u,hr,h6⟩:=hq_
  subst hr;refine bD h6 λ_ s7 hq_=>?_
  obtain⟨x,H7,I7,r7,y7,st7,f7⟩:=hq_
  obtain⟨s7',rp⟩:=yl x H7 y7
  have rx:=rp hid sr5.tr w5
  have I7':=I7.pinned (stat no f7) (T.obj _ _ st7)
  cases e3:g ds[i] (ρ++List.replicate m .no) with
  |none=>rw[e3] at hc5;cases hc5
  |some ρ1=>
   rw[e3] at hc5;have hc5:(p ρ1).bind (λb=>if b=true then(f ρ1).bind λy=>(dB g p f (ρ++List.replicate m .no) (ds.drop (i+1))).map (y:: ·) else dB g p f (ρ++List.replicate m .no) (ds.drop (i+1)))=some rest:=hc5
   obtain⟨tl1,tl2⟩:=hT _ _ _ e3
   have fg: ∀ {σ':St} {H':Hp},SR X.K c hid ρ1 σ' H'->SR X.K c hid (ρ++List.replicate m .no) σ' H':=λ{σ' H'} z=>z.forget tl1 λj s e=>by
    by_cases hj:j<X.N.length
    ·exact .inr ((tl2 j hj).trans e)
    ·refine .inl ?_
     rw[List.getElem?_append_right (by omega),List.getElem?_replicate] at e
     split at e
     ·cases e;rfl
     ·cases e
   have keepT: ∀ {σ':St} {H':Hp} {s':Shared},Inv (aE X N' scope C s3 H3 fp) ([]++kA fp s7.heap) σ' H' s'->tn (i+1) s'.heap/\ ∀b∈fp,H' b=none:=λ{σ' H' s'} J'=>by
    refine⟨T.keep _ _ _ st7 λb hb o e=>(J'.pin (b,o) (List.mem_append_right _ (List.mem_append_right _ (dh hb e)))).1,λb hb=>?_⟩
    obtain⟨o,e,_⟩:=T.obj _ _ st7 b hb
    exact(J'.pin (b,o) (List.mem_append_right _ (List.mem_append_right _ (dh hb e)))).2.1
   refine bD (hg C s3 H3 fp hid _ ds[i] _ s7 σ5 H7 x u (λσ' H'=>H'=H7/\SR X.K c hid ρ1 σ' H7/\OwK (ρ++List.replicate m .no) ρ1 σ5 σ') I7' r7 ⟨sr5.ext s7',rx,ρ1,e3,λσ' z o=>⟨rfl,z,o⟩⟩) λ_ s8 hq_=>?_
   obtain⟨σ8,H8,I8,e8,q8,o8⟩:=hq_
   subst e8;have na8: ∀i:Nat,Ow (ρ++List.replicate m Sl.no)[i]? ->σ8[i]? ≠some (some (.ref D0)):=λj o=>by
    have o1:Ow ρ1[j]? :=by
     by_cases hj:j<X.N.length
     ·rw[tl2 j hj];exact o
     ·exfalso
      rw[List.getElem?_append_right (by omega),List.getElem?_replicate] at o
      split at o<;>exact o.elim
    rw[(o8 j o1).2];exact na5 j o
   cases e4:p ρ1 with
   |none=>rw[e4] at hc5;cases hc5
   |some b=>
    rw[e4] at hc5;have hc5:(if b=true then(f ρ1).bind λy=>(dB g p f (ρ++List.replicate m .no) (ds.drop (i+1))).map (y:: ·) else dB g p f (ρ++List.replicate m .no) (ds.drop (i+1)))=some rest:=hc5
    refine bD (hp C s3 H3 fp hid ρ1 _ s8 σ8 H8 (λb' H'=>b'=b/\Same H8 H') I8 ⟨q8,b,e4,λH' s'=>⟨rfl,s'⟩⟩) λok s9 hq_=>?_
    obtain⟨H9,I9,e9,sm9⟩:=hq_
    subst e9;have w9:Same (vw H5 hid) (vw H9 hid):=aR (s7'.trans sm9)
    cases ok with
    |false=>
     have hc5:dB g p f (ρ++List.replicate m .no) (ds.drop (i+1))=some rest:=hc5
     obtain⟨k1,k2⟩:=keepT I9
     exact⟨ds.length- (i+1),by omega,i+1,xs,ad,σ8,H9,rfl,hlt,I9.unpinned,k1,k2,fg (q8.ext sm9),sm5.trans (s7'.trans sm9),sm9 _ _ (s7' _ _ ac5),rp5.mono w9,w5.trans w9,by omega,na8,rest,hc5,hy5⟩
    |true=>
     have hc5:((f ρ1).bind λy=>(dB g p f (ρ++List.replicate m .no) (ds.drop (i+1))).map (y:: ·))=some rest:=hc5
     cases e5:f ρ1 with
     |none=>rw[e5] at hc5;cases hc5
     |some y=>
      rw[e5] at hc5;have hc5:(dB g p f (ρ++List.replicate m .no) (ds.drop (i+1))).map (y:: ·)=some rest:=hc5
      cases e6:dB g p f (ρ++List.replicate m .no) (ds.drop (i+1)) with
      |none=>rw[e6] at hc5;cases hc5
      |some rest'=>
       rw[e6] at hc5;cases hc5
       show wpAny (model X.prog X.w) X.A (eval elt _) _ _ s9;refine bD (he C s3 H3 fp hid ρ1 _ s9 σ8 H9 (λv H'=>Same H9 H'/\Rep X.K (vw H' hid) v y) I9 ⟨q8.ext sm9,y,e5,λv H' s' r=>⟨s',r⟩⟩) λv s10 hq_=>?_
       obtain⟨z,H10,I10,rz,sm10,rp10⟩:=hq_
       have sm':Same H5 H10:=s7'.trans (sm9.trans sm10)
       have a10:H10 D0=some (.lst xs):=sm' _ _ ac5
       refine bD (dH (X:=aE X N' scope C s3 H3 fp) _ s10 σ8 H10 (.ref D0) [z] (.ref D0) [v] (λ_ H'=>H'=bN H10 D0 (.lst (xs++[z]))) I10 rfl (.cons rz .nil) ⟨D0,xs,z,rfl,rfl,a10,by omega,rfl⟩) λ_ s11 ⟨_,H11,I11,_,e11⟩=>?_
       subst e11;obtain⟨k1,k2⟩:=keepT I11
       have vv:vw (bN H10 D0 (.lst (xs++[z]))) hid=vw H10 hid:=eE hh
       have w10:Same (vw H5 hid) (vw H10 hid):=aR sm'
       refine⟨ds.length- (i+1),by omega,i+1,xs++[z],ad++[y],σ8,_,rfl,hlt,I11.unpinned,k1,k2,?_,λb o e=>?_,aL,?_,?_,by simp;omega,na8,rest',e6,by rw[<-hy5];simp⟩
       ·
        have q10:=fg ((q8.ext sm9).ext sm10)
        exact q10.write hh h00 na8
       ·rw[aH (be e nD)];exact sm' _ _ (sm5 _ _ e)
       ·rw[vv];exact(rp5.mono w10).append (.cons rp10 .nil)
       ·rw[vv];exact w5.trans w10
 ·have e:i=ds.length:=by omega
  subst e;rw[List.drop_eq_nil_of_le (Nat.le_refl _)] at hc5;cases hc5
  rw[List.append_nil] at hy5;subst hy5;refine bD (T.done (aE X N' scope C s3 H3 fp) rfl rfl rfl hcalm ds.length [] s5 σ5 H5 (λ_ _=>False) I5 (stat no f5) st5 (io.2 H5 sm5 wH)) λr s6 hq_=>?_
  obtain⟨hr,I6⟩:=hq_
  subst hr;exact hR s6 σ5 H5 xs I6 sm5 ac5 rp5
theorem oF(hcalm:X.calm=true)(hk:scope.kind=.function)(hs:ud scope X.env.scope=true)(hn:ur X.N N' scope=true)(hm:N'.length-X.N.length=m)(hT:jz X.N.length g)
 (hg: ∀C s₀ H₀ ex,oN (aE X N' scope C s₀ H₀ ex) c tg g) (hp: ∀C s₀ H₀ ex,rK (aE X N' scope C s₀ H₀ ex) c ifs p) (he: ∀C s₀ H₀ ex,DP (aE X N' scope C s₀ H₀ ex) c .s elt f)
 {E:Value->Shared->Prop} {ae:List (Addr×Obj)} {σ:St} {H:Hp} {s:Shared} {hid:bK} {ρ:aF} {J:It} {it:Addr} {fp:List Addr} {tn:Nat->Heap->Prop} {ds ys:List D} {RR:Value->Addr->Result->Shared->Prop}
 (I:Inv X ae σ H s) (sr:SR X.K c hid ρ σ H) (T:Turn X.prog X.w X.K tg J fp it tn) (st:tn 0 s.heap) (hF: ∀b∈fp,iT X ae H b) (io:Cw X.K H (vw H hid) J ds) (hz:ds.length<=sizeLine) (hc:dB g p f (ρ++List.replicate m .no) ds=some ys)
 (hR: ∀(D C:Addr) (s':Shared) (H':Hp) (xs:List V),s.heap.objs.size<=D->s.heap.objs.size<=C->D≠C->H D=none->Same H H'->H' D=some (.lst xs)->Reps X.K (vw H' (ba hid D)) xs ys->(∃m,s'.heap.Ns C m)->H' C=none->s'.os=s.os->AllBare s'.gens->HOk X.prog X.w H' s'.heap->Un (pO X.stack) fp H H' s.heap s'.heap->RR (.ref D) C (.ok .next) s'):
 wpAny (model X.prog X.w) X.A (newList []) (λacc s₃=>wpAny (model X.prog X.w) X.A (newFunctionEnv scope X.env.globals (qw X.env.cells scope.names []) [] X.env.qual none .none (some X.env)) (λcenv s₄=>
  codeAny (model X.prog X.w) X.A (.compStart (.ListComp elt [⟨tg,iter,ifs,0⟩] scope pos) 0 (.ref it) acc {cenv with scope:=relabel scope X.env}) (RR acc cenv.locals) s₄) E s₃) E s:=by
 refine wpAny_newObj_type (qA λh₁ hns₁ kp1 oc₁=>?_)
 dsimp only at hns₁ kp1 oc₁⊢
 generalize hH2:s.heap.push {cls:=.type "list",dict:=none,data:=.seq ([]:List Value).toArray}=H2 at hns₁ kp1 oc₁⊢
 have hC:H2.objs.size=s.heap.objs.size+1:=by rw[<-hH2,Heap.size_push]
 have hD:H s.heap.objs.size=none:=I.hok.fresh (Nat.le_refl _)
 have I2:Inv X ae σ (bN H s.heap.objs.size (.lst [])) {s with heap:=H2}:=by
  rw[<-hH2];exact I.laid (t':=s.toks) (λb o e=>Heap.get?_push_of_some _ e) (Nat.le_refl _) ⟨Nat.zero_le _,[],0,.nil,Heap.get?_push_size _ rfl⟩
 have fpLt: ∀b∈fp,b<s.heap.objs.size:=λb hb=>let⟨o,e,_⟩:=T.obj 0 s.heap st b hb;Heap.lt_size e
 have hF2: ∀b∈fp,iT X ae (bN H s.heap.objs.size (.lst [])) b:=λb hb=>⟨by rw[aH (Nat.ne_of_lt (fpLt b hb))];exact(hF b hb).1,(hF b hb).2⟩
 have kp0: ∀b o,s.heap.get? b=some o->H2.get? b=some o:=λb o e=>by rw[<-hH2];exact Heap.get?_push_of_some _ e
 have IY:=nR (tk:=s.toks) (N':=N') (fp:=fp) I2 hF2 (λb hb=>let⟨o,e,_⟩:=T.obj 0 s.heap st b hb;⟨o,kp0 b o e⟩) hk hs hn hns₁ kp1 oc₁
 rw[hm] at IY;dsimp only at IY;have sr0:SR X.K c (ba hid s.heap.objs.size) (ρ++List.replicate m .no) (σ++List.replicate m none) (bN H s.heap.objs.size (.lst [])):=(sr.hide (aX hD _) hD aL).more m
 have hρ:ρ.length=X.N.length:=by rw[<-sr.len];exact I.len
 have nf:hid s.heap.objs.size=false:=sr.fresh hD
 have st1:tn 0 h₁:=T.keep _ _ _ st λb hb o e=>kp1 b o (kp0 b o e)
 have na0: ∀i:Nat,Ow (ρ++List.replicate m Sl.no)[i]? ->(σ++List.replicate m none)[i]? ≠some (some (V.ref s.heap.objs.size)):=(sr.more m).notOw nf
 have wv:Same (vw H hid) (vw (bN H s.heap.objs.size (.lst [])) (ba hid s.heap.objs.size)):=by rw[qY hD];exact Same.refl _
 have loop: ∀s4:Shared,s4={s with heap:=h₁,toks:=s.toks}->
  codeAny (model X.prog X.w) X.A (.compLoop (.ListComp elt [⟨tg,iter,ifs,0⟩] scope pos) 0 (.ref it) (.ref s.heap.objs.size) (compEnvC scope (ml X.env.cells scope H2.objs.size) H2.objs.size X.env)) (RR (.ref s.heap.objs.size) H2.objs.size) s4:=by
  rintro s4 rfl
  refine xL (H:=H) (hid:=ba hid s.heap.objs.size) (W:=vw H hid) hcalm hT hg hp he hρ IY sr0 eS (sr.fresh0 hD) na0 aL (aX hD _) hD wv T st1 (λb hb=>(hF2 b hb).1) io hz hc ?_
  intro s' σ' H' xs I' sm' hx' rp';have un1:Un (pO X.stack) fp H (bN H s.heap.objs.size (.lst [])) s.heap H2:=Un.laid (λb o e=>kp0 b o e) (Nat.le_refl _) hD
  refine hR s.heap.objs.size H2.objs.size s' H' xs (Nat.le_refl _) (by rw[hC];exact Nat.le_succ _) (by rw[hC];exact Nat.ne_of_lt (Nat.lt_succ_self _)) hD sm' hx' rp' (let⟨m,hm,_⟩:=I'.loc;⟨m,hm⟩) I'.free I'.os I'.bare I'.hok (un1.trans I'.base)
 exact codeAny_compStart_list (loop _ rfl) (T.self X.A 0 _ _ _ st1 (loop _ rfl))
theorem kL(hcalm:X.calm=true)(hT:jz X.N.length g)(hi:Es X c tg iter gi)
 (hg: ∀C s₀ H₀ ex,oN (aE X N' scope C s₀ H₀ ex) c tg g) (hp: ∀C s₀ H₀ ex,rK (aE X N' scope C s₀ H₀ ex) c ifs p) (he: ∀C s₀ H₀ ex,DP (aE X N' scope C s₀ H₀ ex) c .s elt f)
 (hk:scope.kind=.function:=by rfl) (hs:ud scope X.env.scope=true:=by kernel_rfl) (hn:ur X.N N' scope=true:=by kernel_rfl) (hm:N'.length-X.N.length=m:=by rfl) (hset: ∀x,foldedSetIterable iter X.env x=pure x:=by intro _;rfl):
 DP X c .n (.ListComp elt [⟨tg,iter,ifs,0⟩] scope pos) (cx m gi g p f):=by
 intro hid ρ ae s σ H Q I hq;obtain⟨sr,d,hd,q⟩:=hq
 obtain⟨ds,ys,e1,hz,hc,rfl⟩:=nS hd
 rw[eval_ListComp];refine wpAny_comprehension_free (use:=none) rfl hset (fc λx hx=>I.ok.has x (ie hs x hx)) hk (j2 hs) ?_
 refine bD (hi hid ρ ae s σ H (λJ H'=>Same H H'/\Cw X.K H' (vw H' hid) J ds) I ⟨sr,ds,e1,λJ H' s1 io=>⟨s1,io⟩⟩) λv s1 h1=>bD h1 λitv s2 h2=>?_
 obtain⟨it,fp,tn,J,H2,rfl,I2,T,st2,f2,sm,io⟩:=h2
 refine oF (RR:=λacc C=>compPost (model X.prog X.w) X.A X.xe none (EP X ae σ Q) acc C) hcalm hk hs hn hm hT hg hp he I2 (sr.ext sm) T st2 f2 io hz hc ?_
 intro D C s' H' xs hDge hCge hDC hD sm' hx rp ⟨mm,hns⟩ hC' hos hbare hok hun;refine⟨mm,hns,λh' hsb=>⟨.ref D,H',?_,rfl,q _ H' (sm.trans sm') ⟨D,xs,ys,rfl,rfl,sm.free hD,hx,rp⟩⟩⟩
 have neC: ∀b o,s2.heap.get? b=some o->b≠C:=λb o e z=>by subst z;exact absurd (Heap.lt_size e) (Nat.not_lt.mpr hCge)
 have hun':Un (pO X.stack) fp H2 H' s2.heap h':=⟨λb o e n h1 h2=>(hsb.2 b (neC b o e)).trans (hun.keep b o e n h1 h2),λb o e n h1 h2=>let⟨sl,z⟩:=hun.slot b o e n h1 h2;⟨sl,(hsb.2 b (neC b o e)).trans z⟩,hun.free,λb o e h2=>let⟨o',z⟩:=hun.there b o e h2;⟨o',(hsb.2 b (neC b o e)).trans z⟩,hun.tups,hun.frzs,hun.tbls⟩
 have hok':HOk X.prog X.w H' h':=λb o e=>by
  have nb: ∀b' o',H' b'=some o'->b'≠C:=λb' o' e' z=>by subst z;rw[hC'] at e';cases e'
  refine(hok b o e).stay (λc' u hc' z=>(hsb.2 c' ?_).trans z) (λ_ z=>z) λ_ _ z=>z
  rcases hc' with z'|z'
  ·rw[z'];exact nb b o e
  ·exact nb c' _ z'
 exact I2.call' (s':={s' with heap:=h'}) (ch:=fp) hos hun' hok' hbare λb hb=>⟨(f2 b hb).2.2.2.1,(f2 b hb).2.1,(f2 b hb).2.2.2.2.1,(f2 b hb).2.2.2.2.2⟩
end
section
variable {X:Cx}{c:Ct}{elt tg iter:Expr}{ifs:List Expr}{scope:Scope}{pos spos py:Pos}{N':List Str}{m:Nat}{gi:FA}{g:FG}{p:FT}{f:FE}{y:Str}
theorem B7(i:Nat)(hcalm:X.calm=true)(hN:X.N.Nodup)(hT:jz X.N.length g)(hi:Es X c tg iter gi)
 (hg: ∀C s₀ H₀ ex,oN (aE X N' scope C s₀ H₀ ex) c tg g) (hp: ∀C s₀ H₀ ex,rK (aE X N' scope C s₀ H₀ ex) c ifs p) (he: ∀C s₀ H₀ ex,DP (aE X N' scope C s₀ H₀ ex) c .s elt f)
 (hsw:swapsWith (.ListComp elt [⟨tg,iter,ifs,0⟩] scope pos) (some (.Name y py)) spos.line X.env=pure true) (hyi:X.N[i]? =some y) (hy:X.env.scope.names.lookup y=some .local)
 (hk:scope.kind=.function) (hs:ud scope X.env.scope=true) (hn:ur X.N N' scope=true) (hm:N'.length-X.N.length=m) (hset: ∀x,foldedSetIterable iter X.env x=pure x) (ρ:aF):
 PS X (.Assign [.Name y py] (.ListComp elt [⟨tg,iter,ifs,0⟩] scope pos) spos) (BV (λσ H Q=> ∃hid,A9 X.K c hid .n (cx m gi g p f) ρ σ H Q) (vL i)):=by
 intro ae s σ H E I hq;obtain⟨hid,sr,d,hd,q⟩:=hq
 obtain⟨ds,ys,e1,hz,hc,rfl⟩:=nS hd
 rw[exec_Assign_Name_used _ _ _ _ hsw];refine wpAny_bind (wpAny_standAt (wpAny_bind ?_))
 show wpAny _ X.A (do let _ <-comprehension (.ListComp elt [⟨tg,iter,ifs,0⟩] scope pos) scope X.env _ (newList []) false (eval iter X.env) (some (assign (.Name y py) X.env))) _ _ s
 refine wpAny_bind (wpAny_mono (wpAny_comprehension_free (use:=some (assign (.Name y py) X.env)) (Q:=λ_ s'=>SP X ae E .next s') rfl hset (fc λx hx=>I.ok.has x (ie hs x hx)) hk (j2 hs) ?_) (λ_ s' hq=>wpAny_pure (wpAny_pure hq)) λ_ _ e=>e)
 refine bD (hi hid ρ ae s σ H (λJ H'=>Same H H'/\Cw X.K H' (vw H' hid) J ds) I ⟨sr,ds,e1,λJ H' s1 io=>⟨s1,io⟩⟩) λv s1 h1=>bD h1 λitv s2 h2=>?_
 obtain⟨it,fp,tn,J,H2,rfl,I2,T,st2,f2,sm,io⟩:=h2
 refine oF (RR:=λacc C=>compPost (model X.prog X.w) X.A X.xe (some (assign (.Name y py) X.env)) (λ_ s'=>SP X ae E .next s') acc C) hcalm hk hs hn hm hT hg hp he I2 (sr.ext sm) T st2 f2 io hz hc ?_
 intro D C s' H' xs hDge hCge hDC hD sm' hx rp ⟨mm,hns⟩ hC' hos hbare hok hun;have I3:Inv X ae σ H' s':=I2.call' (ch:=fp) hos hun hok hbare λb hb=>⟨(f2 b hb).2.2.2.1,(f2 b hb).2.1,(f2 b hb).2.2.2.2.1,(f2 b hb).2.2.2.2.2⟩
 have fin:=q _ H' (sm.trans sm') ⟨D,xs,ys,rfl,rfl,sm.free hD,hx,rp⟩
 have ltC: ∀b o,s2.heap.get? b=some o->b≠C:=λb o e z=>by subst z;exact absurd (Heap.lt_size e) (Nat.not_lt.mpr hCge)
 have hLC:C≠X.env.locals:=λz=>by
  have:=I2.lt
  rw[<-z] at this;exact absurd this (Nat.not_lt.mpr hCge)
 show wpAny _ X.A (assign (.Name y py) X.env (.ref D)) _ _ s';refine wpAny_assign_Name (lZ (v:=.ref D) I3 hN hyi (.inl hy) rfl (λs'' I4 hb=>?_) (.inr hy))
 obtain⟨a,hsb,ha⟩:=hb
 have hCa:C≠a:=by
  rcases ha with rfl|ha
  ·exact hLC
  ·obtain⟨w',o,ho,_⟩:=I2.cell y a ha
   exact λz=>ltC a o ho z.symm
 refine⟨mm,hns.sameBut hsb hCa,λh3 hs3=>⟨_,H',?_,fin⟩⟩
 refine I4.turned (t':=s''.toks) (it:=C) (λb o nb e=>(hs3.2 b nb).trans e) hC' hLC (.inr (Nat.le_trans I2.sz hCge)) (λx c' e z=>?_) (λq hq z=>?_)
 ·obtain⟨w',o,ho,_⟩:=I2.cell x c' e
  exact ltC c' o ho z
 ·exact ltC q.1 q.2 (I2.pin q hq).1 z
theorem vC(i:Nat){k:Kd}(hcalm:X.calm=true)(hN:X.N.Nodup)(hT:jz X.N.length g)(hi:Es X c tg iter gi)
 (hg: ∀C s₀ H₀ ex,oN (aE X N' scope C s₀ H₀ ex) c tg g) (hp: ∀C s₀ H₀ ex,rK (aE X N' scope C s₀ H₀ ex) c ifs p) (he: ∀C s₀ H₀ ex,DP (aE X N' scope C s₀ H₀ ex) c .s elt f)
 (hsw:swapsWith (.ListComp elt [⟨tg,iter,ifs,0⟩] scope pos) (some (.Name y py)) spos.line X.env=pure true:=by rfl) (hyi:X.N[i]? =some y:=by rfl) (hy:X.env.scope.names.lookup y=some .local:=by rfl)
 (hk:scope.kind=.function:=by rfl) (hs:ud scope X.env.scope=true:=by kernel_rfl) (hn:ur X.N N' scope=true:=by kernel_rfl) (hm:N'.length-X.N.length=m:=by rfl) (hset: ∀x,foldedSetIterable iter X.env x=pure x:=by intro _;rfl):
 DS X c k (.Assign [.Name y py] (.ListComp elt [⟨tg,iter,ifs,0⟩] scope pos) spos) (aQ i (cx m gi g p f)):=λρ=>PS.imp (B7 i hcalm hN hT hi hg hp he hsw hyi hy hk hs hn hm hset ρ) λD σ H hq_=>by
 obtain⟨hid,sr,q⟩:=hq_
 unfold aQ at q;cases e1:cx m gi g p f ρ with
 |none=>rw[e1] at q;exact q.elim
 |some z=>
  rw[e1] at q;exact⟨hid,sr,z,e1,λv H' s r=>q _ H' hid ((sr.ext s).setV (RN.rep r λa n=>sr.fresh n) i) (aR s)⟩
end
mutual
def eJ:D->D->Bool
 | .non,.non=>true
 | .bl a,.bl b=>a==b
 | .bl a,.int b=>(if a then 1 else 0)==b
 | .int a,.bl b=>a==(if b then 1 else 0)
 | .int a,.int b=>a==b
 | .str a,.str b=>a==b
 | .tup a,.tup b=>cX a b
 | .lst a,.lst b=>cX a b
 | .lst a,.scr b=>cX a b
 | .scr a,.lst b=>cX a b
 | .scr a,.scr b=>cX a b
 |_,_=>false
def cX:List D->List D->Bool
 | [],[]=>true
 |x::xs,y::ys=>eJ x y&&cX xs ys
 |_,_=>false
end
mutual
def fw:D->Nat
 | .tup a=>dP a+1
 | .lst a=>dP a+1
 | .scr _=>cLine
 |_=>0
def dP:List D->Nat
 | []=>0
 |x::xs=>max (fw x) (dP xs)
end
theorem oE: ∀ {xs:List D} {i:Nat} {d:D},xs[i]? =some d->fw d<=dP xs
 | [],_,_,h=>by simp at h
 |x::xs,0,d,h=>by simp at h;subst h;unfold dP;exact Nat.le_max_left _ _
 |x::xs,i+1,d,h=>by
  have:=oE (xs:=xs) (i:=i) (d:=d) (by simpa using h)
  unfold dP;exact Nat.le_trans this (Nat.le_max_right _ _)
mutual
theorem kW: ∀x:D,eJ x x=true
 | .non=>by unfold eJ;rfl
 | .bl a=>by unfold eJ;simp
 | .int a=>by unfold eJ;simp
 | .str a=>by unfold eJ;simp
 | .tup a=>by unfold eJ;exact jR a
 | .lst a=>by unfold eJ;exact jR a
 | .scr a=>by unfold eJ;exact jR a
theorem jR: ∀x:List D,cX x x=true
 | []=>by unfold cX;rfl
 |x::xs=>by unfold cX;rw[kW x,jR xs];rfl
end
def kc(xs ys:List D)(j:Nat):Bool:=match xs[j]?,ys[j]? with
 |some x,some y=>eJ x y
 |_,_=>false
theorem pX {xs ys:List D}(h:xs.length=ys.length):(List.range xs.length).all (kc xs ys)=cX xs ys:=by
 induction xs generalizing ys with
 |nil=>
  cases ys with
  |nil=>unfold cX;rfl
  |cons y ys=>simp at h
 |cons x xs ih=>
  cases ys with
  |nil=>simp at h
  |cons y ys=>
   rw[List.length_cons,List.range_succ_eq_map,List.all_cons,List.all_map];have e0:kc (x::xs) (y::ys) 0=eJ x y:=rfl
   have e1:((kc (x::xs) (y::ys))∘Nat.succ)=kc xs ys:=by funext j;simp[kc]
   rw[e0,e1,ih (by simpa using h)]
   conv=>rhs;unfold cX
theorem nM: ∀ {xs ys:List D},xs.length≠ys.length->cX xs ys=false
 | [],[],h=>absurd rfl h
 | [],_::_,_=>by unfold cX;rfl
 |_::_,[],_=>by unfold cX;rfl
 |x::xs,y::ys,h=>by unfold cX;rw[nM (xs:=xs) (ys:=ys) (by simpa using h)];simp
section
variable {X:Cx}{ae:List (Addr×Obj)}{σ:St}{H:Hp}{s:Shared}
theorem fK(I:Inv X ae σ H s){a:Addr}{xs ys:List V}(h:SqL X.K H a xs)(h':SqT X.K H a ys):False:=by
 obtain⟨its,_,pl,_⟩:=I.list h
 obtain⟨its',_,pt,_⟩:=I.tuple h'
 exact SeqAt.ne_of_list_tuple pl.isList pt rfl
theorem Fj {a b:List D}(h: ∀zs,cX a zs=cX b zs):(∀z,eJ (.tup a) z=eJ (.tup b) z)/\(∀z,eJ (.lst a) z=eJ (.lst b) z)/\ ∀z,eJ (.scr a) z=eJ (.lst b) z:=by
 refine⟨λz=>?_,λz=>?_,λz=>?_⟩<;>cases z<;>unfold eJ<;>first|exact h _|rfl
theorem Gv {b:List D}: ∀z,eJ (.scr b) z=eJ (.lst b) z:=(Fj λ_=>rfl).2.2
mutual
theorem Rep.eqv(I:Inv X ae σ H s): ∀ {v:V} {x y:D},Rep X.K H v x->Rep X.K H v y-> ∀z,eJ x z=eJ y z
 |_,_,_,.non,.non=>λ_=>rfl
 |_,_,_,.bl,.bl=>λ_=>rfl
 |_,_,_,.int,.int=>λ_=>rfl
 |_,_,_,.str,.str=>λ_=>rfl
 |_,_,_,.tup h r,.tup h' r'=>by rw[I.tuple_inj h h'] at r;exact(Fj (Reps.eqv I r r')).1
 |_,_,_,.lst h r,.lst h' r'=>by rw[I.list_inj (SqL.of h) (SqL.of h')] at r;exact(Fj (Reps.eqv I r r')).2.1
 |_,_,_,.lst h r,.scr h' r'=>by rw[I.list_inj (SqL.of h) h'.seq] at r;exact λz=>((Fj (Reps.eqv I r r')).2.1 z).trans (Gv z).symm
 |_,_,_,.scr h r,.lst h' r'=>by rw[I.list_inj h.seq (SqL.of h')] at r;exact(Fj (Reps.eqv I r r')).2.2
 |_,_,_,.scr h r,.scr h' r'=>by rw[I.list_inj h.seq h'.seq] at r;exact λz=>((Fj (Reps.eqv I r r')).2.2 z).trans (Gv z).symm
 |_,_,_,.tup h r,.lst h' r'=>(fK I (SqL.of h') h).elim
 |_,_,_,.lst h r,.tup h' r'=>(fK I (SqL.of h) h').elim
 |_,_,_,.tup h r,.scr h' r'=>(fK I h'.seq h).elim
 |_,_,_,.scr h r,.tup h' r'=>(fK I h.seq h').elim
theorem Reps.eqv(I:Inv X ae σ H s): ∀ {v:List V} {x y:List D},Reps X.K H v x->Reps X.K H v y-> ∀z,cX x z=cX y z
 |_,_,_,.nil,.nil=>λ_=>rfl
 |_,_,_,.cons r t,.cons r' t'=>λz=>by
  cases z with
  |nil=>unfold cX;rfl
  |cons w ws=>unfold cX;rw[Rep.eqv I r r' w,Reps.eqv I t t' ws]
end
theorem aK(I:Inv X ae σ H s){a:Addr}{xs:List V}{ds:List D}(h:SqL X.K H a xs)(r:Reps X.K H xs ds): ∃its:List Value,s.heap.IsList a its.toArray/\its.length=ds.length/\ ∀(j:Nat) (hj:j<its.length),∃(v:V) (d:D),ds[j]? =some d/\RelV v its[j]/\Rep X.K H v d:=by
 obtain⟨its,rv,pl,_⟩:=I.list h
 have h1:=rv.length
 have h2:=r.length
 refine⟨its,pl.isList,by omega,λj hj=>?_⟩
 have e:xs[j]? =some xs[j]:=List.getElem?_eq_getElem (by omega)
 obtain⟨u,e1,r1⟩:=rv.get e
 obtain⟨d,e2,r2⟩:=r.get' e
 have:its[j]=u:=by rw[List.getElem?_eq_getElem hj] at e1;exact Option.some.inj e1
 rw[this];exact⟨xs[j],d,e2,r1,r2⟩
theorem bW(I:Inv X ae σ H s){a:Addr}{xs:List V}{ds:List D}(h:SqT X.K H a xs)(r:Reps X.K H xs ds): ∃its:List Value,s.heap.IsTuple a its.toArray/\its.length=ds.length/\ ∀(j:Nat) (hj:j<its.length),∃(v:V) (d:D),ds[j]? =some d/\RelV v its[j]/\Rep X.K H v d:=by
 obtain⟨its,rv,pl,_⟩:=I.tuple h
 have h1:=rv.length
 have h2:=r.length
 refine⟨its,pl,by omega,λj hj=>?_⟩
 have e:xs[j]? =some xs[j]:=List.getElem?_eq_getElem (by omega)
 obtain⟨u,e1,r1⟩:=rv.get e
 obtain⟨d,e2,r2⟩:=r.get' e
 have:its[j]=u:=by rw[List.getElem?_eq_getElem hj] at e1;exact Option.some.inj e1
 rw[this];exact⟨xs[j],d,e2,r1,r2⟩
end
section
variable {X:Cx}{ae:List (Addr×Obj)}{σ:St}{H:Hp}{s:Shared}
theorem gp(A:Around):A.in1.units=A.units+1:=rfl
theorem Da {A:Around}{n:Nat}(IH: ∀ {x y:D} {v u:V} {a b:Value} {A:Around},fw x<n->A.units+fw x<cLine->RelV v a->RelV u b->Rep X.K H v x->Rep X.K H u y->SeqAt.EqAt A s a b (eJ x y)){xs ys:List D}{its its2:List Value}(hd:dP xs<n)(hu:A.units+dP xs<cLine)
 (g1: ∀(j:Nat) (hj:j<its.length),∃(v:V) (d:D),xs[j]? =some d/\RelV v its[j]/\Rep X.K H v d) (g2: ∀(j:Nat) (hj:j<its2.length),∃(v:V) (d:D),ys[j]? =some d/\RelV v its2[j]/\Rep X.K H v d):
 ∀j (h1:j<its.toArray.size) (h2:j<its2.toArray.size),SeqAt.EqAt A s its.toArray[j] its2.toArray[j] (kc xs ys j):=λj h1 h2=>by
 obtain⟨v,d,e1,r1,p1⟩:=g1 j (by simpa using h1)
 obtain⟨u,d',e2,r2,p2⟩:=g2 j (by simpa using h2)
 have ez:kc xs ys j=eJ d d':=by unfold kc;rw[e1,e2]
 rw[ez];have hdd:=oE e1
 exact IH (by omega) (by omega) (by simpa using r1) (by simpa using r2) p1 p2
theorem jM(I:Inv X ae σ H s){A:Around}{n:Nat}(IH: ∀ {x y:D} {v u:V} {a b:Value} {A:Around},fw x<n->A.units+fw x<cLine->RelV v a->RelV u b->Rep X.K H v x->Rep X.K H u y->SeqAt.EqAt A s a b (eJ x y)){xs ys:List D}{zs ws:List V}{a b:Addr}(hd:dP xs<n)(hu:A.units+(dP xs+1)<cLine)
 (h1:SqL X.K H a zs) (r1:Reps X.K H zs xs) (h2:SqL X.K H b ws) (r2:Reps X.K H ws ys):SeqAt.RcAt A s (.ref a) (.ref b) (cX xs ys)/\SeqAt.RcNeAt A s (.ref a) (.ref b) (!cX xs ys):=by
 obtain⟨its,l1,n1,g1⟩:=aK I h1 r1
 obtain⟨its2,l2,n2,g2⟩:=aK I h2 r2
 by_cases e:xs.length=ys.length
 ·have hsz:its.toArray.size=its2.toArray.size:=by simp;omega
  have he:=Da (A:=A.in1) IH hd (by rw[gp];omega) g1 g2
  have ea:(List.range its.toArray.size).all (kc xs ys)=cX xs ys:=by rw[List.size_toArray,n1];exact pX e
  rw[<-ea];exact⟨SeqAt.RcAt.lists l1 l2 hsz (by omega) he,SeqAt.RcNeAt.lists l1 l2 hsz (by omega) he⟩
 ·rw[nM e]
  have hsz:(its.toArray.size !=its2.toArray.size)=true:=by simp;omega
  exact⟨SeqAt.RcAt.lists_lengths l1 l2 hsz (by omega),SeqAt.RcNeAt.lists_lengths l1 l2 hsz (by omega)⟩
theorem vm(I:Inv X ae σ H s){A:Around}{n:Nat}(IH: ∀ {x y:D} {v u:V} {a b:Value} {A:Around},fw x<n->A.units+fw x<cLine->RelV v a->RelV u b->Rep X.K H v x->Rep X.K H u y->SeqAt.EqAt A s a b (eJ x y)){xs ys:List D}{zs ws:List V}{a b:Addr}(hd:dP xs<n)(hu:A.units+(dP xs+1)<cLine)
 (h1:SqT X.K H a zs) (r1:Reps X.K H zs xs) (h2:SqT X.K H b ws) (r2:Reps X.K H ws ys):SeqAt.RcAt A s (.ref a) (.ref b) (cX xs ys)/\SeqAt.RcNeAt A s (.ref a) (.ref b) (!cX xs ys):=by
 obtain⟨its,l1,n1,g1⟩:=bW I h1 r1
 obtain⟨its2,l2,n2,g2⟩:=bW I h2 r2
 have he:=Da (A:=A.in1) IH hd (by rw[gp];omega) g1 g2
 have ea:((List.range (min its.toArray.size its2.toArray.size)).all (kc xs ys)&&its.toArray.size==its2.toArray.size)=cX xs ys:=by
  rw[List.size_toArray,List.size_toArray,n1,n2]
  by_cases e:xs.length=ys.length
  ·rw[<-e,Nat.min_self,pX e];simp
  ·rw[nM e];simp[e]
 rw[<-ea];exact⟨SeqAt.RcAt.tuples l1 l2 (by omega) he,SeqAt.RcNeAt.tuples l1 l2 (by omega) he⟩
theorem mL(I:Inv X ae σ H s){A:Around}{a b:Addr}{x y:D}(r1:Rep X.K H (.ref a) x)(r2:Rep X.K H (.ref b) y)(e:a=b):SeqAt.EqAt A s (.ref a) (.ref b) (eJ x y):=by
 subst e;rw[Rep.eqv I r1 r2,kW];exact SeqAt.EqAt.same _
theorem Fe(I:Inv X ae σ H s){n:Nat}(IH: ∀ {x y:D} {v u:V} {a b:Value} {A:Around},fw x<n->A.units+fw x<cLine->RelV v a->RelV u b->Rep X.K H v x->Rep X.K H u y->SeqAt.EqAt A s a b (eJ x y)){x y:D}{v u:V}{a b:Value}{A:Around}(hd:fw x<n+1)(hu:A.units+fw x<cLine)(hc:A.units<cLine)
 (ra:RelV v a) (rb:RelV u b) (px:Rep X.K H v x) (py:Rep X.K H u y):SeqAt.EqAt A s a b (eJ x y):=by
 unfold eJ;cases px with
 |non=>
  cases ra
  cases py with
  |non=>
   cases rb
   exact SeqAt.EqAt.same _
  |bl=>
   cases rb
   exact SeqAt.EqAt.none_bool _
  |int=>
   obtain⟨t2,rfl⟩:=rb
   exact SeqAt.EqAt.none_int _ _
  |str=>
   obtain⟨t2,rfl⟩:=rb
   exact SeqAt.EqAt.none_str _ _
  | @tup a2 _ _ h2 r2=>
    cases rb
    obtain⟨its2,l2,_⟩:=bW I h2 r2
    exact SeqAt.EqAt.none_tuple l2 (by omega)
  | @lst a2 _ _ h2 r2=>
    cases rb
    obtain⟨its2,l2,_⟩:=aK I (SqL.of h2) r2
    exact SeqAt.EqAt.none_list l2 (by omega)
  | @scr a2 _ _ h2 r2=>
    cases rb
    obtain⟨its2,l2,_⟩:=aK I h2.seq r2
    exact SeqAt.EqAt.none_list l2 (by omega)
 |bl=>
  cases ra
  cases py with
  |non=>
   cases rb
   exact SeqAt.EqAt.bool_none _
  |bl=>
   cases rb
   exact SeqAt.EqAt.bool_bool _ _
  |int=>
   obtain⟨t2,rfl⟩:=rb
   exact SeqAt.EqAt.bool_int _ _ _
  |str=>
   obtain⟨t2,rfl⟩:=rb
   exact SeqAt.EqAt.bool_str _ _ _
  | @tup a2 _ _ h2 r2=>
    cases rb
    obtain⟨its2,l2,_⟩:=bW I h2 r2
    exact SeqAt.EqAt.bool_tuple _ l2 (by omega)
  | @lst a2 _ _ h2 r2=>
    cases rb
    obtain⟨its2,l2,_⟩:=aK I (SqL.of h2) r2
    exact SeqAt.EqAt.bool_list _ l2 (by omega)
  | @scr a2 _ _ h2 r2=>
    cases rb
    obtain⟨its2,l2,_⟩:=aK I h2.seq r2
    exact SeqAt.EqAt.bool_list _ l2 (by omega)
 |int=>
  obtain⟨t1,rfl⟩:=ra
  cases py with
  |non=>
   cases rb
   exact SeqAt.EqAt.int_none _ _
  |bl=>
   cases rb
   exact SeqAt.EqAt.int_bool _ _ _
  |int=>
   obtain⟨t2,rfl⟩:=rb
   exact SeqAt.EqAt.int_int _ _ _ _
  |str=>
   obtain⟨t2,rfl⟩:=rb
   exact SeqAt.EqAt.int_str _ _ _ _
  | @tup a2 _ _ h2 r2=>
    cases rb
    obtain⟨its2,l2,_⟩:=bW I h2 r2
    exact SeqAt.EqAt.int_tuple _ _ l2 (by omega)
  | @lst a2 _ _ h2 r2=>
    cases rb
    obtain⟨its2,l2,_⟩:=aK I (SqL.of h2) r2
    exact SeqAt.EqAt.int_list _ _ l2 (by omega)
  | @scr a2 _ _ h2 r2=>
    cases rb
    obtain⟨its2,l2,_⟩:=aK I h2.seq r2
    exact SeqAt.EqAt.int_list _ _ l2 (by omega)
 |str=>
  obtain⟨t1,rfl⟩:=ra
  cases py with
  |non=>
   cases rb
   exact SeqAt.EqAt.str_none _ _
  |bl=>
   cases rb
   exact SeqAt.EqAt.str_bool _ _ _
  |int=>
   obtain⟨t2,rfl⟩:=rb
   exact SeqAt.EqAt.str_int _ _ _ _
  |str=>
   obtain⟨t2,rfl⟩:=rb
   exact SeqAt.EqAt.str_str _ _ _ _
  | @tup a2 _ _ h2 r2=>
    cases rb
    obtain⟨its2,l2,_⟩:=bW I h2 r2
    exact SeqAt.EqAt.str_tuple _ _ l2 (by omega)
  | @lst a2 _ _ h2 r2=>
    cases rb
    obtain⟨its2,l2,_⟩:=aK I (SqL.of h2) r2
    exact SeqAt.EqAt.str_list _ _ l2 (by omega)
  | @scr a2 _ _ h2 r2=>
    cases rb
    obtain⟨its2,l2,_⟩:=aK I h2.seq r2
    exact SeqAt.EqAt.str_list _ _ l2 (by omega)
 | @tup a1 _ _ h1 r1=>
   cases ra
   obtain⟨its,l1,_⟩:=bW I h1 r1
   cases py with
   |non=>
    cases rb
    exact SeqAt.EqAt.tuple_none l1 (by omega)
   |bl=>
    cases rb
    exact SeqAt.EqAt.tuple_bool _ l1 (by omega)
   |int=>
    obtain⟨t2,rfl⟩:=rb
    exact SeqAt.EqAt.tuple_int _ _ l1 (by omega)
   |str=>
    obtain⟨t2,rfl⟩:=rb
    exact SeqAt.EqAt.tuple_str _ _ l1 (by omega)
   | @tup a2 _ _ h2 r2=>
     cases rb
     obtain⟨its2,l2,_⟩:=bW I h2 r2
     by_cases e:a1=a2
     ·exact(mL I (.tup h1 r1) (.tup h2 r2) e)
     ·exact SeqAt.EqAt.of_refs e (vm I IH (by unfold fw at hd;omega) (by unfold fw at hu;omega) h1 r1 h2 r2).1
   | @lst a2 _ _ h2 r2=>
     cases rb
     obtain⟨its2,l2,_⟩:=aK I (SqL.of h2) r2
     exact SeqAt.EqAt.tuple_list l1 l2 (by omega)
   | @scr a2 _ _ h2 r2=>
     cases rb
     obtain⟨its2,l2,_⟩:=aK I h2.seq r2
     exact SeqAt.EqAt.tuple_list l1 l2 (by omega)
 | @scr a1 _ _ h1 r1=>exact absurd hu (by unfold fw;omega)
 | @lst a1 _ _ h1 r1=>
   cases ra
   obtain⟨its,l1,_⟩:=aK I (SqL.of h1) r1
   cases py with
   |non=>
    cases rb
    exact SeqAt.EqAt.list_none l1 (by omega)
   |bl=>
    cases rb
    exact SeqAt.EqAt.list_bool _ l1 (by omega)
   |int=>
    obtain⟨t2,rfl⟩:=rb
    exact SeqAt.EqAt.list_int _ _ l1 (by omega)
   |str=>
    obtain⟨t2,rfl⟩:=rb
    exact SeqAt.EqAt.list_str _ _ l1 (by omega)
   | @tup a2 _ _ h2 r2=>
     cases rb
     obtain⟨its2,l2,_⟩:=bW I h2 r2
     exact SeqAt.EqAt.list_tuple l1 l2 (by omega)
   | @lst a2 _ _ h2 r2=>
     cases rb
     obtain⟨its2,l2,_⟩:=aK I (SqL.of h2) r2
     by_cases e:a1=a2
     ·exact(mL I (.lst h1 r1) (.lst h2 r2) e)
     ·exact SeqAt.EqAt.of_refs e (jM I IH (by unfold fw at hd;omega) (by unfold fw at hu;omega) (SqL.of h1) r1 (SqL.of h2) r2).1
   | @scr a2 _ _ h2 r2=>
     cases rb
     obtain⟨its2,l2,_⟩:=aK I h2.seq r2
     by_cases e:a1=a2
     ·exact(mL I (.lst h1 r1) (.scr h2 r2) e)
     ·exact SeqAt.EqAt.of_refs e (jM I IH (by unfold fw at hd;omega) (by unfold fw at hu;omega) (SqL.of h1) r1 h2.seq r2).1
theorem oI(I:Inv X ae σ H s): ∀(n:Nat) {x y:D} {v u:V} {a b:Value} {A:Around},fw x<n->A.units+fw x<cLine->RelV v a->RelV u b->Rep X.K H v x->Rep X.K H u y->SeqAt.EqAt A s a b (eJ x y)
 |0,x,y,v,u,a,b,A,hd,hu,ra,rb,px,py=>absurd hd (Nat.not_lt_zero _)
 |n+1,x,y,v,u,a,b,A,hd,hu,ra,rb,px,py=>Fe I (λh1 h2 h3 h4 h5 h6=>oI I n h1 h2 h3 h4 h5 h6) hd hu (by omega) ra rb px py
theorem EC(I:Inv X ae σ H s){x y:D}{v u:V}{a b:Value}{A:Around}(hu:A.units+fw x<cLine)(hc:A.units<cLine)(ra:RelV v a)(rb:RelV u b)(px:Rep X.K H v x)(py:Rep X.K H u y):SeqAt.RcAt A s a b (eJ x y):=by
 have IH:=λ{x y:D} {v u:V} {a b:Value} {A:Around} (n:Nat)=> @oI X ae σ H s I n x y v u a b A
 have IH: ∀ {n:Nat} {x y:D} {v u:V} {a b:Value} {A:Around},fw x<n->A.units+fw x<cLine->RelV v a->RelV u b->Rep X.K H v x->Rep X.K H u y->SeqAt.EqAt A s a b (eJ x y):=λ{n x y v u a b A}=>oI I n
 unfold eJ;cases px with
 |non=>
  cases ra
  cases py with
  |non=>
   cases rb
   exact SeqAt.RcAt.none_none
  |bl=>
   cases rb
   exact SeqAt.RcAt.none_bool _
  |int=>
   obtain⟨t2,rfl⟩:=rb
   exact SeqAt.RcAt.none_int _ _
  |str=>
   obtain⟨t2,rfl⟩:=rb
   exact SeqAt.RcAt.none_str _ _
  | @tup a2 _ _ h2 r2=>
    cases rb
    obtain⟨its2,l2,_⟩:=bW I h2 r2
    exact SeqAt.RcAt.none_tuple l2 (by omega)
  | @lst a2 _ _ h2 r2=>
    cases rb
    obtain⟨its2,l2,_⟩:=aK I (SqL.of h2) r2
    exact SeqAt.RcAt.none_list l2 (by omega)
  | @scr a2 _ _ h2 r2=>
    cases rb
    obtain⟨its2,l2,_⟩:=aK I h2.seq r2
    exact SeqAt.RcAt.none_list l2 (by omega)
 |bl=>
  cases ra
  cases py with
  |non=>
   cases rb
   exact SeqAt.RcAt.bool_none _
  |bl=>
   cases rb
   exact SeqAt.RcAt.bool_bool _ _
  |int=>
   obtain⟨t2,rfl⟩:=rb
   exact SeqAt.RcAt.bool_int _ _ _
  |str=>
   obtain⟨t2,rfl⟩:=rb
   exact SeqAt.RcAt.bool_str _ _ _
  | @tup a2 _ _ h2 r2=>
    cases rb
    obtain⟨its2,l2,_⟩:=bW I h2 r2
    exact SeqAt.RcAt.bool_tuple _ l2 (by omega)
  | @lst a2 _ _ h2 r2=>
    cases rb
    obtain⟨its2,l2,_⟩:=aK I (SqL.of h2) r2
    exact SeqAt.RcAt.bool_list _ l2 (by omega)
  | @scr a2 _ _ h2 r2=>
    cases rb
    obtain⟨its2,l2,_⟩:=aK I h2.seq r2
    exact SeqAt.RcAt.bool_list _ l2 (by omega)
 |int=>
  obtain⟨t1,rfl⟩:=ra
  cases py with
  |non=>
   cases rb
   exact SeqAt.RcAt.int_none _ _
  |bl=>
   cases rb
   exact SeqAt.RcAt.int_bool _ _ _
  |int=>
   obtain⟨t2,rfl⟩:=rb
   exact SeqAt.RcAt.int_int _ _ _ _
  |str=>
   obtain⟨t2,rfl⟩:=rb
   exact SeqAt.RcAt.int_str _ _ _ _
  | @tup a2 _ _ h2 r2=>
    cases rb
    obtain⟨its2,l2,_⟩:=bW I h2 r2
    exact SeqAt.RcAt.int_tuple _ _ l2 (by omega)
  | @lst a2 _ _ h2 r2=>
    cases rb
    obtain⟨its2,l2,_⟩:=aK I (SqL.of h2) r2
    exact SeqAt.RcAt.int_list _ _ l2 (by omega)
  | @scr a2 _ _ h2 r2=>
    cases rb
    obtain⟨its2,l2,_⟩:=aK I h2.seq r2
    exact SeqAt.RcAt.int_list _ _ l2 (by omega)
 |str=>
  obtain⟨t1,rfl⟩:=ra
  cases py with
  |non=>
   cases rb
   exact SeqAt.RcAt.str_none _ _
  |bl=>
   cases rb
   exact SeqAt.RcAt.str_bool _ _ _
  |int=>
   obtain⟨t2,rfl⟩:=rb
   exact SeqAt.RcAt.str_int _ _ _ _
  |str=>
   obtain⟨t2,rfl⟩:=rb
   exact SeqAt.RcAt.str_str _ _ _ _
  | @tup a2 _ _ h2 r2=>
    cases rb
    obtain⟨its2,l2,_⟩:=bW I h2 r2
    exact SeqAt.RcAt.str_tuple _ _ l2 (by omega)
  | @lst a2 _ _ h2 r2=>
    cases rb
    obtain⟨its2,l2,_⟩:=aK I (SqL.of h2) r2
    exact SeqAt.RcAt.str_list _ _ l2 (by omega)
  | @scr a2 _ _ h2 r2=>
    cases rb
    obtain⟨its2,l2,_⟩:=aK I h2.seq r2
    exact SeqAt.RcAt.str_list _ _ l2 (by omega)
 | @tup a1 _ _ h1 r1=>
   cases ra
   obtain⟨its,l1,_⟩:=bW I h1 r1
   cases py with
   |non=>
    cases rb
    exact SeqAt.RcAt.tuple_none l1 (by omega)
   |bl=>
    cases rb
    exact SeqAt.RcAt.tuple_bool _ l1 (by omega)
   |int=>
    obtain⟨t2,rfl⟩:=rb
    exact SeqAt.RcAt.tuple_int _ _ l1 (by omega)
   |str=>
    obtain⟨t2,rfl⟩:=rb
    exact SeqAt.RcAt.tuple_str _ _ l1 (by omega)
   | @tup a2 _ _ h2 r2=>
     cases rb
     obtain⟨its2,l2,_⟩:=bW I h2 r2
     exact(vm I IH (Nat.lt_succ_self _) (by unfold fw at hu;omega) h1 r1 h2 r2).1
   | @lst a2 _ _ h2 r2=>
     cases rb
     obtain⟨its2,l2,_⟩:=aK I (SqL.of h2) r2
     exact SeqAt.RcAt.tuple_list l1 l2 (by omega)
   | @scr a2 _ _ h2 r2=>
     cases rb
     obtain⟨its2,l2,_⟩:=aK I h2.seq r2
     exact SeqAt.RcAt.tuple_list l1 l2 (by omega)
 | @scr a1 _ _ h1 r1=>exact absurd hu (by unfold fw;omega)
 | @lst a1 _ _ h1 r1=>
   cases ra
   obtain⟨its,l1,_⟩:=aK I (SqL.of h1) r1
   cases py with
   |non=>
    cases rb
    exact SeqAt.RcAt.list_none l1 (by omega)
   |bl=>
    cases rb
    exact SeqAt.RcAt.list_bool _ l1 (by omega)
   |int=>
    obtain⟨t2,rfl⟩:=rb
    exact SeqAt.RcAt.list_int _ _ l1 (by omega)
   |str=>
    obtain⟨t2,rfl⟩:=rb
    exact SeqAt.RcAt.list_str _ _ l1 (by omega)
   | @tup a2 _ _ h2 r2=>
     cases rb
     obtain⟨its2,l2,_⟩:=bW I h2 r2
     exact SeqAt.RcAt.list_tuple l1 l2 (by omega)
   | @lst a2 _ _ h2 r2=>
     cases rb
     obtain⟨its2,l2,_⟩:=aK I (SqL.of h2) r2
     exact(jM I IH (Nat.lt_succ_self _) (by unfold fw at hu;omega) (SqL.of h1) r1 (SqL.of h2) r2).1
   | @scr a2 _ _ h2 r2=>
     cases rb
     obtain⟨its2,l2,_⟩:=aK I h2.seq r2
     exact(jM I IH (Nat.lt_succ_self _) (by unfold fw at hu;omega) (SqL.of h1) r1 h2.seq r2).1
theorem yn(I:Inv X ae σ H s){x y:D}{v u:V}{a b:Value}{A:Around}(hu:A.units+fw x<cLine)(hc:A.units<cLine)(ra:RelV v a)(rb:RelV u b)(px:Rep X.K H v x)(py:Rep X.K H u y):SeqAt.RcNeAt A s a b (!eJ x y):=by
 have IH: ∀ {n:Nat} {x y:D} {v u:V} {a b:Value} {A:Around},fw x<n->A.units+fw x<cLine->RelV v a->RelV u b->Rep X.K H v x->Rep X.K H u y->SeqAt.EqAt A s a b (eJ x y):=λ{n x y v u a b A}=>oI I n
 unfold eJ;cases px with
 |non=>
  cases ra
  cases py with
  |non=>
   cases rb
   exact SeqAt.RcNeAt.none_none
  |bl=>
   cases rb
   exact SeqAt.RcNeAt.none_bool _
  |int=>
   obtain⟨t2,rfl⟩:=rb
   exact SeqAt.RcNeAt.none_int _ _
  |str=>
   obtain⟨t2,rfl⟩:=rb
   exact SeqAt.RcNeAt.none_str _ _
  | @tup a2 _ _ h2 r2=>
    cases rb
    obtain⟨its2,l2,_⟩:=bW I h2 r2
    exact SeqAt.RcNeAt.none_tuple l2 (by omega)
  | @lst a2 _ _ h2 r2=>
    cases rb
    obtain⟨its2,l2,_⟩:=aK I (SqL.of h2) r2
    exact SeqAt.RcNeAt.none_list l2 (by omega)
  | @scr a2 _ _ h2 r2=>
    cases rb
    obtain⟨its2,l2,_⟩:=aK I h2.seq r2
    exact SeqAt.RcNeAt.none_list l2 (by omega)
 |bl=>
  cases ra
  cases py with
  |non=>
   cases rb
   exact SeqAt.RcNeAt.bool_none _
  |bl=>
   cases rb
   exact SeqAt.RcNeAt.bool_bool _ _
  |int=>
   obtain⟨t2,rfl⟩:=rb
   exact SeqAt.RcNeAt.bool_int _ _ _
  |str=>
   obtain⟨t2,rfl⟩:=rb
   exact SeqAt.RcNeAt.bool_str _ _ _
  | @tup a2 _ _ h2 r2=>
    cases rb
    obtain⟨its2,l2,_⟩:=bW I h2 r2
    exact SeqAt.RcNeAt.bool_tuple _ l2 (by omega)
  | @lst a2 _ _ h2 r2=>
    cases rb
    obtain⟨its2,l2,_⟩:=aK I (SqL.of h2) r2
    exact SeqAt.RcNeAt.bool_list _ l2 (by omega)
  | @scr a2 _ _ h2 r2=>
    cases rb
    obtain⟨its2,l2,_⟩:=aK I h2.seq r2
    exact SeqAt.RcNeAt.bool_list _ l2 (by omega)
 |int=>
  obtain⟨t1,rfl⟩:=ra
  cases py with
  |non=>
   cases rb
   exact SeqAt.RcNeAt.int_none _ _
  |bl=>
   cases rb
   exact SeqAt.RcNeAt.int_bool _ _ _
  |int=>
   obtain⟨t2,rfl⟩:=rb
   exact SeqAt.RcNeAt.int_int _ _ _ _
  |str=>
   obtain⟨t2,rfl⟩:=rb
   exact SeqAt.RcNeAt.int_str _ _ _ _
  | @tup a2 _ _ h2 r2=>
    cases rb
    obtain⟨its2,l2,_⟩:=bW I h2 r2
    exact SeqAt.RcNeAt.int_tuple _ _ l2 (by omega)
  | @lst a2 _ _ h2 r2=>
    cases rb
    obtain⟨its2,l2,_⟩:=aK I (SqL.of h2) r2
    exact SeqAt.RcNeAt.int_list _ _ l2 (by omega)
  | @scr a2 _ _ h2 r2=>
    cases rb
    obtain⟨its2,l2,_⟩:=aK I h2.seq r2
    exact SeqAt.RcNeAt.int_list _ _ l2 (by omega)
 |str=>
  obtain⟨t1,rfl⟩:=ra
  cases py with
  |non=>
   cases rb
   exact SeqAt.RcNeAt.str_none _ _
  |bl=>
   cases rb
   exact SeqAt.RcNeAt.str_bool _ _ _
  |int=>
   obtain⟨t2,rfl⟩:=rb
   exact SeqAt.RcNeAt.str_int _ _ _ _
  |str=>
   obtain⟨t2,rfl⟩:=rb
   exact SeqAt.RcNeAt.str_str _ _ _ _
  | @tup a2 _ _ h2 r2=>
    cases rb
    obtain⟨its2,l2,_⟩:=bW I h2 r2
    exact SeqAt.RcNeAt.str_tuple _ _ l2 (by omega)
  | @lst a2 _ _ h2 r2=>
    cases rb
    obtain⟨its2,l2,_⟩:=aK I (SqL.of h2) r2
    exact SeqAt.RcNeAt.str_list _ _ l2 (by omega)
  | @scr a2 _ _ h2 r2=>
    cases rb
    obtain⟨its2,l2,_⟩:=aK I h2.seq r2
    exact SeqAt.RcNeAt.str_list _ _ l2 (by omega)
 | @tup a1 _ _ h1 r1=>
   cases ra
   obtain⟨its,l1,_⟩:=bW I h1 r1
   cases py with
   |non=>
    cases rb
    exact SeqAt.RcNeAt.tuple_none l1 (by omega)
   |bl=>
    cases rb
    exact SeqAt.RcNeAt.tuple_bool _ l1 (by omega)
   |int=>
    obtain⟨t2,rfl⟩:=rb
    exact SeqAt.RcNeAt.tuple_int _ _ l1 (by omega)
   |str=>
    obtain⟨t2,rfl⟩:=rb
    exact SeqAt.RcNeAt.tuple_str _ _ l1 (by omega)
   | @tup a2 _ _ h2 r2=>
     cases rb
     obtain⟨its2,l2,_⟩:=bW I h2 r2
     exact(vm I IH (Nat.lt_succ_self _) (by unfold fw at hu;omega) h1 r1 h2 r2).2
   | @lst a2 _ _ h2 r2=>
     cases rb
     obtain⟨its2,l2,_⟩:=aK I (SqL.of h2) r2
     exact SeqAt.RcNeAt.tuple_list l1 l2 (by omega)
   | @scr a2 _ _ h2 r2=>
     cases rb
     obtain⟨its2,l2,_⟩:=aK I h2.seq r2
     exact SeqAt.RcNeAt.tuple_list l1 l2 (by omega)
 | @scr a1 _ _ h1 r1=>exact absurd hu (by unfold fw;omega)
 | @lst a1 _ _ h1 r1=>
   cases ra
   obtain⟨its,l1,_⟩:=aK I (SqL.of h1) r1
   cases py with
   |non=>
    cases rb
    exact SeqAt.RcNeAt.list_none l1 (by omega)
   |bl=>
    cases rb
    exact SeqAt.RcNeAt.list_bool _ l1 (by omega)
   |int=>
    obtain⟨t2,rfl⟩:=rb
    exact SeqAt.RcNeAt.list_int _ _ l1 (by omega)
   |str=>
    obtain⟨t2,rfl⟩:=rb
    exact SeqAt.RcNeAt.list_str _ _ l1 (by omega)
   | @tup a2 _ _ h2 r2=>
     cases rb
     obtain⟨its2,l2,_⟩:=bW I h2 r2
     exact SeqAt.RcNeAt.list_tuple l1 l2 (by omega)
   | @lst a2 _ _ h2 r2=>
     cases rb
     obtain⟨its2,l2,_⟩:=aK I (SqL.of h2) r2
     exact(jM I IH (Nat.lt_succ_self _) (by unfold fw at hu;omega) (SqL.of h1) r1 (SqL.of h2) r2).2
   | @scr a2 _ _ h2 r2=>
     cases rb
     obtain⟨its2,l2,_⟩:=aK I h2.seq r2
     exact(jM I IH (Nat.lt_succ_self _) (by unfold fw at hu;omega) (SqL.of h1) r1 h2.seq r2).2
end
theorem Rep1.full {K:W.Frag}{H:Hp}{hid:bK}{v:V}{d:D}(h:Rep1 K H (vw H hid) v d):Rep K H v d:=by
 rcases h with h|⟨a,xs,ds,rfl,rfl,h1,h2⟩
 ·exact h.mono (dZ _ _)
 ·exact .lst h1 (h2.mono (dZ _ _))
def FB(K:W.Frag):R2:=λv u H Q=> ∃x y,Rep K H v x/\Rep K H u y/\fw x<=32/\Q (.bl (eJ x y)) H
def G0(K:W.Frag):R2:=λv u H Q=> ∃x y,Rep K H v x/\Rep K H u y/\fw x<=32/\Q (.bl (!eJ x y)) H
theorem gx {X:Cx}(hu:X.A.units+64<cLine):jK X (compareOp .Eq) (FB X.K):=by
 intro ae s σ H x y v u Q I rx ry h;obtain⟨dx,dy,p1,p2,hd,q⟩:=h
 exact EC I (by omega) (by omega) rx ry p1 p2 X.prog X.w _ _ ⟨.bl _,H,I,rfl,q⟩
theorem jC {X:Cx}(hu:X.A.units+64<cLine):jK X (compareOp .NotEq) (G0 X.K):=by
 intro ae s σ H x y v u Q I rx ry h;obtain⟨dx,dy,p1,p2,hd,q⟩:=h
 exact yn I (by omega) (by omega) rx ry p1 p2 X.prog X.w _ _ ⟨.bl _,H,I,rfl,q⟩
def kj:D->D->Option D:=λx y=>if fw x<=32 then some (.bl (eJ x y)) else none
def lu:D->D->Option D:=λx y=>if fw x<=32 then some (.bl (!eJ x y)) else none
theorem jn {K:W.Frag}:mN K .s (FB K) kj:=by
 intro H hid v u x y d Q hf h r1 r2 q;unfold kj at h;split at h
 ·cases h;exact⟨x,y,r1.full,r2.full, ‹_›,q _ H (Same.refl _) .bl⟩
 ·cases h
theorem mU {K:W.Frag}:mN K .s (G0 K) lu:=by
 intro H hid v u x y d Q hf h r1 r2 q;unfold lu at h;split at h
 ·cases h;exact⟨x,y,r1.full,r2.full, ‹_›,q _ H (Same.refl _) .bl⟩
 ·cases h
theorem nq {X:Cx}{ae:List (Addr×Obj)}{σ:St}{H:Hp}{s:Shared}(I:Inv X ae σ H s){x:D}{v:V}{a:Value}{A:Around}(hx:Rep X.K H v x)(ra:RelV v a): ∀ {ds:List D} {xs:List V} {its:List Value},Reps X.K H xs ds->Vals xs its->A.units+dP ds<cLine->
 ∃e:Value->Bool,(∀y,y∈its->SeqAt.EqAt A s y a (e y))/\its.any e=ds.any (λd=>eJ d x):=by
 intro ds xs its r rv hu
 classical
 let e:Value->Bool:=λy=>if h: ∃(d:D) (u:V),RelV u y/\Rep X.K H u d then eJ h.choose x else false
 have key: ∀y u d,RelV u y->Rep X.K H u d->e y=eJ d x:=λy u d h1 h2=>by
  have hex: ∃(d:D) (u:V),RelV u y/\Rep X.K H u d:=⟨d,u,h1,h2⟩
  show(if h: ∃(d:D) (u:V),RelV u y/\Rep X.K H u d then eJ h.choose x else false)=eJ d x
  rw[dif_pos hex];obtain⟨u',s1,s2⟩:=hex.choose_spec
  have eu:u'=u:=s1.inj h1
  rw[eu] at s2;exact Rep.eqv I s2 h2 x
 refine⟨e,?_,?_⟩
 ·induction rv generalizing ds with
  |nil=>intro y hy;cases hy
  |cons r1 t ih=>
   cases r with
   |cons p1 pt=>
    rename_i d ds;intro y hy;have hm:fw d<=dP (d::ds):=oE (i:=0) rfl
    have hm2:dP ds<=dP (d::ds):=by conv=>rhs;unfold dP
                                   exact Nat.le_max_right _ _
    rcases List.mem_cons.mp hy with rfl|hy
    ·rw[key _ _ _ r1 p1]
     exact oI I (fw d+1) (Nat.lt_succ_self _) (by omega) r1 ra p1 hx
    ·exact ih pt (by omega) y hy
 ·induction rv generalizing ds with
  |nil=>cases r;rfl
  |cons r1 t ih=>
   cases r with
   |cons p1 pt=>
    rename_i d ds;have hm2:dP ds<=dP (d::ds):=by conv=>rhs;unfold dP
                                                 exact Nat.le_max_right _ _
    rw[List.any_cons,List.any_cons,key _ _ _ r1 p1,ih pt (by omega)]
def Eh(K:W.Frag)(neg:Bool):R2:=λv u H Q=> ∃x ds a xs,Rep K H v x/\u=.ref a/\(SqL K H a xs\/SqT K H a xs)/\Reps K H xs ds/\dP ds<=32/\Q (.bl (if neg then !ds.any (λd=>eJ d x) else ds.any λd=>eJ d x)) H
theorem jB {X:Cx}(hu:X.A.units+64<cLine):jK X (compareOp .In) (Eh X.K false):=by
 intro ae s σ H v w a b Q I rx ry h;obtain⟨x,ds,p,xs,hx,rfl,hq,r,hd,q⟩:=h
 cases ry
 rcases hq with hq|hq
 ·obtain⟨its,rv,pl,hz⟩:=I.list hq
  obtain⟨e,h1,h2⟩:=nq (A:=X.A.in1) I hx rx r rv (by rw[gp];omega)
  refine SeqAt.in_listAt e pl.isList (λy hy=>h1 y (by simpa using hy)) ⟨.bl _,H,I,rfl,?_⟩
  rw[show its.toArray.any e=its.any e by simp,h2]
  exact q
 ·obtain⟨its,rv,pl,hz⟩:=I.tuple hq
  obtain⟨e,h1,h2⟩:=nq (A:=X.A.in1) I hx rx r rv (by rw[gp];omega)
  refine SeqAt.in_tupleAt e pl (λy hy=>h1 y (by simpa using hy)) ⟨.bl _,H,I,rfl,?_⟩
  rw[show its.toArray.any e=its.any e by simp,h2]
  exact q
theorem mj {X:Cx}(hu:X.A.units+64<cLine):jK X (compareOp .NotIn) (Eh X.K true):=by
 intro ae s σ H v w a b Q I rx ry h;obtain⟨x,ds,p,xs,hx,rfl,hq,r,hd,q⟩:=h
 cases ry
 rcases hq with hq|hq
 ·obtain⟨its,rv,pl,hz⟩:=I.list hq
  obtain⟨e,h1,h2⟩:=nq (A:=X.A.in1) I hx rx r rv (by rw[gp];omega)
  refine SeqAt.notIn_listAt e pl.isList (λy hy=>h1 y (by simpa using hy)) ⟨.bl _,H,I,rfl,?_⟩
  rw[show its.toArray.any e=its.any e by simp,h2]
  exact q
 ·obtain⟨its,rv,pl,hz⟩:=I.tuple hq
  obtain⟨e,h1,h2⟩:=nq (A:=X.A.in1) I hx rx r rv (by rw[gp];omega)
  refine SeqAt.notIn_tupleAt e pl (λy hy=>h1 y (by simpa using hy)) ⟨.bl _,H,I,rfl,?_⟩
  rw[show its.toArray.any e=its.any e by simp,h2]
  exact q
def km:D->Option (List D)
 | .lst ds=>some ds
 | .tup ds=>some ds
 |_=>none
def ga(neg:Bool):D->D->Option D:=λx y=>match km y with
 |some ds=>if dP ds<=32 then some (.bl (if neg then !ds.any (λd=>eJ d x) else ds.any λd=>eJ d x)) else none
 |none=>none
theorem jD {K:W.Frag}(neg:Bool):mN K .s (Eh K neg) (ga neg):=by
 intro H hid v u x y d Q hf h r1 r2 q;unfold ga at h;split at h
 ·split at h
  ·rename_i ds e _
   cases h
   cases y with
   |lst zs=>
    cases e
    obtain⟨a,xs,rfl,h1,h2⟩:=r2.lst
    exact⟨x,_,a,xs,r1.full,rfl,.inl h1,h2.mono (dZ _ _), ‹_›,q _ H (Same.refl _) .bl⟩
   |tup zs=>
    cases e
    obtain⟨a,xs,rfl,_,h1,h2⟩:=r2.tup
    exact⟨x,_,a,xs,r1.full,rfl,.inr h1,h2.mono (dZ _ _), ‹_›,q _ H (Same.refl _) .bl⟩
   |_=>cases e
  ·cases h
 ·cases h
def Ik(T:String):D->Bool
 | .non=>T=="NoneType"
 | .bl _=>T=="bool"||T=="int"
 | .int _=>T=="int"
 | .str _=>T=="str"
 | .tup _=>T=="tuple"
 | .lst _=>T=="list"
 | .scr _=>T=="list"
structure KT(T:String):Prop where
 n: ∀K,W.kitOne K (.type "NoneType") (.type T)=some (T=="NoneType")
 b: ∀K,W.kitOne K (.type "bool") (.type T)=some (T=="bool"||T=="int")
 i: ∀K,W.kitOne K (.type "int") (.type T)=some (T=="int")
 s: ∀K,W.kitOne K (.type "str") (.type T)=some (T=="str")
 t: ∀K,W.kitOne K (.type "tuple") (.type T)=some (T=="tuple")
 l: ∀K,W.kitOne K (.type "list") (.type T)=some (T=="list")
theorem CN:KT "list":=⟨λ_=>by kernel_rfl,λ_=>by kernel_rfl,λ_=>by kernel_rfl,λ_=>by kernel_rfl,λ_=>by kernel_rfl,λ_=>by kernel_rfl⟩
theorem yU:KT "tuple":=⟨λ_=>by kernel_rfl,λ_=>by kernel_rfl,λ_=>by kernel_rfl,λ_=>by kernel_rfl,λ_=>by kernel_rfl,λ_=>by kernel_rfl⟩
section
variable {X:Cx}{c:Ct}{e o:Expr}{k:Kd}{f g:FE}{pos p p2:Pos}
theorem yW {T:String}(kt:KT T):dQ X (.builtin "isinstance") (λxs H Q=> ∃v d,xs=[v,.ty T]/\Rep X.K H v d/\Q (.bl (Ik T d)) H):=by
 intro ae s σ H xs us Q I r h;obtain⟨v,d,rfl,rp,q⟩:=h
 obtain⟨u,w',rfl,rx,ry⟩:=zl r
 cases ry
 have fin: ∀tk,EP X ae σ Q (.bool (Ik T d)) {s with toks:=tk}:=λtk=>⟨.bl _,H,I.tok _,rfl,q⟩
 cases rp with
 |non=>cases rx;exact W.kia_one W.kitx_none I.kIn True.intro (kt.n _) (λz=>nomatch z) fin
 |bl=>cases rx;exact W.kia_one W.kitx_bool I.kIn True.intro (kt.b _) (λz=>nomatch z) fin
 |int=>obtain⟨t,rfl⟩:=rx;exact W.kia_one W.kitx_int I.kIn True.intro (kt.i _) (λz=>nomatch z) fin
 |str=>obtain⟨t,rfl⟩:=rx;exact W.kia_one W.kitx_str I.kIn True.intro (kt.s _) (λz=>nomatch z) fin
 |tup h1 h2=>
  cases rx
  obtain⟨⟨ob,ho,hc⟩,_⟩:=I.tupleN h1
  exact W.kia_one W.kitx_tuple I.kIn ⟨ob,ho,hc⟩ (kt.t _) (λz=>nomatch z) fin
 |lst h1 h2=>
  cases rx
  obtain⟨its,_,⟨ob,n,ho,hc,_⟩,_⟩:=I.list (SqL.of h1)
  exact W.kia_one W.kitx_list I.kIn ⟨ob,ho,hc⟩ (kt.l _) (λz=>nomatch z) fin
 |scr h1 h2=>
  cases rx
  obtain⟨its,_,⟨ob,n,ho,hc,_⟩,_⟩:=I.list h1.seq
  exact W.kia_one W.kitx_list I.kIn ⟨ob,ho,hc⟩ (kt.l _) (λz=>nomatch z) fin
def xo(T:String)(f:FE):FE:=λρ=>(f ρ).map λd=>.bl (Ik T d)
theorem AR(T:String){y:Str}(kt:KT T)(he:DP X c k e f)(hm:X.mg "isinstance"=none)(hmT:X.mg y=none)(hg:Gl X "isinstance":=by rfl)(hgT:Gl X y:=by rfl)(hv:bootBuiltins "isinstance"=some (.builtin "isinstance"):=by kernel_rfl)(hvT:bootBuiltins y=some (.type T):=by kernel_rfl)(hn:y≠"__name__":=by decide)(hd:(y==("__debug__":Str))=false:=by decide)
 (hs1:starEach [e,.Name y p2] X.env=(false,eval e X.env)::starEach [.Name y p2] X.env:=by rfl) (hs2:starEach [.Name y p2] X.env=(false,eval (.Name y p2) X.env)::starEach [] X.env:=by rfl) (hpl:(backTo pos (starEach [.Name y p2] X.env)).any (·.1)=false:=by rfl):
 DP X c .s (.Call (.Name "isinstance" p) [e,.Name y p2] [] pos) (xo T f):=λhid ρ=>
 PE.imp (lA (yW kt) hg hm hv (eA (he hid ρ) (eA (CU (v:=.ty T) hgT hmT hvT rfl hn hd) iF hs2) hs1) (by decide) (by decide) hs1 hpl) λσ H Q hq_=>by
  obtain⟨sr,d,hd,q⟩:=hq_
  unfold xo at hd;cases e1:f ρ with
  |none=>rw[e1] at hd;cases hd
  |some z=>
   rw[e1] at hd;cases hd;exact⟨sr,z,e1,λv H' s' r=>⟨v,z,rfl,(RK.b k r λa n=>sr.fresh n).full,q _ H' s' .bl⟩⟩
def iy:List D->Option (List Bool)
 | []=>some []
 | .bl b::r=>(iy r).map (b:: ·)
 |_=>none
theorem sZ: ∀ {ds:List D} {bs:List Bool} {i:Nat} {d:D},iy ds=some bs->ds[i]? =some d-> ∃b,d=.bl b/\bs[i]? =some b
 | [],_,_,_,_,h=>by simp at h
 |x::r,bs,i,d,h,e=>by
  cases x with
  |bl b=>
   unfold iy at h;cases e1:iy r with
   |none=>rw[e1] at h;cases h
   |some rs=>
    rw[e1] at h;cases h;cases i with
    |zero=>simp at e;subst e;exact⟨b,rfl,rfl⟩
    |succ i=>
     obtain⟨b',h1,h2⟩:=sZ (i:=i) e1 (by simpa using e)
     exact⟨b',h1,by simpa using h2⟩
  |_=>cases h
theorem sv: ∀ {ds:List D} {bs:List Bool},iy ds=some bs->ds.length=bs.length
 | [],_,h=>by cases h;rfl
 |x::r,bs,h=>by
  cases x with
  |bl b=>
   unfold iy at h;cases e1:iy r with
   |none=>rw[e1] at h;cases h
   |some rs=>rw[e1] at h;cases h;simp[sv e1]
  |_=>cases h
theorem xZ(bs:List Bool):(List.range bs.length).any (λi=>bs.getD i false)=bs.any id:=by
 induction bs with
 |nil=>rfl
 |cons b bs ih=>
  rw[List.length_cons,List.range_succ_eq_map,List.any_cons,List.any_map,List.any_cons];rw[show((λi=>(b::bs).getD i false)∘Nat.succ)=λi=>bs.getD i false by funext i;simp[List.getD],ih]
  rfl
theorem uU(bs:List Bool):(List.range bs.length).all (λi=>bs.getD i false)=bs.all id:=by
 induction bs with
 |nil=>rfl
 |cons b bs ih=>
  rw[List.length_cons,List.range_succ_eq_map,List.all_cons,List.all_map,List.all_cons];rw[show((λi=>(b::bs).getD i false)∘Nat.succ)=λi=>bs.getD i false by funext i;simp[List.getD],ih]
  rfl
theorem nQ {ae:List (Addr×Obj)}{σ:St}{H:Hp}{s:Shared}{a:Addr}{xs:List V}{ds:List D}{bs:List Bool}(I:Inv X ae σ H s)(h1:SqL X.K H a xs)(h2:Reps X.K H xs ds)(hb:iy ds=some bs)(hc:X.calm=true){E:Value->Shared->Prop}{R:Value->Shared->Prop}
 (hR: ∀(J:Addr) (s2:Shared) (its:Array Value) (hl:its.size=bs.length),Walks X.prog X.w X.A.in1 J [J,a] [J] its.size (λi v=>its[i]? =some v) (λi h=>h.IsListIter J a i/\h.IsList a its)->s2.heap.IsListIter J a 0->s2.heap.IsList a its->TruthOf X.prog X.w X.A.in1 (λi v=>its[i]? =some v) (λi=>bs.getD i false)->
   (∀h' tk,(∀b o,b∉ [J]->s2.heap.get? b=some o->h'.get? b=some o)->Inv X ae σ H {s2 with heap:=h',toks:=tk})->R (.ref J) s2):wpAny (model X.prog X.w) X.A.in1 (pyIter (.ref a)) R E s:=by
 obtain⟨its,rv,pl,hz⟩:=I.list h1
 have l1:=rv.length
 have l2:=h2.length
 have l3:=sv hb
 have hlt:a<s.heap.objs.size:=by obtain⟨o,n,e,_⟩:=pl;exact Heap.lt_size e
 refine wpAny_pyIter_list pl.isList (hR s.heap.objs.size _ its.toArray (by simp;omega) (Walks.list (A:=X.A.in1) (I.ok.hd hc) _ a (Nat.ne_of_lt hlt) its.toArray) ⟨_,Heap.get?_push_size _ rfl,rfl,rfl⟩ ?_ ?_ ?_)
 ·obtain⟨o,ho,q⟩:=pl.isList
  exact⟨o,Heap.get?_push_of_some _ ho,q⟩
 ·intro i v s' Q E hv hq
  have hv':its[i]? =some v:=by simpa using hv
  have hi:=(List.getElem?_eq_some_iff.mp hv').1
  have ex:xs[i]? =some xs[i]:=List.getElem?_eq_getElem (by omega)
  obtain⟨u,e1,r1⟩:=rv.get ex
  rw[hv'] at e1;cases e1;obtain⟨d,e2,r2⟩:=h2.get' ex
  obtain⟨b,rfl,e3⟩:=sZ hb e2
  rcases hx:xs[i] with _|_|_|_|_|_|_|_<;>rw[hx] at r1 r2<;>cases r2
  cases r1
  have:bs.getD i false=b:=by simp[List.getD,e3]
  dsimp only at hq;rw[this] at hq;exact wpAny_truthy_bool hq
 ·intro h' tk hk
  refine I.kept λb o e=>hk b o (λhm=>?_) (Heap.get?_push_of_some _ e)
  have:b=s.heap.objs.size:=by simpa using hm
  exact absurd (this▸Heap.lt_size e) (Nat.lt_irrefl _)
theorem rY(hc:X.calm=true):dQ X (.builtin "any") (λxs H Q=> ∃a ys ds bs,xs=[.ref a]/\SqL X.K H a ys/\Reps X.K H ys ds/\iy ds=some bs/\Q (.bl (bs.any id)) H):=by
 intro ae s σ H xs us Q I r h;obtain⟨a,ys,ds,bs,rfl,h1,h2,h3,q⟩:=h
 obtain⟨u,rfl,rx⟩:=kh r
 cases rx
 refine call_any_walk (nQ I h1 h2 h3 hc λJ s2 its hl W st1 st2 tr kp=>?_)
 refine⟨J,_,_,_,_,_,_,rfl,W,⟨st1,st2⟩,tr,λh' tk hk=>⟨.bl _,H,kp h' tk hk,rfl,?_⟩⟩
 rw[hl,xZ];exact q
theorem yE(hc:X.calm=true):dQ X (.builtin "all") (λxs H Q=> ∃a ys ds bs,xs=[.ref a]/\SqL X.K H a ys/\Reps X.K H ys ds/\iy ds=some bs/\Q (.bl (bs.all id)) H):=by
 intro ae s σ H xs us Q I r h;obtain⟨a,ys,ds,bs,rfl,h1,h2,h3,q⟩:=h
 obtain⟨u,rfl,rx⟩:=kh r
 cases rx
 refine call_all_walk (nQ I h1 h2 h3 hc λJ s2 its hl W st1 st2 tr kp=>?_)
 refine⟨J,_,_,_,_,_,_,rfl,W,⟨st1,st2⟩,tr,λh' tk hk=>⟨.bl _,H,kp h' tk hk,rfl,?_⟩⟩
 rw[hl,uU];exact q
def xn:List D->Option D
 | [.lst ds]=>(iy ds).map λbs=>.bl (bs.any id)
 |_=>none
def A3:List D->Option D
 | [.lst ds]=>(iy ds).map λbs=>.bl (bs.all id)
 |_=>none
theorem zF:gA X.K .s (λxs H Q=> ∃a ys ds bs,xs=[.ref a]/\SqL X.K H a ys/\Reps X.K H ys ds/\iy ds=some bs/\Q (.bl (bs.any id)) H) xn:=by
 intro H hid vs ds d Q hf h r q;unfold xn at h;split at h
 ·rename_i zs
  cases e1:iy zs with
  |none=>rw[e1] at h;cases h
  |some bs=>
   rw[e1] at h;cases h;obtain⟨x,rfl,r1⟩:=Reps1.one r
   obtain⟨a,xs,rfl,h1,h2⟩:=r1.lst
   exact⟨a,xs,zs,bs,rfl,h1,h2.mono (dZ _ _),e1,q _ H (Same.refl _) .bl⟩
 ·cases h
theorem Ew:gA X.K .s (λxs H Q=> ∃a ys ds bs,xs=[.ref a]/\SqL X.K H a ys/\Reps X.K H ys ds/\iy ds=some bs/\Q (.bl (bs.all id)) H) A3:=by
 intro H hid vs ds d Q hf h r q;unfold A3 at h;split at h
 ·rename_i zs
  cases e1:iy zs with
  |none=>rw[e1] at h;cases h
  |some bs=>
   rw[e1] at h;cases h;obtain⟨x,rfl,r1⟩:=Reps1.one r
   obtain⟨a,xs,rfl,h1,h2⟩:=r1.lst
   exact⟨a,xs,zs,bs,rfl,h1,h2.mono (dZ _ _),e1,q _ H (Same.refl _) .bl⟩
 ·cases h
def gP:List D->Option (List Int)
 | []=>some []
 | .int b::r=>(gP r).map (b:: ·)
 |_=>none
theorem iB: ∀ {ds:List D} {ns:List Int},gP ds=some ns->ds=ns.map D.int
 | [],_,h=>by cases h;rfl
 |x::r,bs,h=>by
  cases x with
  |int b=>
   unfold gP at h;cases e1:gP r with
   |none=>rw[e1] at h;cases h
   |some rs=>rw[e1] at h;cases h;simp[iB e1]
  |_=>cases h
end
end L2
namespace PySem.SeqAt
open AutoSeq1 (wpAny_loadPart')
open MeetsSeq MeetsSeq2 MeetsSeq3 SeqRoads2
end PySem.SeqAt
namespace L2
open PySem PySem.Spec PyProof.Rows
section
variable {X:Cx}{c:Ct}{e o:Expr}{k k2:Kd}{f g:FE}{pos p p2 apos:Pos}
theorem xv:dQ X (.type "range") (λxs H Q=> ∃j:Int,xs=[.int j]/\ ∀p,H p=none->Q (.ref p) (bN H p (.rng 0 j))):=by
 intro ae s σ H xs us Q I r h;obtain⟨j,rfl,q⟩:=h
 obtain⟨u,rfl,t,rfl⟩:=kh r
 refine call_range_1 ⟨.ref s.heap.objs.size,_,I.laid (λb o e=>Heap.get?_push_of_some _ e) (Nat.le_refl _) ?_,rfl,q _ (I.hok.fresh (Nat.le_refl _))⟩
 exact⟨_,_,_,Heap.get?_push_size _ rfl⟩
theorem FZ(lo:Int)(n:Nat): ∀ {K:W.Frag} {F:Hp},Reps K F ((List.range n).map λ(i:Nat)=>V.int (lo+i)) (o3 lo n):=by
 intro K F;unfold o3
 generalize List.range n=l
 induction l with
 |nil=>exact .nil
 |cons a l ih=>exact .cons .int ih
theorem oW(hc:X.calm=true):dQ X (.type "list") (λxs H Q=> ∃p lo hi,xs=[.ref p]/\H p=some (.rng lo hi)/\ -(2^30)<=lo/\lo<=2^30/\ -(2^30)<=hi/\hi-lo<=1000000/\hi<=2^31/\ ∀l,H l=none->Q (.ref l) (bN H l (.lst ((List.range (hi-lo).toNat).map λ(i:Nat)=>V.int (lo+i))))):=by
 intro ae s σ H xs us Q I r h;obtain⟨p,lo,hi,rfl,hp,b1,b2,b3,b4,b5,q⟩:=h
 obtain⟨u,rfl,rx⟩:=kh r
 cases rx
 obtain⟨t,u,v,hr⟩:=I.hok p _ hp
 have hsz:Builtin.Range.rangeSize lo hi 1=(hi-lo).toNat:=by
  unfold Builtin.Range.rangeSize;rw[if_pos (by decide)]
  split
  ·rw[Int.ediv_one];omega
  ·omega
 refine call_list_range (a:=lo) (b:=hi) (c:=1) (n:=(hi-lo).toNat) (I.ok.hd hc) hr ?_ hsz (by omega) λh' tk acc' c' kp hS hacc=>?_
 ·exact small_one (by omega) (by omega) (by omega) (by omega)
 ·have hz:(hi-lo).toNat<=sizeLine:=by rw[sizeLine_eq];omega
  refine⟨.ref s.heap.objs.size,_,I.laid (t':=tk) kp (Nat.le_refl _) (show ObjOk X.prog X.w _ h' _ (.lst _) from⟨by simpa using hz,acc'.toList,c',?_,by simpa using hS⟩),rfl,q _ (I.hok.fresh (Nat.le_refl _))⟩
  obtain⟨ha,hb⟩:=hacc
  have key: ∀(l:List Value) (k m:Nat),l.length=m->(∀(j:Nat) v,l[j]? =some v-> ∃t,v=.int (lo+((k+j:Nat):Int)*1) t)->Vals ((List.range' k m).map λ(i:Nat)=>V.int (lo+i)) l:=by
   intro l
   induction l with
   |nil=>intro k m hm _;subst hm;exact .nil
   |cons x l ih=>
    intro k m hm hv;subst hm;rw[List.length_cons,List.range'_succ];refine .cons ?_ (ih (k+1) l.length rfl λj v e=>?_)
    ·obtain⟨t,rfl⟩:=hv 0 x rfl
     exact⟨t,by simp⟩
    ·obtain⟨t,rfl⟩:=hv (j+1) v (by simpa using e)
     exact⟨t,by congr 3;omega⟩
  have:=key acc'.toList 0 (hi-lo).toNat (by simpa using ha) λj v e=>by
   have:=hb j v (by simpa using e)
   simpa using this
  rw[List.range_eq_range'];exact this
def CS:D->Option D
 | .int j=>if j.natAbs<=1000000 then some (.lst (o3 0 j.toNat)) else none
 |_=>none
def ET(f:FE):FE:=λρ=>(f ρ).bind CS
theorem oT(hc:X.calm=true)(hml:X.mg "list"=none)(hmr:X.mg "range"=none)(he:DP X c k e f)(hgl:Gl X "list":=by rfl)(hgr:Gl X "range":=by rfl)(hvl:bootBuiltins "list"=some (.type "list"):=by kernel_rfl)(hvr:bootBuiltins "range"=some (.type "range"):=by kernel_rfl)
 (hs1:starEach [e] X.env=(false,eval e X.env)::starEach [] X.env:=by rfl) (hpl1:(backTo pos (starEach [] X.env)).any (·.1)=false:=by rfl) (hpl2:(backTo p2 (starEach [] X.env)).any (·.1)=false:=by rfl) {p3:Pos}
 (hs2:starEach [.Call (.Name "range" p3) [e] [] p2] X.env=(false,eval (.Call (.Name "range" p3) [e] [] p2) X.env)::starEach [] X.env:=by rfl):
 DP X c .n (.Call (.Name "list" p) [.Call (.Name "range" p3) [e] [] p2] [] pos) (ET f):=λhid ρ=>
 PE.imp (ig (oW hc) hgl hml hvl (eA (ig xv hgr hmr hvr (eA (he hid ρ) iF hs1) (by decide) (by decide) hs1 hpl2) iF hs2) (by decide) (by decide) hs2 hpl1) λσ H Q hq_=>by
  obtain⟨sr,d,hd,q⟩:=hq_
  unfold ET at hd;cases e1:f ρ with
  |none=>rw[e1] at hd;cases hd
  |some z=>
   rw[e1] at hd;have hd:CS z=some d:=hd
   unfold CS at hd;split at hd
   ·split at hd
    ·rename_i _ j _ _
     cases hd
     refine⟨sr,_,e1,λv H1 s1 r1=>?_⟩
     have b1:=(RK.b k r1 λa n=>sr.fresh n).int
     cases b1
     refine⟨j,rfl,λr hr=>?_⟩
     refine⟨r,0,j,rfl,aL,by omega,by omega,by omega,by omega,by omega,λl hl=>?_⟩
     have s2:Same H (bN H1 r (.rng 0 j)):=s1.trans (aX hr _)
     refine q _ _ (s2.trans (aX hl _)) ?_
     have:=gv (hid:=hid) (K:=X.K) hl s2 (FZ 0 (j-0).toNat)
     rw[show(j-0).toNat=j.toNat by omega] at this⊢
     exact this
    ·cases hd
   ·cases hd
def aS:=i2 (λ_ _=>true) λi j=>.int (i+j)
def eT:=i2 (λ_ _=>true) λi j=>.int (i-j)
def fm:=i2 (λi j=>decide (i.natAbs<2^1000)&&decide (j.natAbs<2^1000)) λi j=>.int (i*j)
def bj:=i2 (λ_ j=>decide (0<j)) λi j=>.int (i % j)
def kR:=i2 (λ_ j=>decide (0<j)&&decide (j.natAbs<2^1000)) λi j=>.int (i / j)
def eZ:=i2 (λi j=>decide (0<=j)&&decide (j<=1000000)&&decide (i.natAbs<2^64)) λi j=>.int (i^j.toNat)
def rR:=i2 (λ_ _=>true) λi j=>.bl (decide (i<j))
def ye:=i2 (λ_ _=>true) λi j=>.bl (decide (i<=j))
def Hg:=i2 (λ_ _=>true) λi j=>.bl (decide (j<i))
def Az:=i2 (λ_ _=>true) λi j=>.bl (decide (j<=i))
theorem wr {i:Int}(h:i.natAbs<2^1000):Builtin.Int.intBits i<=2^20:=by
 unfold Builtin.Int.intBits;split
 ·exact Nat.zero_le _
 ·rename_i hz
  have h0:i.natAbs≠0:=by simp at hz;omega
  have:=(Nat.log2_lt h0).mpr h
  omega
theorem Ch:jK X (binaryOp .Mult) (rI IntMulOk λi j=>.int (i*j)):=Hc λ_ _ _ _ _ _ _ hc q=>mul_int q hc
variable {a b:Expr}
theorem bF {k1 k2:Kd}(ha:DP X c k1 a f)(hb:DP X c k2 b g):DP X c .s (.BinOp a .Add b pos) (ak aS f g):=mQ Dv Dj ha hb
theorem hJ {k1 k2:Kd}(ha:DP X c k1 a f)(hb:DP X c k2 b g):DP X c .s (.BinOp a .Sub b pos) (ak eT f g):=mQ DR Dj ha hb
theorem EE {K:W.Frag}:mN K .s (rI IntMulOk λi j=>.int (i*j)) fm:=BZ λi j h=>by
 simp only[Bool.and_eq_true,decide_eq_true_eq] at h;exact IntMulOk.of_bits (wr h.1) (wr h.2)
theorem lY {k1 k2:Kd}(ha:DP X c k1 a f)(hb:DP X c k2 b g):DP X c .s (.BinOp a .Mult b pos) (ak fm f g):=mQ Ch EE ha hb
theorem Eb {K:W.Frag}:mN K .s (rI (λ_ j=>0<j) λi j=>.int (i % j)) bj:=BZ λi j h=>by simpa using h
theorem cJ {k1 k2:Kd}(ha:DP X c k1 a f)(hb:DP X c k2 b g):DP X c .s (.BinOp a .Mod b pos) (ak bj f g):=mQ D4 Eb ha hb
theorem zG:jK X (binaryOp .FloorDiv) (rI (λ_ j=>0<j/\j.natAbs<2^1000) λi j=>.int (i / j)):=Hc λi j _ _ _ _ _ hc q=>by
 obtain⟨h1,h2⟩:=hc
 refine floordiv_int (by omega) (by rw[Int.fdiv_eq_ediv_of_nonneg i (by omega)];exact q) (.inl (PyProof.noPylong_of_log2 ?_))
 have:=(Nat.log2_lt (n:=j.natAbs) (by omega)).mpr h2
 omega
theorem Bh {K:W.Frag}:mN K .s (rI (λ_ j=>0<j/\j.natAbs<2^1000) λi j=>.int (i / j)) kR:=BZ λi j h=>by
 simp only[Bool.and_eq_true,decide_eq_true_eq] at h;exact⟨h.1,h.2⟩
theorem vB {k1 k2:Kd}(ha:DP X c k1 a f)(hb:DP X c k2 b g):DP X c .s (.BinOp a .FloorDiv b pos) (ak kR f g):=mQ zG Bh ha hb
theorem DJ {K:W.Frag}:mN K .s (rI GU λi j=>.int (i^j.toNat)) eZ:=BZ λi j h=>by
 simp only[Bool.and_eq_true,decide_eq_true_eq] at h;exact⟨h.1.1,h.1.2,h.2⟩
theorem lS {k1 k2:Kd}(ha:DP X c k1 a f)(hb:DP X c k2 b g):DP X c .s (.BinOp a .Pow b pos) (ak eZ f g):=mQ Ek DJ ha hb
def Dx:D->Option D
 | .int i=>some (.int (-i))
 |_=>none
def oZ(f:FE):FE:=λρ=>(f ρ).bind Dx
theorem rA(ha:DP X c k a f):DP X c .s (.UnaryOp .USub a pos) (oZ f):=λhid ρ=>PE.imp (GB EH (ha hid ρ)) λσ H Q hq_=>by
 obtain⟨sr,d,hd,q⟩:=hq_
 unfold oZ at hd;cases e1:f ρ with
 |none=>rw[e1] at hd;cases hd
 |some z=>
  rw[e1] at hd;have hd:Dx z=some d:=hd
  unfold Dx at hd;split at hd
  ·cases hd
   refine⟨sr,_,e1,λv H1 s1 r1=>?_⟩
   cases (RK.b k r1 λa n=>sr.fresh n).int
   exact⟨_,rfl,q _ H1 s1 .int⟩
  ·cases hd
end
structure Cl(P:Program)(w:World)(K:W.Frag)(mg:Str->Option Value)(base:Heap)(k:Nat)(x:Str)(ps:List Str)(sp:Sp):Prop where
 ex: ∃f fd,FnOk P w K mg base rM k f fd ps sp/\mg x=some (.ref f)/\W.keepIn K (.ref f)=true/\Binds K fd ps []
structure Df(K:W.Frag)(mg:Str->Option Value)(x:Str)(st:Stmt)(ps:List Str):Prop where
 ex: ∃f fd,Fun K x x st f fd/\mg x=some (.ref f)/\Binds K fd ps []
section
variable {P:Program}{w:World}{K:W.Frag}{mg:Str->Option Value}{base:Heap}{x:Str}{st:Stmt}{N ps:List Str}{k n:Nat}{t:FS}{kd:Kd}
theorem bo(F:Df K mg x st ps)(S:FnScope N ps (am st))(hkd:kd≠ .b)(hn:ps.length=n)
 (body: ∀(f:Addr) (cdv:Value) (A:Around) (outer:List Env) (s:Shared) (H:Hp) (hid:bK) (E:XK),Room k (A.deeper (envOfC x (am st) s.heap.objs.size f cdv))->
   ua (o9 rM P w K mg base N x (am st) f cdv A outer s H E).nox ⟨H,hid,λ_=>false⟩ kd (aM st) t):
 Cl P w K mg base (k+1) x ps (dX K kd n (gE kd N.length t)):=by
 obtain⟨f,fd,F,hm,hb⟩:=F.ex
 subst hn;exact⟨f,fd,wI F S hkd (body f),hm,F.kp,hb⟩
theorem rm(F:Df K mg x st ps)(S:FnScope N ps (am st))(hkd:kd≠ .b)(hn:ps.length=n+1)
 (body: ∀(f:Addr) (cdv:Value) (A:Around) (outer:List Env) (s:Shared) (H:Hp) (hid:bK) (a:Addr) (E:XK),Room k (A.deeper (envOfC x (am st) s.heap.objs.size f cdv))->
   ua (o9 rM P w K mg base N x (am st) f cdv A outer s H E).nox ⟨H,hid,λb=>decide (b=a)⟩ kd (aM st) t):
 Cl P w K mg base (k+1) x ps (si K kd n (uZ kd N.length t)):=by
 obtain⟨f,fd,F,hm,hb⟩:=F.ex
 exact⟨f,fd,E6 F S hkd hn (body f),hm,F.kp,hb⟩
end
section
variable {X:Cx}{c:Ct}{e a b:Expr}{es rest:List Expr}{k:Kd}{pos p:Pos}{x:Str}{ps:List Str}{j n:Nat}
def nF(n:Nat)(P:List D->Option D):List D->Option D:=λds=>if ds.length=n then P ds else none
theorem bI {P:List D->Option D}{fs:FA}(C:Cl X.prog X.w X.K X.mg X.base j x ps (dX X.K k n P))(hr:Room j X.A)
 (ha:DA X c (e::es) fs) (hg:Gl X x:=by rfl) (hdb:(x==("__debug__":Str))=false:=by decide) (he:starEach (e::es) X.env=(false,eval e X.env)::starEach es X.env:=by rfl) (hpl:(backTo pos (starEach es X.env)).any (·.1)=false:=by rfl):
 DP X c k (.Call (.Name x p) (e::es) [] pos) (ao (nF n P) fs):=by
 obtain⟨f,fd,F,hm,hk,hb⟩:=C.ex
 exact Cu F hr hm hk hb ha hg hdb he hpl
theorem jj(i:Nat){y:Str}{py:Pos}{M:List D->List D->Option (D×List D)}{fs:GA}(C:Cl X.prog X.w X.K X.mg X.base j x ps (si X.K k n M))(hr:Room j X.A)
 (ha:DG X c es fs) (hkb:k≠ .b:=by decide) (hN:X.N[i]? =some y:=by rfl) (hv:qB X.env.scope y:=by first|exact Or.inl rfl|exact Or.inr (Or.inl rfl)|exact Or.inr (Or.inr rfl)) (hd:(y==("__debug__":Str))=false:=by decide)
 (hcd:(y==("__classdict__":Str))=false:=by decide) (hs:starEach (.Name y py::es) X.env=(false,eval (.Name y py) X.env)::starEach es X.env:=by rfl) (hg:Gl X x:=by rfl) (hdb:(x==("__debug__":Str))=false:=by decide) (hpl:(backTo pos (starEach es X.env)).any (·.1)=false:=by rfl):
 DE X c k (.Call (.Name x p) (.Name y py::es) [] pos) (aN i n M fs):=by
 obtain⟨f,fd,F,hm,hk,hb⟩:=C.ex
 exact zg i F hr hm hk hb ha hkb hN hv hd hcd hs hg hdb hpl
end
open PySem PySem.W PyProof.Rows
structure Od(b:Nat->Nat->Bool):Prop where
 tr: ∀ {i j k:Nat},b j i=false->b k j=false->b k i=false
 as: ∀ {i j:Nat},b i j=true->b j i=false
theorem Od.rf {b:Nat->Nat->Bool}(O:Od b)(i:Nat):b i i=false:=by
 cases h:b i i with
 |false=>rfl
 |true=>have:=O.as h;rw[h] at this;exact this
structure Pm(N:Nat)(p:Array Nat):Prop where
 perm:p.Perm (List.toArray (List.range N))
theorem Pm.size {N:Nat}{p:Array Nat}(h:Pm N p):p.size=N:=by rw[h.perm.size_eq];simp
theorem Pm.lt {N:Nat}{p:Array Nat}(h:Pm N p)(hN:0<N)(k:Nat):p.getD k 0<N:=by
 by_cases hk:k<p.size
 ·have e:p.getD k 0=p[k]:=by simp[Array.getD,hk]
  rw[e];have:p[k]∈(List.toArray (List.range N)):=h.perm.mem_iff.mp (Array.getElem_mem hk)
  simpa using this
 ·have e:p.getD k 0=0:=by simp[Array.getD,hk]
  rw[e];exact hN
theorem sV {p q:Array Nat}{i j:Nat}(h:p[i]? =q[j]?):p.getD i 0=q.getD j 0:=by
 rw[Array.getD_eq_getD_getElem?,Array.getD_eq_getD_getElem?,h]
section
variable {b:Nat->Nat->Bool}{N:Nat}{cmp:Nat->Nat->(Bool->Shared->Prop)->Shared->Prop}{s:Shared}
def Srt(b:Nat->Nat->Bool)(p:Array Nat)(n:Nat):Prop:= ∀i j,i<=j->j<n->b (p.getD j 0) (p.getD i 0)=false
def Fal(b:Nat->Nat->Bool)(p:Array Nat)(n:Nat):Prop:= ∀i j,i<=j->j<n->b (p.getD i 0) (p.getD j 0)=false
theorem Srt.succ(O:Od b){p:Array Nat}{n:Nat}(h:Srt b p n)(hn:1<=n)(e:b (p.getD n 0) (p.getD (n-1) 0)=false):Srt b p (n+1):=λi j hij hj=>by
 by_cases h1:j<n
 ·exact h i j hij h1
 ·have:j=n:=by omega
  subst this
  by_cases h2:i=j
  ·subst h2;exact O.rf _
  ·exact O.tr (h i (j-1) (by omega) (by omega)) e
theorem Fal.succ(O:Od b){p:Array Nat}{n:Nat}(h:Fal b p n)(hn:1<=n)(e:b (p.getD (n-1) 0) (p.getD n 0)=false):Fal b p (n+1):=λi j hij hj=>by
 by_cases h1:j<n
 ·exact h i j hij h1
 ·have:j=n:=by omega
  subst this
  by_cases h2:i=j
  ·subst h2;exact O.rf _
  ·exact O.tr e (h i (j-1) (by omega) (by omega))
theorem Fal.congr(O:Od b){p q:Array Nat}{n:Nat}(h:Fal b p n)(e: ∀k,k<n->b (p.getD k 0) (q.getD k 0)=false/\b (q.getD k 0) (p.getD k 0)=false):Fal b q n:=λi j hij hj=>
 O.tr (O.tr (e j hj).1 (h i j hij hj)) (e i (by omega)).2
theorem BG(O:Od b)(p:Array Nat):Srt b p 1:=λi j hij hj=>by
 have:i=j:=by omega
 subst this;exact O.rf _
theorem Bo(O:Od b)(p:Array Nat):Fal b p 1:=λi j hij hj=>by
 have:i=j:=by omega
 subst this;exact O.rf _
theorem lQ {p:Array Nat}{i j:Nat}(hj:j<=p.size)(k:Nat):(kas_rev p i j).getD k 0=if i<=k/\k<j then p.getD (i+j-1-k) 0 else p.getD k 0:=by
 have:=getElem?_mirror_all (i:=i) hj k
 unfold kas_rev;split
 ·rename_i h;rw[if_pos h] at this;exact sV this
 ·rename_i h;rw[if_neg h] at this;exact sV this
theorem Pm.rev {p:Array Nat}(h:Pm N p)(i j:Nat):Pm N (kas_rev p i j):=⟨(mirror_perm _ _ _ _).trans h.perm⟩
variable(O:Od b)(hN:0<N)(hc: ∀(i j:Nat) (C:Bool->Shared->Prop),i<N->j<N->C (b i j) s->cmp i j C s)
include O hN hc
theorem uz {p:Array Nat}(P:Pm N p){Q:Nat->Shared->Prop}: ∀(f n:Nat),1<=n->n+f<=N->Srt b p n->
 (∀m,n<=m->m<=n+f->Srt b p m->(m<n+f->b (p.getD m 0) (p.getD (m-1) 0)=true)->Q m s)->(kas_asc p f n).kasWp cmp Q s
 |0,n,h1,h2,hs,q=>q n (Nat.le_refl _) (Nat.le_refl _) hs λz=>absurd z (Nat.lt_irrefl _)
 |f+1,n,h1,h2,hs,q=>by
  unfold kas_asc;refine hc _ _ _ (P.lt hN _) (P.lt hN _) ?_
  cases e:b (p.getD n 0) (p.getD (n-1) 0) with
  |true=>simp only[if_true];exact q n (Nat.le_refl _) (by omega) hs λ_=>e
  |false=>
   simp only[Bool.false_eq_true,if_false];exact uz P f (n+1) (by omega) (by omega) (hs.succ O h1 e) λm a1 a2 a3 a4=>q m (by omega) (by omega) a3 λz=>a4 (by omega)
def Eqs(b:Nat->Nat->Bool)(p:Array Nat)(n q:Nat):Prop:= ∀i,n- (q+1)<=i->i<n->b (p.getD i 0) (p.getD (n-1) 0)=false/\b (p.getD (n-1) 0) (p.getD i 0)=false
omit hN hc in
theorem Eqs.rev {p:Array Nat}{n q:Nat}(hn:n<=p.size)(hq:q<n)(h:Eqs b p n q)(k:Nat):b (p.getD k 0) ((kas_rev p (n- (q+1)) n).getD k 0)=false/\b ((kas_rev p (n- (q+1)) n).getD k 0) (p.getD k 0)=false:=by
 rw[lQ hn];split
 ·rename_i hk
  have h1:=h k hk.1 hk.2
  have h2:=h (n- (q+1)+n-1-k) (by omega) (by omega)
  exact⟨O.tr h2.2 h1.1,O.tr h1.2 h2.1⟩
 ·exact⟨O.rf _,O.rf _⟩
theorem nz {Q:Array Nat×Nat×Nat->Shared->Prop}: ∀(f:Nat) (p:Array Nat) (n q:Nat),Pm N p->1<=n->n+f<=N->q<n->Fal b p n->Eqs b p n q->
 (∀p' n' q',Pm N p'->n<=n'->n'<=n+f->q'<n'->Fal b p' n'->Eqs b p' n' q'->Q (p',n',q') s)->(kas_desc f p n q).kasWp cmp Q s
 |0,p,n,q,P,h1,h2,hq,hf,he,k=>k p n q P (Nat.le_refl _) (Nat.le_refl _) hq hf he
 |f+1,p,n,q,P,h1,h2,hq,hf,he,k=>by
  have hz:=P.size
  have e0: ∀p':Array Nat,Eqs b p' (n+1) 0:=λp' i a1 a2=>by
   have:i=n:=by omega
   subst this;exact⟨O.rf _,O.rf _⟩
  unfold kas_desc;refine hc _ _ _ (P.lt hN _) (P.lt hN _) ?_
  cases e:b (p.getD n 0) (p.getD (n-1) 0) with
  |true=>
   simp only[if_true];split
   ·rename_i hq0
    have ev:=he.rev O (by omega) hq
    have hf':Fal b (kas_rev p (n- (q+1)) n) n:=hf.congr O λk _=>ev k
    refine nz f _ (n+1) 0 (P.rev _ _) (by omega) (by omega) (by omega) (hf'.succ O h1 ?_) (e0 _) λp' n' q' a1 a2 a3=>k p' n' q' a1 (by omega) (by omega)
    have e1:(kas_rev p (n- (q+1)) n).getD n 0=p.getD n 0:=by rw[lQ (by omega),if_neg (by omega)]
    rw[e1];exact O.tr (O.as e) (ev (n-1)).2
   ·exact nz f p (n+1) 0 P (by omega) (by omega) (by omega) (hf.succ O h1 (O.as e)) (e0 _) λp' n' q' a1 a2 a3=>k p' n' q' a1 (by omega) (by omega)
  |false=>
   simp only[Bool.false_eq_true,if_false];refine hc _ _ _ (P.lt hN _) (P.lt hN _) ?_
   cases e2:b (p.getD (n-1) 0) (p.getD n 0) with
   |true=>simp only[if_true];exact k p n q P (Nat.le_refl _) (by omega) hq hf he
   |false=>
    simp only[Bool.false_eq_true,if_false];refine nz f p (n+1) (q+1) P (by omega) (by omega) (by omega) (hf.succ O h1 e2) (λi a1 a2=>?_) λp' n' q' b1 b2 b3=>k p' n' q' b1 (by omega) (by omega)
    rw[show n+1-1=n by omega]
    by_cases hi:i=n
    ·subst hi;exact⟨O.rf _,O.rf _⟩
    ·have z:=he i (by omega) (by omega)
     exact⟨O.tr e2 z.1,O.tr z.2 e⟩
theorem tN {p:Array Nat}(P:Pm N p){n:Nat}(h1:1<=n)(hn:n<=N)(hf:Fal b p n){Q:Nat×Array Nat->Shared->Prop}(q: ∀m p',Pm N p'->1<=m->m<=N->Srt b p' m->Q (m,p') s):(kas_tail3 n N p).kasWp cmp Q s:=by
 unfold kas_tail3;rw[KasT.kasWp_bind];have hz:=P.size
 have hs:Srt b (kas_rev p 0 n) n:=λi j hij hj=>by
  rw[lQ (by omega),lQ (by omega),if_pos (by omega),if_pos (by omega)]
  exact hf _ _ (by omega) (by omega)
 exact uz O hN hc (P.rev _ _) (N-n) n h1 (by omega) hs λm a1 a2 a3 _=>q m _ (P.rev _ _) (by omega) (by omega) a3
theorem mS {p:Array Nat}(P:Pm N p){n:Nat}(h1:1<=n)(hn:n+1<=N)(hf:Fal b p (n+1)){Q:Nat×Array Nat->Shared->Prop}(q: ∀m p',Pm N p'->1<=m->m<=N->Srt b p' m->Q (m,p') s):(kas_descPart n N p).kasWp cmp Q s:=by
 unfold kas_descPart;rw[KasT.kasWp_bind];refine nz O hN hc (N- (n+1)) p (n+1) 0 P (by omega) (by omega) (by omega) hf (λi a1 a2=>?_) λp' n' q' a1 a2 a3 a4 a5 a6=>?_
 ·have:i=n:=by omega
  subst this;exact⟨O.rf _,O.rf _⟩
 ·dsimp only
  have hz:=a1.size
  split
  ·exact tN O hN hc (a1.rev _ _) (by omega) (by omega) (a5.congr O λk _=>a6.rev O (by omega) a4 k) q
  ·exact tN O hN hc a1 (by omega) (by omega) a5 q
theorem AA {p:Array Nat}(P:Pm N p){Q:Nat×Array Nat->Shared->Prop}(q: ∀m p',Pm N p'->1<=m->m<=N->Srt b p' m->Q (m,p') s):(kas_count N p).kasWp cmp Q s:=by
 unfold kas_count;rw[KasT.kasWp_bind];have hz:=P.size
 refine uz O hN hc P (N-1) 1 (Nat.le_refl _) (by omega) (BG O p) λm a1 a2 a3 a4=>?_
 split
 ·exact q m p P a1 (by omega) a3
 ·rename_i hm
  have hm':m≠N:=by simpa using hm
  have lt:=a4 (by omega)
  split
  ·refine hc _ _ _ (P.lt hN _) (P.lt hN _) ?_
   cases e:b (p.getD 0 0) (p.getD (m-1) 0) with
   |true=>simp only[if_true];exact q m p P a1 (by omega) a3
   |false=>
    simp only[Bool.false_eq_true,if_false];have eq: ∀i j,i<m->j<m->b (p.getD i 0) (p.getD j 0)=false:=λi j hi hj=>O.tr (O.tr (a3 j (m-1) (by omega) (by omega)) e) (a3 0 i (by omega) hi)
    have hr: ∀i,i<m->(kas_rev p 0 m).getD i 0=p.getD (0+m-1-i) 0:=λi hi=>by rw[lQ (by omega),if_pos (by omega)]
    refine mS O hN hc (P.rev _ _) a1 (by omega) (Fal.succ O (λi j hij hj=>?_) a1 ?_) q
    ·rw[hr i (by omega),hr j hj];exact eq _ _ (by omega) (by omega)
    ·have e1:(kas_rev p 0 m).getD m 0=p.getD m 0:=by rw[lQ (by omega),if_neg (by omega)]
     rw[e1,hr (m-1) (by omega)]
     exact O.tr (O.as lt) (eq _ _ (by omega) (by omega))
  ·have:m=1:=by omega
   subst this;exact mS O hN hc P (Nat.le_refl _) (by omega) ((Bo O p).succ O (Nat.le_refl _) (O.as lt)) q
theorem nA {p:Array Nat}(P:Pm N p){k:Nat}(hs:Srt b p k){Q:Nat->Shared->Prop}: ∀(f l r:Nat),l<=r->r<=k->r-l<=f->(∀i,i<l->b (p.getD k 0) (p.getD i 0)=false)->(∀i,r<=i->i<k->b (p.getD k 0) (p.getD i 0)=true)->
 (∀m,m<=k->(∀i,i<m->b (p.getD k 0) (p.getD i 0)=false)->(∀i,m<=i->i<k->b (p.getD k 0) (p.getD i 0)=true)->Q m s)->(kas_place p k f l r).kasWp cmp Q s
 |0,l,r,h1,h2,h3,a,c,q=>q l (by omega) a λi z=>c i (by omega)
 |f+1,l,r,h1,h2,h3,a,c,q=>by
  unfold kas_place;split
  ·exact q l (by omega) a λi z=>c i (by omega)
  ·rename_i hlr
   refine hc _ _ _ (P.lt hN _) (P.lt hN _) ?_
   cases e:b (p.getD k 0) (p.getD ((l+r) / 2) 0) with
   |true=>
    simp only[if_true];refine nA P hs f l _ (by omega) (by omega) (by omega) a (λi z1 z2=>?_) q
    cases e2:b (p.getD k 0) (p.getD i 0) with
    |true=>rfl
    |false=>
     have:=O.tr (hs ((l+r) / 2) i z1 z2) e2
     rw[e] at this;exact this.symm
   |false=>
    simp only[Bool.false_eq_true,if_false];exact nA P hs f _ r (by omega) (by omega) (by omega) (λi z=>O.tr (hs i ((l+r) / 2) (by omega) (by omega)) e) c q
omit hN hc in
theorem uL {p:Array Nat}{k m:Nat}(hk:k<p.size)(hs:Srt b p k)(hm:m<=k)(a: ∀i,i<m->b (p.getD k 0) (p.getD i 0)=false)(c: ∀i,m<=i->i<k->b (p.getD k 0) (p.getD i 0)=true):Srt b (bubble p k (k-m)) (k+1):=by
 have g: ∀j,(bubble p k (k-m)).getD j 0=if j=m then p.getD k 0 else if m<j/\j<=k then p.getD (j-1) 0 else p.getD j 0:=λj=>by
  have:=getElem?_bubble hk (k-m) (by omega) j
  rw[show k- (k-m)=m by omega] at this
  by_cases h:j=m
  ·rw[if_pos h] at this⊢;exact sV this
  ·rw[if_neg h] at this⊢
   by_cases h2:m<j/\j<=k
   ·rw[if_pos h2] at this⊢;exact sV this
   ·rw[if_neg h2] at this⊢;exact sV this
 intro i j hij hj;rw[g,g]
 by_cases ej:j=m
 ·rw[if_pos ej]
  by_cases ei:i=m
  ·rw[if_pos ei];exact O.rf _
  ·rw[if_neg ei,if_neg (by omega)];exact a i (by omega)
 ·rw[if_neg ej]
  by_cases ei:i=m
  ·rw[if_pos ei,if_pos (by omega)];exact O.as (c _ (by omega) (by omega))
  ·rw[if_neg ei]
   by_cases hj2:m<j/\j<=k
   ·rw[if_pos hj2]
    by_cases hi2:m<i/\i<=k
    ·rw[if_pos hi2];exact hs _ _ (by omega) (by omega)
    ·rw[if_neg hi2];exact hs _ _ (by omega) (by omega)
   ·rw[if_neg hj2,if_neg (by omega)];exact hs _ _ hij (by omega)
theorem zX {Q:Array Nat->Shared->Prop}: ∀(f:Nat) (p:Array Nat) (k:Nat),Pm N p->1<=k->k+f=N->Srt b p k->(∀p',Pm N p'->Srt b p' N->Q p' s)->(kas_bin f p k).kasWp cmp Q s
 |0,p,k,P,h1,h2,hs,q=>q p P (by rw[<-h2];exact hs)
 |f+1,p,k,P,h1,h2,hs,q=>by
  unfold kas_bin;rw[KasT.kasWp_bind];have hz:=P.size
  refine nA O hN hc P hs k 0 k (Nat.zero_le _) (Nat.le_refl _) (by omega) (λi z=>absurd z (by omega)) (λi z1 z2=>absurd z2 (by omega)) λm a1 a2 a3=>?_
  exact zX f _ (k+1) ⟨(bubble_perm _ _ _).trans P.perm⟩ (by omega) (by omega) (uL O (by omega) hs a1 a2 a3) q
theorem qu {Q:Array Nat->Shared->Prop}(q: ∀p,Pm N p->Srt b p N->Q p s):(kas_sort N).kasWp cmp Q s:=by
 unfold kas_sort;rw[KasT.kasWp_bind];refine AA O hN hc ⟨Array.Perm.refl _⟩ λm p' P h1 h2 hs=>?_
 dsimp only;split
 ·exact zX O hN hc _ p' _ P (by omega) (by omega) (by rw[show max m 1=m by omega];exact hs) q
 ·have:m=N:=by omega
  subst this;exact q p' P hs
end
open PySem PySem.W PySem.Calls PyProof.Rows
section
variable {prog:Program}{w:World}{A:Around}{E:Value->Shared->Prop}{s:Shared}
theorem om {a:Addr}{us:List Value}{n:Nat}{P:PySem.Fin->Shared->Prop}(ho:s.heap.get? a=some (seqObj "list" us.toArray n))(hz:us.length<64)
 (few:us.length<2->P (.done (.ret .none)) {s with heap:=sortedHeap s.heap a us us.toArray})
 (many:2<=us.length-> ∀g:Heap,(∀c o,c≠a->s.heap.get? c=some o->g.get? c=some o)->wpAny (model prog w) A (keyKind' us.toArray) (λκ t=>t={s with heap:=g}/\
   (kas_sort us.length).kasWp (kas_ask prog w A κ us) (λp t'=>t'=t/\P (.done (.ret .none)) {s with heap:=sortedHeap s.heap a us (List.toArray (p.toList.map λi=>us.getD i Value.none))}) t) (λ_ _=>False) {s with heap:=g}):
 wpAny (model prog w) A (Builtin.«list.sort» ⟨[.ref a],[]⟩) P E s:=by
 have la:a<s.heap.objs.size:=Heap.lt_size ho
 have z1:us.toArray.size<=sizeLine:=by rw[List.size_toArray,sizeLine_eq];omega
 obtain⟨c1,h1⟩: ∃c,(s.heap.update a (Obj.mapSeq λ_=> #[])).get? a=some (seqObj "list" #[] c):=⟨_,get?_update_seq ho (λ_=> #[])⟩
 have h2:(((s.heap.update a (Obj.mapSeq λ_=> #[])).push (seqObj "tuple" us.toArray 0)).push (seqObj "list" #[] 0)).get? a=some (seqObj "list" #[] c1):=Heap.get?_push_of_some _ (Heap.get?_push_of_some _ h1)
 have kp: ∀c o,c≠a->s.heap.get? c=some o->(((s.heap.update a (Obj.mapSeq λ_=> #[])).push (seqObj "tuple" us.toArray 0)).push (seqObj "list" #[] 0)).get? c=some o:=λc o nc e=>
  Heap.get?_push_of_some _ (Heap.get?_push_of_some _ (by rw[Heap.get?_update_ne _ _ _ _ nc];exact e))
 rw[list_sort_plain];refine wpAny_bind (listItems_at ho rfl (wpAny_bind (listUpdate_at ho rfl ?_ z1 (Nat.zero_le _))))
 refine wpAny_bind (seqEpoch_at h1 rfl (wpAny_bind (wpAny_newTuple ?_ (show us.length<=_ by rw[sizeLine_eq];omega))))
 refine wpAny_bind (wpAny_newList (wpAny_holding ?_) (Nat.zero_le _))
 show wpAny (model prog w) A _ P E {s with heap:=((s.heap.update a (Obj.mapSeq λ_=> #[])).push (seqObj "tuple" us.toArray 0)).push (seqObj "list" #[] 0)}
 dsimp only
 by_cases hs:us.toArray.size<2
 ·rw[if_pos hs,if_pos hs]
  refine wpAny_bind (wpAny_pure ?_)
  rw[StateT.run_pure];refine wpAny_bind (wpAny_pure ?_)
  dsimp only;have ea:Array.map (λx=>x.2) (us.toArray.zip us.toArray)=us.toArray:=by
   apply Array.toList_inj.mp
   simp[List.map_snd_zip]
  refine wpAny_bind (seqEpoch_at h2 rfl (wpAny_bind (listUpdate_at h2 rfl ?_ (Nat.zero_le _) ?_)))
  ·simp only[bne_self_eq_false,Bool.false_eq_true,if_false]
   refine wpAny_pure ?_
   have:=few (by simpa using hs)
   show P _ {s with heap:=sortedHeap s.heap a us (Array.map (λx=>x.2) (us.toArray.zip us.toArray))}
   rw[ea];exact this
  ·show(Array.map (λx=>x.2) (us.toArray.zip us.toArray)).size<=_
   rw[ea];exact Nat.le_succ_of_le z1
 ·rw[if_neg hs,if_neg hs]
  have h2':2<=us.length:=by simpa using hs
  refine wpAny_bind (wpAny_mono (many h2' _ kp) (λκ t ⟨et,ht⟩=>?_) λ_ _ x=>x.elim)
  subst et;refine wpAny_bind (wpAny_mono (kat_run (ks:=us) (vs:=us) (G:=λp t'=>t'=_/\P (.done (.ret .none)) {s with heap:=sortedHeap s.heap a us (List.toArray (p.toList.map λi=>us.getD i Value.none))})
   (Q:=λst t'=>t'=_/\failedOf st=none/\ ∃p:Array Nat,p.size=us.length/\(arrOf st).map (·.2)=List.toArray (p.toList.map λi=>us.getD i Value.none)/\P (.done (.ret .none)) {s with heap:=sortedHeap s.heap a us (List.toArray (p.toList.map λi=>us.getD i Value.none))})
   rfl h2' hz (λp st t' a1 a2 a3 a4=>⟨a4.1,a3,p,a1,kat_snds rfl a2,a4.2⟩) ht) (λr t' hr=>?_) λ_ _ x=>x)
  obtain⟨u,st⟩:=r
  obtain⟨e1,hf,p,hp,ho',hP⟩:=hr
  subst e1;dsimp only at hf ho'⊢;rw[ho',hf];have zz:(List.toArray (p.toList.map λi=>us.getD i Value.none)).size<=sizeLine:=by rw[List.size_toArray,List.length_map,Array.length_toList,hp,sizeLine_eq];omega
  refine wpAny_bind (seqEpoch_at h2 rfl (wpAny_bind (listUpdate_at h2 rfl ?_ (Nat.zero_le _) (Nat.le_succ_of_le zz))))
  simp only[bne_self_eq_false,Bool.false_eq_true,if_false];exact wpAny_pure hP
theorem ui {l:Addr}{T:String}{o:Obj}{us:List Value}{n:Nat}{Q:List Value->Shared->Prop}(hT:T="list"\/T="tuple")(ho:s.heap.get? l=some o)(hc:o.cls=.type T)(hd:o.data=.seq us.toArray n)(hz:us.length<64)
 (q: ∀g:Heap,(∀b u,s.heap.get? b=some u->g.get? b=some u)->s.heap.objs.size<=g.objs.size->Q us {s with heap:=g}):wpAny (model prog w) A (collect (.ref l)) Q E s:=by
 have z:us.toArray.size<=sizeLine:=by rw[List.size_toArray,sizeLine_eq];omega
 have hN:(s.heap.push {cls:=.type "list",data:=.seq ([]:List Value).toArray}).get? s.heap.objs.size=some {cls:=.type "list",data:=.seq #[] 0}:=Heap.get?_push_size _ rfl
 have hU:=Heap.get?_update_self (Obj.mapSeq (·++us.toArray)) hN rfl
 have last:wpAny (model prog w) A (do
  match (<-load s.heap.objs.size).data with
   |Data.seq xs _=>pure xs.toList
   |_=>unsupported "internal:collect") Q E {s with heap:=(s.heap.push {cls:=.type "list",data:=.seq ([]:List Value).toArray}).update s.heap.objs.size (Obj.mapSeq (·++us.toArray))}:=by
  refine wpAny_bind (wpAny_load hU (wpAny_pure ?_))
  show Q ((#[]:Array Value)++us.toArray).toList _;rw[show((#[]:Array Value)++us.toArray).toList=us by simp]
  refine q _ (λb u e=>(Heap.get?_update_other _ _ (Nat.ne_of_gt (Heap.lt_size e))).trans (Heap.get?_push_of_some _ e)) ?_
  rw[Heap.size_update,Heap.size_push];exact Nat.le_succ _
 unfold collect;refine wpAny_bind (wpAny_runValue (codeAny_builtin F.entry_proto_collect ?_))
 rw[Around.under_plainId F.plain_proto_collect _];show wpAny _ A.in1 (newList []>>=λr=>again (.builtin "list.__iadd__" ⟨[r,.ref l],[]⟩)) _ _ s
 refine wpAny_bind (wpAny_newObj_type (wpAny_pure ⟨plainId_quiet F.plain_list_iadd _,codeAny_builtin F.entry_list_iadd ?_⟩))
 rw[Around.under_plainId F.plain_list_iadd _];show wpAny _ A.in1 (Builtin.List.listExtendWith (.ref s.heap.objs.size) (.ref l) (.ref s.heap.objs.size)) _ _ _;have ext:=wpAny_extend_seq (prog:=prog) (w:=w) (A:=A) (hsz:=z) (R:=λr t=>r=.ok (.ret (.ref s.heap.objs.size))/\t={s with heap:=(s.heap.push {cls:=.type "list",data:=.seq ([]:List Value).toArray}).update s.heap.objs.size (Obj.mapSeq (·++us.toArray))})
  (s:={s with heap:=s.heap.push {cls:=.type "list",data:=.seq ([]:List Value).toArray}}) _ l (.ref s.heap.objs.size) 0 hT hN (Heap.get?_push_of_some _ ho) hc hd ⟨rfl,rfl⟩
 refine wpAny_mono ext (λfin t h=>?_) (λe t h=>absurd h.1 (by simp))
 cases fin with
 |done f=>obtain⟨e,rfl⟩:=h;cases e;exact last
 |again c=>exact⟨h.1,codeAny_mono h.2 λr t' hr=>by obtain⟨rfl,rfl⟩:=hr;exact last⟩
theorem qb {l:Addr}{T:String}{o:Obj}{us:List Value}{n:Nat}{Q:Value->Shared->Prop}{G:List Nat->Prop}(hT:T="list"\/T="tuple")(ho:s.heap.get? l=some o)(hc:o.cls=.type T)(hd:o.data=.seq us.toArray n)(hz:us.length<64)
 (few:us.length<2->G (List.range us.length))
 (many:2<=us.length-> ∀g:Heap,(∀c o,s.heap.get? c=some o->g.get? c=some o)->wpAny (model prog w) A.in1.in1 (keyKind' us.toArray) (λκ t=>t={s with heap:=g}/\
   (kas_sort us.length).kasWp (kas_ask prog w A.in1.in1 κ us) (λp t'=>t'=t/\G p.toList) t) (λ_ _=>False) {s with heap:=g})
 (fin: ∀(g:Heap) (a e:Nat) (ix:List Nat),(∀c o,s.heap.get? c=some o->g.get? c=some o)->s.heap.objs.size<=a->G ix->g.get? a=some (seqObj "list" (List.toArray (ix.map λi=>us.getD i Value.none)) e)->Q (.ref a) {s with heap:=g}):
 wpAny (model prog w) A (call (.builtin "sorted") [.ref l]) Q E s:=by
 refine Calls.call_function_entry kind_sorted plain_sorted entry_sorted (args_sorted1 _) ?_
 unfold Builtin.«sorted»;refine wpAny_bind (m:=checkCount "sorted" 1 1 _) (wpAny_pure (wpAny_bind (ui hT ho hc hd hz λg kg sg=>?_)))
 refine wpAny_bind (wpAny_newList ?_ (by rw[sizeLine_eq];omega))
 have hL:(g.push (seqObj "list" us.toArray 0)).get? g.objs.size=some (seqObj "list" us.toArray 0):=Heap.get?_push_size _ rfl
 show wpAny _ _ _ _ _ {s with heap:=g.push (seqObj "list" us.toArray 0)}
 have end_: ∀ix:List Nat,G ix->Q (.ref g.objs.size) {s with heap:=sortedHeap (g.push (seqObj "list" us.toArray 0)) g.objs.size us (List.toArray (ix.map λi=>us.getD i Value.none))}:=λix hG=>by
  obtain⟨e,he⟩:=sortedHeap_at (out:=List.toArray (ix.map λi=>us.getD i Value.none)) hL
  refine fin _ g.objs.size e ix (λc u hu=>?_) sg hG he
  have lt:=Heap.lt_size (kg c u hu)
  rw[sortedHeap_old (Nat.ne_of_lt lt) (by rw[size_push'];exact Nat.lt_succ_of_lt lt)]
  exact Heap.get?_push_of_some _ (kg c u hu)
 refine wpAny_bind (wpAny_holding (wpAny_call_entry slot_list_sort ⟨_,hL,rfl⟩ entry_list_sort (om (P:=λf t=> ∃v,f=.done (.ret v)/\wpAny (model prog w) A.in1 (pure (PySem.Fin.done (.ret (Value.ref g.objs.size)))) (λf t=> ∃v,f=.done (.ret v)/\Q v t) E t) hL hz (λh=>?_) (λh g' kg'=>?_)) (args_list_sort _)))
 ·have e:=end_ (List.range us.length) (few h)
  rw[show(List.range us.length).map (λi=>us.getD i Value.none)=us from List.ext_getElem? λi=>by
   by_cases hi:i<us.length
   ·simp[hi]
   ·simp[hi]] at e
  exact⟨_,rfl,wpAny_pure ⟨_,rfl,e⟩⟩
 ·refine wpAny_mono (many h g' λc u hu=>kg' c u (Nat.ne_of_lt (Heap.lt_size (kg c u hu))) (Heap.get?_push_of_some _ (kg c u hu))) (λκ t ⟨et,ht⟩=>⟨et,?_⟩) λ_ _ x=>x
  rw[kat_ask_eq rfl] at ht⊢;exact kas_wp_mono ht λp t' ⟨e1,hG⟩=>⟨e1,_,rfl,wpAny_pure ⟨_,rfl,end_ _ hG⟩⟩
end
open PySem PySem.W PySem.Spec PyProof.Rows
def cm:List Int->List Int->Bool
 |_,[]=>false
 | [],_::_=>true
 |x::xs,y::ys=>if x=y then cm xs ys else decide (x<y)
def xt(x y:Int):Bool:=decide (x<y)
structure Lt {α:Type}(lt:α->α->Bool):Prop where
 tr: ∀ {a b c:α},lt b a=false->lt c b=false->lt c a=false
 as: ∀ {a b:α},lt a b=true->lt b a=false
 eq: ∀ {a b:α},lt a b=false->lt b a=false->a=b
theorem CK:Lt xt:=⟨λh1 h2=>by simp only[xt,decide_eq_false_iff_not] at*;omega,λh=>by simp only[xt,decide_eq_false_iff_not,decide_eq_true_eq] at*;omega,λh1 h2=>by simp only[xt,decide_eq_false_iff_not] at*;omega⟩
theorem vo: ∀ {a b:List Int},cm a b=true->cm b a=false
 | [],[],h=>by simp[cm] at h
 |x::xs,[],h=>by simp[cm] at h
 | [],y::ys,h=>by simp[cm]
 |x::xs,y::ys,h=>by
  unfold cm at h⊢
  by_cases e:x=y
  ·subst e;simp only[if_true] at h⊢;exact vo h
  ·rw[if_neg e] at h;rw[if_neg (Ne.symm e)];simp only[decide_eq_true_eq,decide_eq_false_iff_not] at*;omega
theorem wG: ∀ {a b:List Int},cm a b=false->cm b a=false->a=b
 | [],[],_,_=>rfl
 |x::xs,[],_,h=>by simp[cm] at h
 | [],y::ys,h,_=>by simp[cm] at h
 |x::xs,y::ys,h,h'=>by
  unfold cm at h h'
  by_cases e:x=y
  ·subst e;simp only[if_true] at h h';rw[wG h h']
  ·rw[if_neg e] at h;rw[if_neg (Ne.symm e)] at h';simp only[decide_eq_false_iff_not] at*;omega
theorem vT: ∀ {a b c:List Int},cm b a=false->cm c b=false->cm c a=false
 | [],_,_,_,_=>by unfold cm;rfl
 |x::xs,[],_,h,_=>by simp[cm] at h
 |x::xs,y::ys,[],_,h=>by simp[cm] at h
 |x::xs,y::ys,z::zs,h1,h2=>by
  unfold cm at h1 h2⊢
  by_cases e1:y=x
  ·subst e1
   simp only[if_true] at h1
   by_cases e2:z=y
   ·subst e2;simp only[if_true] at h2⊢;exact vT h1 h2
   ·rw[if_neg e2] at h2⊢;exact h2
  ·rw[if_neg e1] at h1
   by_cases e2:z=y
   ·subst e2;rw[if_neg e1];exact h1
   ·rw[if_neg e2] at h2
    simp only[decide_eq_false_iff_not] at h1 h2;rw[if_neg (by omega)]
    simp only[decide_eq_false_iff_not];omega
theorem xE:Lt cm:=⟨vT,vo,wG⟩
def uM {α:Type}(lt:α->α->Bool)(x:α):List α->List α
 | []=>[x]
 |y::r=>if lt x y=true then x::y::r else y::uM lt x r
def bR {α:Type}(lt:α->α->Bool):List α->List α
 | []=>[]
 |x::r=>uM lt x (bR lt r)
section
variable {α:Type}{lt:α->α->Bool}
theorem mf(x:α): ∀l:List α,(uM lt x l).Perm (x::l)
 | []=>.refl _
 |y::r=>by
  unfold uM;split
  ·exact .refl _
  ·exact((mf x r).cons y).trans (.swap _ _ _)
theorem dv: ∀l:List α,(bR lt l).Perm l
 | []=>.refl _
 |x::r=>(mf x _).trans ((dv r).cons x)
theorem ww(O:Lt lt)(x:α): ∀ {l:List α},l.Pairwise (λa b=>lt b a=false)->(uM lt x l).Pairwise (λa b=>lt b a=false)
 | [],_=>by simp[uM]
 |y::r,h=>by
  obtain⟨h1,h2⟩:=List.pairwise_cons.mp h
  unfold uM;split
  ·rename_i e
   refine List.pairwise_cons.mpr ⟨λz hz=>?_,h⟩
   rcases List.mem_cons.mp hz with rfl|hz
   ·exact O.as e
   ·exact O.tr (O.as e) (h1 z hz)
  ·rename_i e
   refine List.pairwise_cons.mpr ⟨λz hz=>?_,ww O x h2⟩
   rcases List.mem_cons.mp ((mf x r).mem_iff.mp hz) with rfl|hz
   ·simpa using e
   ·exact h1 z hz
theorem jT(O:Lt lt): ∀l:List α,(bR lt l).Pairwise (λa b=>lt b a=false)
 | []=>.nil
 |x::r=>ww O x (jT O r)
theorem mM(O:Lt lt){l l':List α}(p:l'.Perm l)(s:l'.Pairwise (λa b=>lt b a=false)):l'=bR lt l:=
 List.Perm.eq_of_pairwise (λa b _ _ h1 h2=>O.eq h2 h1) s (jT O l) (p.trans (dv l).symm)
theorem kw(ts:List α)(d:α):(List.range ts.length).map (λi=>ts.getD i d)=ts:=List.ext_getElem? λi=>by
 by_cases hi:i<ts.length
 ·simp[hi]
 ·simp[hi]
theorem jp(O:Lt lt){ts:List α}{d:α}{p:Array Nat}(P:Pm ts.length p)(S:Srt (λi j=>lt (ts.getD i d) (ts.getD j d)) p ts.length):p.toList.map (λi=>ts.getD i d)=bR lt ts:=by
 refine mM O ?_ ?_
 ·have h1:p.toList.Perm (List.range ts.length):=by simpa using (Array.perm_iff_toList_perm.mp P.perm)
  have h2:=h1.map (λi=>ts.getD i d)
  rw[kw] at h2;exact h2
 ·rw[List.pairwise_map,List.pairwise_iff_getElem]
  intro i j hi hj hij;have hz:=P.size
  have e:=S i j (by omega) (by simpa [hz] using hj)
  have g: ∀k (hk:k<p.toList.length),p.getD k 0=p.toList[k]:=λk hk=>by
   have:k<p.size:=by simpa using hk
   simp[Array.getD,this]
  rw[g i hi,g j hj] at e;exact e
theorem Aj(O:Lt lt)(f:Nat->α):Od (λi j=>lt (f i) (f j)):=⟨λh1 h2=>O.tr h1 h2,λh=>O.as h⟩
end
def uQ:D->Option (List Int)
 | .tup ds=>match gP ds with
   |some (x::r)=>some (x::r)
   |_=>none
 |_=>none
def kK:List D->Option (List (List Int))
 | []=>some []
 |d::r=>(uQ d).bind λk=>(kK r).map (k:: ·)
def cW(k:List Int):D:=.tup (k.map D.int)
def gS(ds:List D):Option (List D):=if ds.length<64 then match gP ds with
 |some ns=>some ((bR xt ns).map D.int)
 |none=>(kK ds).map λks=>(bR cm ks).map cW else none
theorem im(ns:List Int):gP (ns.map D.int)=some ns:=by
 induction ns with
 |nil=>rfl
 |cons n ns ih=>show(gP (ns.map D.int)).map (n:: ·)=_;rw[ih];rfl
theorem Cp {d:D}{k:List Int}(h:uQ d=some k):d=cW k/\k≠[]:=by
 unfold uQ at h;split at h
 ·split at h
  ·rename_i e;cases h;rw[iB e];exact⟨rfl,by simp⟩
  ·cases h
 ·cases h
theorem Bl {k:List Int}(h:k≠[]):uQ (cW k)=some k:=by
 unfold uQ cW;dsimp only;rw[im];cases k with
 |nil=>exact absurd rfl h
 |cons x r=>rfl
theorem ou: ∀ {ds:List D} {ks:List (List Int)},kK ds=some ks->ds=ks.map cW/\ ∀k∈ks,k≠[]
 | [],_,h=>by cases h;exact⟨rfl,λ_ h=>nomatch h⟩
 |d::r,ks,h=>by
  unfold kK at h;cases e1:uQ d with
  |none=>rw[e1] at h;cases h
  |some k=>
   rw[e1] at h;cases e2:kK r with
   |none=>rw[e2] at h;cases h
   |some l=>
    rw[e2] at h;cases h;obtain⟨h1,h2⟩:=Cp e1
    obtain⟨h3,h4⟩:=ou e2
    refine⟨by rw[h1,h3];rfl,λz hz=>?_⟩
    rcases List.mem_cons.mp hz with rfl|hz
    ·exact h2
    ·exact h4 z hz
theorem r9: ∀ {ks:List (List Int)},(∀k∈ks,k≠[])->kK (ks.map cW)=some ks
 | [],_=>rfl
 |k::r,h=>by
  show(uQ (cW k)).bind (λk'=>(kK (r.map cW)).map (k':: ·))=_
  rw[Bl (h k (by simp)),r9 λz hz=>h z (by simp[hz])]
  rfl
theorem xO {k:List Int}{ks:List (List Int)}:gP ((k::ks).map cW)=none:=rfl
theorem iS {α:Type}{lt:α->α->Bool}{l:List α}(h:l.length<2):bR lt l=l:=by
 match l,h with
 | [],_=>rfl
 | [_],_=>rfl
theorem mF {xs:List V}{us:List Value}(r:Vals xs us)(i:Nat):RelV (xs.getD i .non) (us.getD i Value.none):=by
 cases e:xs[i]? with
 |none=>
  have hl:=r.length
  have:us[i]? =none:=by simp at e⊢;omega
  simp[List.getD,e,this];rfl
 |some x=>
  obtain⟨u,h1,h2⟩:=r.get e
  simp[List.getD,e,h1];exact h2
theorem mi {xs:List V}{us:List Value}(r:Vals xs us): ∀ix:List Nat,Vals (ix.map λi=>xs.getD i .non) (ix.map λi=>us.getD i Value.none)
 | []=>.nil
 |i::l=>.cons (mF r i) (mi r l)
theorem pU {K:W.Frag}{F:Hp}{xs:List V}{ds:List D}(r:Reps K F xs ds)(i:Nat):Rep K F (xs.getD i .non) (ds.getD i .non):=by
 cases e:ds[i]? with
 |none=>
  have hl:=r.length
  have:xs[i]? =none:=by simp at e⊢;omega
  simp[List.getD,e,this];exact .non
 |some x=>
  obtain⟨u,h1,h2⟩:=r.get e
  simp[List.getD,e,h1];exact h2
theorem mD {K:W.Frag}{F:Hp}{xs:List V}{ds:List D}(r:Reps K F xs ds): ∀ix:List Nat,Reps K F (ix.map λi=>xs.getD i .non) (ix.map λi=>ds.getD i .non)
 | []=>.nil
 |i::l=>.cons (pU r i) (mD r l)
def qG:List Value->List Int->Prop:=Paired λu i=> ∃t,u=Value.int i t
theorem qt {K:W.Frag}{F:Hp}: ∀ {xs:List V} {us:List Value} {ns:List Int},Vals xs us->Reps K F xs (ns.map D.int)->qG us ns
 |_,_,[],r,p=>by cases p;cases r;exact .nil
 |_,_,n::ns,r,p=>by
  cases p with
  |cons p1 p2=>cases r with
   |cons r1 r2=>cases p1;exact .cons r1 (qt r2 p2)
theorem tI: ∀ {us:List Value} {ns:List Int} {i:Nat} {u:Value},qG us ns->us[i]? =some u-> ∃n,ns[i]? =some n/\ ∃t,u=Value.int n t
 |_,_,_,_,.nil,e=>by simp at e
 |_,_,0,_,.cons h _,e=>by simp at e;subst e;exact⟨_,rfl,h⟩
 |_,_,i+1,u,.cons _ r,e=>by
  obtain⟨n,h1,h2⟩:=tI (i:=i) (u:=u) r (by simpa using e)
  exact⟨n,by simpa using h1,h2⟩
section
variable {prog:Program}{w:World}{A:Around}{s:Shared}{b fin:Bool}{Q:Bool->Shared->Prop}
theorem rE: ∀ {us ws:List Value} {ns ms:List Int} (i:Nat),qG us ns->qG ws ms->fin=decide (ns.length<ms.length)->Q (cm ns ms) s->KatLex prog w A b fin Q (us.zip ws) i s
 |_,_,[],[],i,.nil,.nil,e,q=>by subst e;exact kat_nil q
 |_,_,[],m::ms,i,.nil,.cons _ _,e,q=>by subst e;simp only[List.zip_nil_left];refine kat_nil ?_;simpa [cm] using q
 |_,_,n::ns,[],i,.cons _ _,.nil,e,q=>by subst e;simp only[List.zip_nil_right];refine kat_nil ?_;simpa [cm] using q
 |_,_,n::ns,m::ms,i,.cons h1 r1,.cons h2 r2,e,q=>by
  obtain⟨t,rfl⟩:=h1
  obtain⟨t',rfl⟩:=h2
  rw[List.zip_cons_cons];refine kat_cons (wpAny_eqBool_int (kat_go (λhe=>?_) λhe=>?_))
  ·have:n=m:=by simpa using he
   subst this;refine kat_yes (rE (i+1) r1 r2 (by rw[e];simp) ?_)
   simpa [cm] using q
  ·have:n≠m:=by simpa using he
   have q':Q (decide (n<m)) s:=by simpa [cm,this] using q
   refine kat_no ?_
   cases (b&&i==0) with
   |true=>exact oneLt_int q'
   |false=>exact kat_one _ _ (lt_int q')
end
theorem gQ {X:Cx}:dQ X (.builtin "sorted") (λxs H Q=> ∃a ys ds es,xs=[.ref a]/\(SqL X.K H a ys\/SqT X.K H a ys)/\Reps X.K H ys ds/\gS ds=some es/\
 ∀(l:Addr) (ix:List Nat),H l=none->ix.length=ds.length->ix.map (λi=>ds.getD i .non)=es->Q (.ref l) (bN H l (.lst (ix.map λi=>ys.getD i .non)))):=by
 intro ae s σ H xs us Q I r h;obtain⟨a,ys,ds,es,rfl,hsq,rp,hs,q⟩:=h
 obtain⟨u,rfl,rx⟩:=kh r
 cases rx
 obtain⟨its,T,o,n,rv,hT,ho,hc,hd⟩: ∃(its:List Value) (T:String) (o:Obj) (n:Nat),Vals ys its/\(T="list"\/T="tuple")/\s.heap.get? a=some o/\o.cls=.type T/\o.data=.seq its.toArray n:=by
  rcases hsq with hq|hq
  ·obtain⟨its,r',pl,hz⟩:=I.list hq
   obtain⟨o,ho,hc,n,hd⟩:=pl.isList
   exact⟨its,"list",o,n,r',.inl rfl,ho,hc,hd⟩
  ·obtain⟨its,r',pl,hz⟩:=I.tuple hq
   obtain⟨o,ho,hc,n,hd⟩:=pl
   exact⟨its,"tuple",o,n,r',.inr rfl,ho,hc,hd⟩
 have l1:=rv.length
 have l2:=rp.length
 have h64:ds.length<64:=by
  unfold gS at hs;split at hs
  ·assumption
  ·cases hs
 unfold gS at hs;rw[if_pos h64] at hs;refine qb (G:=λix=>ix.length=ds.length/\ix.map (λi=>ds.getD i .non)=es) hT ho hc hd (by omega) (λfew=>⟨by simp;omega,?_⟩) (λh2 g kg=>?_) (λg p e ix kg hp hG hg=>?_)
 ·rw[show its.length=ds.length by omega,kw]
  cases e1:gP ds with
  |some ns=>
   rw[e1] at hs;cases hs;have:=iB e1
   subst this;rw[iS (by simp at l2;omega)]
  |none=>
   rw[e1] at hs;cases e2:kK ds with
   |none=>rw[e2] at hs;cases hs
   |some ks=>
    rw[e2] at hs;cases hs;obtain⟨h3,_⟩:=ou e2
    subst h3;dsimp only;rw[iS (by simp at l2;omega)]
 ·cases e1:gP ds with
  |some ns=>
   rw[e1] at hs;cases hs;have e0:=iB e1
   subst e0;have hv:=qt rv rp
   have hl:its.length=ns.length:=by simp at l2;omega
   have gi: ∀i,i<ns.length-> ∃t,its.getD i Value.none=Value.int (ns.getD i 0) t:=λi hi=>by
    have e2:its[i]? =some its[i]:=List.getElem?_eq_getElem (by omega)
    obtain⟨m,e3,t,e4⟩:=tI hv e2
    refine⟨t,?_⟩
    simp[List.getD,e2,e3,e4]
   refine kas_kind (T:=.type "int") h2 (λv hv'=>?_) (by rfl) (by rfl) ⟨rfl,?_⟩
   ·obtain⟨i,hi,rfl⟩:=List.getElem_of_mem hv'
    obtain⟨t,e⟩:=gi i (by omega)
    have:its[i]=its.getD i Value.none:=by simp[List.getD,List.getElem?_eq_getElem hi]
    rw[this,e];exact Looks.now
   ·rw[hl]
    refine qu (b:=λi j=>xt (ns.getD i 0) (ns.getD j 0)) (Aj CK _) (by omega) (λi j C hi hj hC=>?_) λp P S=>⟨rfl,?_,?_⟩
    ·obtain⟨t,e⟩:=gi i hi
     obtain⟨t',e'⟩:=gi j hj
     unfold kas_ask;rw[e,e'];exact kat_lt_int hC
    ·rw[Array.length_toList,P.size];simp
    ·have:=congrArg (List.map D.int) (jp CK P S)
     rw[<-this,List.map_map];refine List.map_congr_left λi hi=>?_
     have:i<ns.length:=by
      have:=P.perm.mem_iff.mp (Array.mem_toList_iff.mp hi)
      simpa using this
     simp[List.getD,List.getElem?_eq_getElem this]
  |none=>
   rw[e1] at hs;cases e2:kK ds with
   |none=>rw[e2] at hs;cases hs
   |some ks=>
    rw[e2] at hs;cases hs;obtain⟨h3,h4⟩:=ou e2
    subst h3;have hl:its.length=ks.length:=by simp at l2;omega
    have gi: ∀i,i<ks.length-> ∃(b:Addr) (o:Obj) (ts:List Value) (n:Nat),its.getD i Value.none=.ref b/\s.heap.get? b=some o/\o.cls=.type "tuple"/\o.data=.seq ts.toArray n/\qG ts (ks.getD i []):=λi hi=>by
     have r1:=mF rv i
     have r2:=pU rp i
     have e3:(ks.map cW).getD i .non=.tup ((ks.getD i []).map D.int):=by simp[List.getD,List.getElem?_eq_getElem hi,cW]
     rw[e3] at r2
     generalize hx:ys.getD i .non=x at r1 r2
     cases r2 with
     |tup q1 q2=>
      obtain⟨ts,r',⟨o,ho,hc,n,hd⟩,_⟩:=I.tuple q1
      exact⟨_,o,ts,n,r1,ho,hc,hd,qt r' q2⟩
    have kt: ∀(l:List Value) (ms:List (List Int)),l.length=ms.length->(∀i,i<ms.length-> ∃(b:Addr) (o:Obj) (ts:List Value) (n:Nat),l.getD i Value.none=.ref b/\s.heap.get? b=some o/\o.cls=.type "tuple"/\o.data=.seq ts.toArray n/\qG ts (ms.getD i []))->(∀k∈ms,k≠[])->
     ∃fs,KatTups g l fs/\fs.length=l.length/\ ∀v∈fs,∃i t,v=Value.int i t:=by
     intro l
     induction l with
     |nil=>intro ms _ _ _;exact⟨[],.nil,rfl,λ_ h=>nomatch h⟩
     |cons v l ih=>
      intro ms hl hg hk;cases ms with
      |nil=>cases hl
      |cons m ms=>
       obtain⟨fs,f1,f2,f3⟩:=ih ms (by simpa using hl) (λi hi=>by simpa using hg (i+1) (by simpa using hi)) λk hk'=>hk k (by simp[hk'])
       obtain⟨b,o,ts,n,g1,g2,g3,g4,g5⟩:=hg 0 (by simp)
       simp[List.getD] at g1 g5;subst g1;cases m with
       |nil=>exact absurd rfl (hk [] (by simp))
       |cons x xs=>
        cases g5 with
        |cons y1 y2=>
         obtain⟨t,rfl⟩:=y1
         refine⟨_,KatTups.cons (kg _ _ g2) g3 g4 (by simp;rfl) f1,by simp[f2],λv hv=>?_⟩
         rcases List.mem_cons.mp hv with rfl|hv
         ·exact⟨_,_,rfl⟩
         ·exact f3 v hv
    obtain⟨fs,f1,f2,f3⟩:=kt its ks hl gi h4
    refine kat_kind (T:=.type "int") f1 (by omega) (λv hv=>?_) (by rfl) ⟨rfl,?_⟩
    ·obtain⟨i,t,rfl⟩:=f3 v hv;exact Looks.now
    ·rw[hl]
     refine qu (b:=λi j=>cm (ks.getD i []) (ks.getD j [])) (Aj xE _) (by omega) (λi j C hi hj hC=>?_) λp P S=>⟨rfl,?_,?_⟩
     ·obtain⟨b1,o1,ts1,n1,x1,x2,x3,x4,x5⟩:=gi i hi
      obtain⟨b2,o2,ts2,n2,y1,y2,y3,y4,y5⟩:=gi j hj
      unfold kas_ask;rw[x1,y1];refine kat_lt (kg _ _ x2) x4 (kg _ _ y2) y4 ?_
      refine rE 0 x5 y5 ?_ hC
      have z1:=Paired.length x5
      have z2:=Paired.length y5
      simp[z1,z2]
     ·rw[Array.length_toList,P.size];simp
     ·have:=congrArg (List.map cW) (jp xE P S)
      dsimp only;rw[<-this,List.map_map];refine List.map_congr_left λi hi=>?_
      have:i<ks.length:=by
       have:=P.perm.mem_iff.mp (Array.mem_toList_iff.mp hi)
       simpa using this
      simp[List.getD,List.getElem?_eq_getElem this]
 ·refine⟨.ref p,_,I.laid (t':=s.toks) kg hp (show ObjOk X.prog X.w _ g _ (.lst (ix.map λi=>ys.getD i .non)) from⟨?_,_,e,mi rv ix,hg⟩),rfl,q _ ix (I.hok.fresh hp) hG.1 hG.2⟩
  rw[List.length_map,hG.1,sizeLine_eq];omega
def eB:List D->Option D
 | [.lst ds]=>(gS ds).map D.lst
 | [.tup ds]=>(gS ds).map D.lst
 |_=>none
theorem jJ {K:W.Frag}:gA K .n (λxs H Q=> ∃a ys ds es,xs=[.ref a]/\(SqL K H a ys\/SqT K H a ys)/\Reps K H ys ds/\gS ds=some es/\
 ∀(l:Addr) (ix:List Nat),H l=none->ix.length=ds.length->ix.map (λi=>ds.getD i .non)=es->Q (.ref l) (bN H l (.lst (ix.map λi=>ys.getD i .non)))) eB:=by
 intro H hid vs ds d Q hf h r q;unfold eB at h;split at h
 ·rename_i zs
  cases e:gS zs with
  |none=>rw[e] at h;cases h
  |some es=>
   rw[e] at h;cases h;obtain⟨x,rfl,r1⟩:=Reps1.one r
   obtain⟨a,xs,rfl,h1,h2⟩:=r1.lst
   refine⟨a,xs,zs,es,rfl,.inl h1,h2.mono (dZ _ _),e,λl ix hl _ he=>q _ _ (aX hl _) (gv hl (Same.refl _) ?_)⟩
   rw[<-he];exact mD h2 ix
 ·rename_i zs
  cases e:gS zs with
  |none=>rw[e] at h;cases h
  |some es=>
   rw[e] at h;cases h;obtain⟨x,rfl,r1⟩:=Reps1.one r
   obtain⟨a,xs,rfl,_,h1,h2⟩:=r1.tup
   refine⟨a,xs,zs,es,rfl,.inr h1,h2.mono (dZ _ _),e,λl ix hl _ he=>q _ _ (aX hl _) (gv hl (Same.refl _) ?_)⟩
   rw[<-he];exact mD h2 ix
 ·cases h
section
variable {X:Cx}{c:Ct}{e a b:Expr}{es rest:List Expr}{f g:GE}{fs:GA}{k:Kd}{pos p:Pos}{x:Str}{id T:String}{r:List V->Hp->VK->Prop}{F:List D->Option D}{ps:List Str}{j n:Nat}
theorem FV {r:R2}{F:D->D->Option D}(hr:IxR X r)(hF:mN X.K k r F)(ha:DE X c .s a f)(hb:DE X c .s b g)(hs:qk b)(hk:k≠ .b:=by decide):DE X c k (.Subscript a b pos) (ue F f g):=λhid ρ=>
 PE.imp (Dk hr (ha hid ρ) (oy λρ1=>hb hid ρ1) hs) λσ H Q h=>HE hF hk h
theorem Reps.b1 {K:W.Frag}{H W:Hp}: ∀ {vs:List V} {ds:List D},Reps K W vs ds->Reps1 K H W vs ds
 |_,_,.nil=>.nil
 |_,_,.cons r t=>.cons (.inl r) (Reps.b1 t)
def gq(F:List D->Option D)(fs:GA):GE:=λρ=>(fs ρ).bind λq=>(F q.1).map λd=>(d,q.2)
theorem nT {F:List D->Option D}{ρ ρ':aF}{d:D}(h:gq F fs ρ=some (d,ρ')): ∃ds,fs ρ=some (ds,ρ')/\F ds=some d:=by
 unfold gq at h;cases e:fs ρ with
 |none=>rw[e] at h;cases h
 |some q=>
  rw[e] at h;dsimp only[Option.bind] at h;cases e2:F q.1 with
  |none=>rw[e2] at h;cases h
  |some z=>rw[e2] at h;cases h;exact⟨q.1,rfl,e2⟩
theorem GX {hid:bK}{ρ:aF}(hF:gA X.K k r F)(hk:k≠ .b){σ:St}{H:Hp}{Q:VK}(h:Fm X.K c hid k (gq F fs) ρ σ H Q):Gs r (II X.K c hid fs ρ) σ H Q:=by
 obtain⟨sr,d,ρ',hd,q⟩:=h
 obtain⟨ds,e1,e2⟩:=nT hd
 exact⟨sr,ds,ρ',e1,λvs H1 k1 s1 r1=>hF H1 hid vs ds d Q (λa n=>s1.fresh n) e2 r1.b1 λw H' s2 r2=>q w H' (PostE.left k1 (s1.post s2 r2 hk))⟩
theorem zJ(hc:dQ X (.builtin id) r)(hF:gA X.K k r F)(hm:X.mg x=none)(ha:DG X c (e::es) fs)(hk:k≠ .b:=by decide)(hg:Gl X x:=by rfl)(hv:bootBuiltins x=some (.builtin id):=by kernel_rfl)(hn:x≠"__name__":=by decide)(hdb:(x==("__debug__":Str))=false:=by decide)
 (he:starEach (e::es) X.env=(false,eval e X.env)::starEach es X.env:=by rfl) (hpl:(backTo pos (starEach es X.env)).any (·.1)=false:=by rfl):DE X c k (.Call (.Name x p) (e::es) [] pos) (gq F fs):=λhid ρ=>
 PE.imp (lA hc hg hm hv (ha hid ρ) hn hdb he hpl) λσ H Q h=>GX hF hk h
theorem xH(hc:dQ X (.type T) r)(hF:gA X.K k r F)(hm:X.mg x=none)(ha:DG X c (e::es) fs)(hk:k≠ .b:=by decide)(hg:Gl X x:=by rfl)(hv:bootBuiltins x=some (.type T):=by kernel_rfl)(hn:x≠"__name__":=by decide)(hdb:(x==("__debug__":Str))=false:=by decide)
 (he:starEach (e::es) X.env=(false,eval e X.env)::starEach es X.env:=by rfl) (hpl:(backTo pos (starEach es X.env)).any (·.1)=false:=by rfl):DE X c k (.Call (.Name x p) (e::es) [] pos) (gq F fs):=λhid ρ=>
 PE.imp (ig hc hg hm hv (ha hid ρ) hn hdb he hpl) λσ H Q h=>GX hF hk h
theorem E8 {P:List D->Option D}(C:Cl X.prog X.w X.K X.mg X.base j x ps (dX X.K k n P))(hr:Room j X.A)
 (ha:DG X c (e::es) fs) (hkb:k≠ .b:=by decide) (hg:Gl X x:=by rfl) (hdb:(x==("__debug__":Str))=false:=by decide) (he:starEach (e::es) X.env=(false,eval e X.env)::starEach es X.env:=by rfl) (hpl:(backTo pos (starEach es X.env)).any (·.1)=false:=by rfl):
 DE X c k (.Call (.Name x p) (e::es) [] pos) (gq (nF n P) fs):=by
 obtain⟨f,fd,F,hm,hk,hb⟩:=C.ex
 exact λhid ρ=>PE.imp (qU F hr hg hm hk hb .nil (yA (X:=X)) (ha hid ρ) hdb he hpl) λσ H Q hq_=>by
  obtain⟨sr,d,ρ',hd,q⟩:=hq_
  obtain⟨ds,e1,e2⟩:=nT hd
  unfold nF at e2;split at e2
  ·refine⟨sr,ds,ρ',e1,λvs H1 k1 s1 r1=>?_⟩
   show dX X.K k n P (vs++[]) H1 Q E0;rw[List.append_nil];exact⟨hid,ds,s1.trk,r1, ‹_›,d,e2,λv H' s2 r2=>q v H' (PostE.left k1 (s1.post s2 r2 hkb))⟩
  ·cases e2
abbrev GT:=aF->Option (Bool×aF)
def Hr(K:W.Frag)(c:Ct)(hid:bK)(f:GT)(ρ:aF):TT:=λσ H Q=>SR K c hid ρ σ H/\ ∃d ρ',f ρ=some (d,ρ')/\ ∀H',Kept hid H H'->SR K c hid ρ' σ H'->Q d H'
def He(X:Cx)(c:Ct)(e:Expr)(f:GT):Prop:= ∀hid ρ,PT X e (Hr X.K c hid f ρ)
def yP(f:GE):GT:=λρ=>(f ρ).bind λq=>(By q.1).map λd=>(d,q.2)
theorem Bs(ha:DE X c .s a f)(he: ∀whole,isTrue a X.env whole=(do let v <-whole;standAt a.pos;holding [v] (truthy v)):=by intro _;rfl):He X c a (yP f):=λhid ρ=>
 PT.imp (tK (ha hid ρ) he) λσ H Q hq_=>by
  obtain⟨sr,d,ρ',hd,q⟩:=hq_
  unfold yP at hd;cases e:f ρ with
  |none=>rw[e] at hd;cases hd
  |some z=>
   rw[e] at hd;dsimp only[Option.bind] at hd;cases e2:By z.1 with
   |none=>rw[e2] at hd;cases hd
   |some y=>
    rw[e2] at hd;cases hd;exact⟨sr,z.1,z.2,e,λv H' ⟨k1,s1,r1⟩=>⟨d,zq e2 (.inl r1),q H' k1 s1⟩⟩
def zh(f:GT):GT:=λρ=>(f ρ).map λq=>(!q.1,q.2)
theorem Cn {f:GT}(ha:He X c a f):He X c (.UnaryOp .Not a pos) (zh f):=λhid ρ=>
 PT.imp (zI (ha hid ρ)) λσ H Q hq_=>by
  obtain⟨sr,d,ρ',hd,hq⟩:=hq_
  unfold zh at hd;cases e:f ρ with
  |none=>rw[e] at hd;cases hd
  |some z=>rw[e] at hd;cases hd;exact⟨sr,z.1,z.2,e,λH1 k1 s1=>hq H1 k1 s1⟩
end
section
variable {X:Cx}{c:Ct}{k:Kd}{t u:FS}{e:Expr}{pos:Pos}
def Fn(p:GT)(t u:FS):FS:=λρ=>match p ρ with
 |some (true,ρ')=>t ρ'
 |some (false,ρ')=>u ρ'
 |none=>.no
theorem DH {p:GT}{a b:List Stmt}(hp:He X c e p)(ha:ua X c k a t)(hb:ua X c k b u):DS X c k (.If e a b pos) (Fn p t u):=λρ=>
 PS.imp (Di (Fi λhid=>hp hid ρ) (su λρ1=>ha ρ1) (su λρ1=>hb ρ1)) λD σ H hq_=>by
  obtain⟨hid,sr,q⟩:=hq_
  cases e1:p ρ with
  |none=>unfold Fn at q;rw[e1] at q;exact q.elim
  |some z=>
   obtain⟨x,ρ1⟩:=z
   refine⟨hid,sr,x,ρ1,e1,λH1 k1 s1=>?_⟩
   unfold Fn at q;rw[e1] at q;cases x with
   |true=>exact qp ⟨ρ1,hid,s1,EndOk.mono q k1.vw⟩
   |false=>exact qR ⟨ρ1,hid,s1,EndOk.mono q k1.vw⟩
end
section
variable {prog:Program}{w:World}{A:Around}{R:Result->Shared->Prop}{s:Shared}{elt t1 t2 i1 i2:Expr}{ifs1 ifs2:List Expr}{scope:Scope}{pos:Pos}{it acc:Value}{env:Env}
theorem C4:compTurn (.ListComp elt [⟨t1,i1,ifs1,0⟩,⟨t2,i2,ifs2,0⟩] scope pos) 1 it acc env=(do
 standAt i2.pos
 match <-pyNext it with
 |none=>pure (.done .next)
 |some v=>
  letOwnedTupleGo t2 it v
  assign t2 env v
  let ok <-kZ ifs2 env
  if ok=true then do(do let _ <-call (.builtin "list.append") [acc,<-eval elt env]);again (.compLoop (.ListComp elt [⟨t1,i1,ifs1,0⟩,⟨t2,i2,ifs2,0⟩] scope pos) 1 it acc env)
  else again (.compLoop (.ListComp elt [⟨t1,i1,ifs1,0⟩,⟨t2,i2,ifs2,0⟩] scope pos) 1 it acc env)):=by rfl
theorem zy:compTurn (.ListComp elt [⟨t1,i1,ifs1,0⟩,⟨t2,i2,ifs2,0⟩] scope pos) 0 it acc env=(do
 standAt i1.pos
 match <-pyNext it with
 |none=>pure (.done .next)
 |some v=>
  letOwnedTupleGo t1 it v
  assign t1 env v
  let ok <-kZ ifs1 env
  if ok=true then do
   let x <-eval i2 env
   standAt i2.pos
   let x <-foldedSetIterable i2 env x
   let _ <-runOwn (.compStart (.ListComp elt [⟨t1,i1,ifs1,0⟩,⟨t2,i2,ifs2,0⟩] scope pos) 1 (<-holding [x] (pyIter x)) acc env) env
   again (.compLoop (.ListComp elt [⟨t1,i1,ifs1,0⟩,⟨t2,i2,ifs2,0⟩] scope pos) 0 it acc env)
  else again (.compLoop (.ListComp elt [⟨t1,i1,ifs1,0⟩,⟨t2,i2,ifs2,0⟩] scope pos) 0 it acc env)):=by rfl
abbrev zV:=(Shared->Prop)->Shared->Prop
def vO(prog:Program)(w:World)(A:Around)(elt:Expr)(acc:Value)(env:Env):zV:=λQ s=>
 wpAny (model prog w) A (eval elt env) (λx s₄=>wpAny (model prog w) A (call (.builtin "list.append") [acc,x]) (λ_ s₅=>Q s₅) (λ_ _=>False) s₄) (λ_ _=>False) s
def qZ(prog:Program)(w:World)(A:Around)(e iter:Expr)(acc:Value)(env:Env):zV:=λQ s=>
 wpAny (model prog w) A (eval iter env) (λx s₄=>wpAny (model prog w) A (pyIter x) (λit s₅=>codeAny (model prog w) A (.compStart e 1 it acc env) (λr s'=>match r with
  | .ok _=>Q s'
  | .error _=>False) s₅) (λ_ _=>False) s₄) (λ_ _=>False) s
def y0(prog:Program)(w:World)(A:Around)(code:Code)(tg:Expr)(ifs:List Expr)(it:Value)(env:Env)(TA:zV)(R:Result->Shared->Prop):Prop:= ∀(I:Nat->Shared->Prop),
 (∀n s,I n s->wpAny (model prog w) A (pyNext it) (λr s₁=>match r with
   |none=>R (.ok .next) s₁
   |some v=>wpAny (model prog w) A (letOwnedTupleGo tg it v) (λ_ s₁=>wpAny (model prog w) A (assign tg env v) (λ_ s₂=>
     wpAny (model prog w) A (kZ ifs env) (λok s₃=>
      if ok=true then TA (λs₅=> ∃m,m<n/\I m s₅) s₃
      else∃m,m<n/\I m s₃) (λ_ _=>False) s₂) (λ_ _=>False) s₁) (λ_ _=>False) s₁) (λ_ _=>False) s)->
 ∀(n:Nat) (s:Shared),I n s->codeAny (model prog w) A code R s
theorem AJ:y0 prog w A (.compLoop (.ListComp elt [⟨t1,i1,ifs1,0⟩,⟨t2,i2,ifs2,0⟩] scope pos) 1 it acc env) t2 ifs2 it env (vO prog w A elt acc env) R:=by
 intro I turn n s h;have no: ∀ {E':Value->Shared->Prop} (x:Value) (s:Shared),False->E' x s:=λ_ _ z=>z.elim
 refine codeAny_loop rfl I (λn s hI=>?_) n h
 show wpAny _ A ((compTurn (.ListComp elt [⟨t1,i1,ifs1,0⟩,⟨t2,i2,ifs2,0⟩] scope pos) 1 it acc env).onRaise (λx=>do noteFrame x env;theTreesLotGoes x)) _ _ s
 refine wpAny_noted ?_
 rw[C4];refine wpAny_bind (wpAny_standAt (wpAny_bind (wpAny_mono (turn n s hI) (λr s₁ h₁=>?_) no)))
 cases r with
 |none=>exact wpAny_pure h₁
 |some v=>
  refine wpAny_bind (wpAny_mono h₁ (λ_ s₁ h₁=>wpAny_bind (wpAny_mono h₁ (λ_ s₂ h₂=>wpAny_bind (wpAny_mono h₂ (λok s₃ h₃=>?_) no)) no)) no)
  cases ok with
  |false=>exact wpAny_pure ⟨rfl,h₃⟩
  |true=>exact wpAny_bind (wpAny_bind (wpAny_mono h₃ (λx s₄ h₄=>wpAny_bind (wpAny_mono h₄ (λ_ s₅ h₅=>wpAny_pure (wpAny_pure ⟨rfl,h₅⟩)) no)) no))
theorem w8(hset: ∀x,foldedSetIterable i2 env x=pure x):y0 prog w A (.compLoop (.ListComp elt [⟨t1,i1,ifs1,0⟩,⟨t2,i2,ifs2,0⟩] scope pos) 0 it acc env) t1 ifs1 it env (qZ prog w A (.ListComp elt [⟨t1,i1,ifs1,0⟩,⟨t2,i2,ifs2,0⟩] scope pos) i2 acc env) R:=by
 intro I turn n s h;have no: ∀ {E':Value->Shared->Prop} (x:Value) (s:Shared),False->E' x s:=λ_ _ z=>z.elim
 refine codeAny_loop rfl I (λn s hI=>?_) n h
 show wpAny _ A ((compTurn (.ListComp elt [⟨t1,i1,ifs1,0⟩,⟨t2,i2,ifs2,0⟩] scope pos) 0 it acc env).onRaise (λx=>do noteFrame x env;theTreesLotGoes x)) _ _ s
 refine wpAny_noted ?_
 rw[zy];refine wpAny_bind (wpAny_standAt (wpAny_bind (wpAny_mono (turn n s hI) (λr s₁ h₁=>?_) no)))
 cases r with
 |none=>exact wpAny_pure h₁
 |some v=>
  refine wpAny_bind (wpAny_mono h₁ (λ_ s₁ h₁=>wpAny_bind (wpAny_mono h₁ (λ_ s₂ h₂=>wpAny_bind (wpAny_mono h₂ (λok s₃ h₃=>?_) no)) no)) no)
  cases ok with
  |false=>exact wpAny_pure ⟨rfl,h₃⟩
  |true=>
   refine wpAny_bind (wpAny_mono h₃ (λx s₄ h₄=>wpAny_bind (wpAny_standAt (wpAny_bind (wpAny_of_eq (hset x) (wpAny_bind (wpAny_holding (wpAny_mono h₄ (λit2 s₅ h₅=>?_) no))))))) no)
   refine wpAny_bind (wpAny_runOwn (codeAny_mono h₅ λr s' hr=>?_))
   cases r with
   |ok f=>exact wpAny_pure ⟨rfl,hr⟩
   |error e=>exact hr.elim
end
def oC(g:FG)(p:FT)(A:FA)(ρ0:aF):List D->Option (List D)
 | []=>some []
 |d::r=>(g d ρ0).bind λρ1=>(p ρ1).bind λb=>if b=true then(A ρ1).bind λys=>(oC g p A ρ0 r).map (ys++ ·) else oC g p A ρ0 r
def HF(n:Nat)(ρ:aF):Prop:= ∀(i:Nat) (s:Sl),n<=i->ρ[i]? =some s->s=.no
def zd(Y:Cx)(c:Ct)(hid:bK)(D0:Addr)(L W:Hp)(A:FA)(TA:zV)(ρ1:aF):Prop:= ∀(ae:List (Addr×Obj)) (s:Shared) (σ:St) (H:Hp) (xs:List V) (ad zs:List D) (Q:Shared->Prop),Inv Y ae σ H s->SR Y.K c hid ρ1 σ H->
 H D0=some (.lst xs)->Reps Y.K (vw H hid) xs ad->xs.length+zs.length<=sizeLine->Same L H->Same W (vw H hid)->(∀i:Nat,Ow ρ1[i]? ->σ[i]? ≠some (some (.ref D0)))->A ρ1=some zs->
 (∀(s':Shared) (σ':St) (H':Hp) (xs':List V),Inv Y ae σ' H' s'->SR Y.K c hid ρ1 σ' H'->H' D0=some (.lst xs')->Reps Y.K (vw H' hid) xs' (ad++zs)->Same L H'->Same (vw H hid) (vw H' hid)->(∀i:Nat,Ow ρ1[i]? ->σ'[i]? ≠some (some (.ref D0)))->Q s')->TA Q s
section
variable {Y:Cx}{c:Ct}{tg:Expr}{ifs:List Expr}{g:FG}{p:FT}{A:FA}{TA:zV}{code:Code}
structure CLG(Y:Cx)(ae:List (Addr×Obj))(c:Ct)(hid:bK)(ρ0:aF)(L W H3:Hp)(D0:Addr)(fp:List Addr)(tn:Nat->Heap->Prop)(g:FG)(p:FT)(A:FA)(ds ys ad0:List D)(n i:Nat)(xs:List V)(ad:List D)(σ':St)(H':Hp)(s':Shared):Prop where
 e:n=ds.length-i
 hi:i<=ds.length
 I:Inv Y ae σ' H' s'
 st:tn i s'.heap
 fr: ∀b∈fp,H' b=none
 sr:SR Y.K c hid ρ0 σ' H'
 sm:Same L H'
 ac:H' D0=some (.lst xs)
 rp:Reps Y.K (vw H' hid) xs ad
 w:Same W (vw H' hid)
 v:Same (vw H3 hid) (vw H' hid)
 na: ∀i:Nat,Ow ρ0[i]? ->σ'[i]? ≠some (some (.ref D0))
 go: ∃rest,oC g p A ρ0 (ds.drop i)=some rest/\ad++rest=ad0++ys
theorem sk(hcalm:Y.calm=true)(hxe:Y.xe=λ_ _=>False){n0:Nat}(hT:jz n0 g)(hg:oN Y c tg g)(hp:rK Y c ifs p)
 {ae:List (Addr×Obj)} {σ3:St} {H3 L W:Hp} {s4:Shared} {hid:bK} {ρ0:aF} {J:It} {it D0:Addr} {fp:List Addr} {tn:Nat->Heap->Prop} {ds ys ad0:List D} {xs0:List V} {R:Result->Shared->Prop}
 (hA: ∀d ρ1,g d ρ0=some ρ1->zd Y c hid D0 L W A TA ρ1)
 (hN:HF n0 ρ0) (I:Inv Y ae σ3 H3 s4) (sr:SR Y.K c hid ρ0 σ3 H3) (hh:hid D0=true) (na: ∀i:Nat,Ow ρ0[i]? ->σ3[i]? ≠some (some (.ref D0))) (hacc:H3 D0=some (.lst xs0)) (rp0:Reps Y.K (vw H3 hid) xs0 ad0) (sm:Same L H3) (wv:Same W (vw H3 hid)) (T:Turn Y.prog Y.w Y.K tg J fp it tn) (st:tn 0 s4.heap) (hF: ∀b∈fp,iT Y ae H3 b)
 (io:Cw Y.K L W J ds) (hz:ad0.length+ys.length<=sizeLine) (hc:oC g p A ρ0 ds=some ys)
 (hTP:y0 Y.prog Y.w Y.A code tg ifs (.ref it) Y.env TA R)
 (hR: ∀(s':Shared) (σ':St) (H':Hp) (xs:List V),Inv Y ae σ' H' s'->SR Y.K c hid ρ0 σ' H'->Same L H'->H' D0=some (.lst xs)->Reps Y.K (vw H' hid) xs (ad0++ys)->Same (vw H3 hid) (vw H' hid)->(∀i:Nat,Ow ρ0[i]? ->σ'[i]? ≠some (some (.ref D0)))->R (.ok .next) s'):
 codeAny (model Y.prog Y.w) Y.A code R s4:=by
 have stat: ∀ {H':Hp},(∀b∈fp,H' b=none)-> ∀b∈fp,iT Y ae H' b:=λ{H'} hn b hb=>⟨hn b hb,(hF b hb).2⟩
 refine hTP (λn s'=> ∃(i:Nat) (xs:List V) (ad:List D) (σ':St) (H':Hp),CLG Y ae c hid ρ0 L W H3 D0 fp tn g p A ds ys ad0 n i xs ad σ' H' s') ?_ ds.length s4
  ⟨0,xs0,ad0,σ3,H3,by simp,Nat.zero_le _,I,st,λb hb=>(hF b hb).1,sr,sm,hacc,rp0,wv,Same.refl _,na,ys,by simpa using hc,rfl⟩
 rintro n s5 ⟨i,xs,ad,σ5,H5,rfl,hi,I5,st5,f5,sr5,sm5,ac5,rp5,w5,v5,na5,rest,hc5,hy5⟩
 have wH:Same W H5:=w5.trans (dZ _ _)
 by_cases hlt:i<ds.length
 ·have hd:ds[i]? =some ds[i]:=List.getElem?_eq_getElem hlt
  have e2:ds.drop i=ds[i]::ds.drop (i+1):=List.drop_eq_getElem_cons hlt
  rw[e2] at hc5;unfold oC at hc5;obtain⟨go,yl⟩:=io.1 i ds[i] H5 hd sm5 wH
  refine bD (T.item Y rfl rfl rfl hcalm i ae s5 σ5 H5 (λ_ _=>False) I5 (stat f5) st5 go) λr s6 hq_=>?_
  obtain⟨u,hr,h6⟩:=hq_
  subst hr;refine bD h6 λ_ s7 hq_=>?_
  obtain⟨x,H7,I7,r7,y7,st7,f7⟩:=hq_
  obtain⟨s7',rp⟩:=yl x H7 y7
  have rx:=rp hid sr5.tr w5
  have I7':=I7.pinned (stat f7) (T.obj _ _ st7)
  cases e3:g ds[i] ρ0 with
  |none=>rw[e3] at hc5;cases hc5
  |some ρ1=>
   rw[e3] at hc5;have hc5:(p ρ1).bind (λb=>if b=true then(A ρ1).bind λys=>(oC g p A ρ0 (ds.drop (i+1))).map (ys++ ·) else oC g p A ρ0 (ds.drop (i+1)))=some rest:=hc5
   obtain⟨tl1,tl2⟩:=hT _ _ _ e3
   have fg: ∀ {σ':St} {H':Hp},SR Y.K c hid ρ1 σ' H'->SR Y.K c hid ρ0 σ' H':=λ{σ' H'} z=>z.forget tl1 λj s e=>by
    by_cases hj:j<n0
    ·exact .inr ((tl2 j hj).trans e)
    ·exact .inl (hN j s (by omega) e)
   have ow01: ∀j:Nat,Ow ρ0[j]? ->Ow ρ1[j]? :=λj o=>by
    by_cases hj:j<n0
    ·rw[tl2 j hj];exact o
    ·exfalso
     cases e:ρ0[j]? with
     |none=>rw[e] at o;exact o
     |some s=>have:=hN j s (by omega) e;subst this;rw[e] at o;exact o
   have keepT: ∀ {σ':St} {H':Hp} {s':Shared},Inv Y (ae++kA fp s7.heap) σ' H' s'->tn (i+1) s'.heap/\ ∀b∈fp,H' b=none:=λ{σ' H' s'} J'=>by
    refine⟨T.keep _ _ _ st7 λb hb o e=>(J'.pin (b,o) (List.mem_append_right _ (List.mem_append_right _ (dh hb e)))).1,λb hb=>?_⟩
    obtain⟨o,e,_⟩:=T.obj _ _ st7 b hb
    exact(J'.pin (b,o) (List.mem_append_right _ (List.mem_append_right _ (dh hb e)))).2.1
   refine bD (hxe▸hg hid ρ0 ds[i] _ s7 σ5 H7 x u (λσ' H'=>H'=H7/\SR Y.K c hid ρ1 σ' H7/\OwK ρ0 ρ1 σ5 σ') I7' r7 ⟨sr5.ext s7',rx,ρ1,e3,λσ' z o=>⟨rfl,z,o⟩⟩) λ_ s8 hq_=>?_
   obtain⟨σ8,H8,I8,e8,q8,o8⟩:=hq_
   subst e8;have na1: ∀j:Nat,Ow ρ1[j]? ->σ8[j]? ≠some (some (.ref D0)):=λj o=>by
    rw[(o8 j o).2];exact na5 j (o8 j o).1
   cases e4:p ρ1 with
   |none=>rw[e4] at hc5;cases hc5
   |some b=>
    rw[e4] at hc5;have hc5:(if b=true then(A ρ1).bind λys=>(oC g p A ρ0 (ds.drop (i+1))).map (ys++ ·) else oC g p A ρ0 (ds.drop (i+1)))=some rest:=hc5
    refine bD (hxe▸hp hid ρ1 _ s8 σ8 H8 (λb' H'=>b'=b/\Same H8 H') I8 ⟨q8,b,e4,λH' s'=>⟨rfl,s'⟩⟩) λok s9 hq_=>?_
    obtain⟨H9,I9,e9,sm9⟩:=hq_
    subst e9;have w9:Same (vw H5 hid) (vw H9 hid):=aR (s7'.trans sm9)
    cases ok with
    |false=>
     have hc5:oC g p A ρ0 (ds.drop (i+1))=some rest:=hc5
     obtain⟨k1,k2⟩:=keepT I9
     exact⟨ds.length- (i+1),by omega,i+1,xs,ad,σ8,H9,rfl,hlt,I9.unpinned,k1,k2,fg (q8.ext sm9),sm5.trans (s7'.trans sm9),sm9 _ _ (s7' _ _ ac5),rp5.mono w9,w5.trans w9,v5.trans w9,λj o=>na1 j (ow01 j o),rest,hc5,hy5⟩
    |true=>
     have hc5:((A ρ1).bind λys=>(oC g p A ρ0 (ds.drop (i+1))).map (ys++ ·))=some rest:=hc5
     cases e5:A ρ1 with
     |none=>rw[e5] at hc5;cases hc5
     |some zs=>
      rw[e5] at hc5;have hc5:(oC g p A ρ0 (ds.drop (i+1))).map (zs++ ·)=some rest:=hc5
      cases e6:oC g p A ρ0 (ds.drop (i+1)) with
      |none=>rw[e6] at hc5;cases hc5
      |some rest'=>
       rw[e6] at hc5;cases hc5
       have l1:=rp5.length
       have l2:=congrArg List.length hy5
       simp only[List.length_append] at l2;refine hA ds[i] ρ1 e3 _ s9 σ8 H9 xs ad zs _ I9 (q8.ext sm9) (sm9 _ _ (s7' _ _ ac5)) (rp5.mono w9) (by omega) (sm5.trans (s7'.trans sm9)) (w5.trans w9) na1 e5 λs10 σ10 H10 xs' I10 q10 a10 rp10 smL v10 na10=>?_
       obtain⟨k1,k2⟩:=keepT I10
       exact⟨ds.length- (i+1),by omega,i+1,xs',ad++zs,σ10,H10,rfl,hlt,I10.unpinned,k1,k2,fg q10,smL,a10,rp10,(w5.trans w9).trans v10,(v5.trans w9).trans v10,λj o=>na10 j (ow01 j o),rest',e6,by rw[<-hy5];simp⟩
 ·have e:i=ds.length:=by omega
  subst e;rw[List.drop_eq_nil_of_le (Nat.le_refl _)] at hc5;cases hc5
  rw[List.append_nil] at hy5;subst hy5;refine bD (T.done Y rfl rfl rfl hcalm ds.length ae s5 σ5 H5 (λ_ _=>False) I5 (stat f5) st5 (io.2 H5 sm5 wH)) λr s6 hq_=>?_
  obtain⟨hr,I6⟩:=hq_
  subst hr;exact hR s6 σ5 H5 xs I6 sr5 sm5 ac5 rp5 v5 na5
end
def sO(f:FE):FA:=λρ=>(f ρ).map λd=>[d]
def A8(gi:FA)(g:FG)(p:FT)(f:FE):FA:=λρ1=>(gi ρ1).bind λds=>oC g p (sO f) ρ1 ds
def o6(m:Nat)(gi1:FA)(g1:FG)(p1:FT)(gi2:FA)(g2:FG)(p2:FT)(f:FE):FE:=λρ=>(gi1 ρ).bind λds=>(oC g1 p1 (A8 gi2 g2 p2 f) (ρ++List.replicate m .no) ds).bind λys=>if ys.length<=sizeLine then some (.lst ys) else none
theorem xS {m:Nat}{gi1 gi2:FA}{g1 g2:FG}{p1 p2:FT}{f:FE}{ρ:aF}{d:D}(h:o6 m gi1 g1 p1 gi2 g2 p2 f ρ=some d): ∃ds ys,gi1 ρ=some ds/\oC g1 p1 (A8 gi2 g2 p2 f) (ρ++List.replicate m .no) ds=some ys/\ys.length<=sizeLine/\d=.lst ys:=by
 unfold o6 at h;cases e1:gi1 ρ with
 |none=>rw[e1] at h;cases h
 |some ds=>
  rw[e1] at h;dsimp only[Option.bind] at h;cases e2:oC g1 p1 (A8 gi2 g2 p2 f) (ρ++List.replicate m .no) ds with
  |none=>rw[e2] at h;cases h
  |some ys=>
   rw[e2] at h;dsimp only at h;split at h
   ·cases h;exact⟨ds,ys,rfl,e2, ‹_›,rfl⟩
   ·cases h
def DY(n:Nat)(g:FG):Prop:= ∀d (ρ0 ρ1:aF),g d ρ0=some ρ1-> ∀i:Nat,n<=i->ρ1[i]? =ρ0[i]?
theorem Gn {n i:Nat}(h:i<n):DY n (gN i):=λd ρ0 ρ1 e=>by
 cases e
 exact λj hj=>List.getElem?_set_ne (by omega)
section
variable {prog:Program}{w:World}{A:Around}{R:Result->Shared->Prop}{s:Shared}{elt t1 t2 i1 i2:Expr}{ifs1 ifs2:List Expr}{scope:Scope}{pos:Pos}{it acc:Value}{env:Env}
theorem yt
 (h0:codeAny (model prog w) A (.compLoop (.ListComp elt [⟨t1,i1,ifs1,0⟩,⟨t2,i2,ifs2,0⟩] scope pos) 1 it acc env) R s)
 (h:wpAny (model prog w) A (pyIter it) (λit' s'=>codeAny (model prog w) A (.compLoop (.ListComp elt [⟨t1,i1,ifs1,0⟩,⟨t2,i2,ifs2,0⟩] scope pos) 1 it' acc env) R s')
   (notedBy (model prog w) A env λx s'=>R (.error x) s') s):
 codeAny (model prog w) A (.compStart (.ListComp elt [⟨t1,i1,ifs1,0⟩,⟨t2,i2,ifs2,0⟩] scope pos) 1 it acc env) R s:=by
 refine codeAny_of_tree (show wpAny _ _ ((compStart (.ListComp elt [⟨t1,i1,ifs1,0⟩,⟨t2,i2,ifs2,0⟩] scope pos) 1 it acc env).onRaise (λx=>do noteFrame x env;standAt theWindowsPlace)) _ _ s from wpAny_notedAt ?_)
 unfold compStart;show wpAny _ _ (ask>>=_) _ _ s;refine wpAny_bind (wpAny_askSetting (wpAny_ite ?_))
 split
 ·first
   |exact wpAny_bind (wpAny_pure (wpAny_pure (And.intro rfl h0)))
   |exact wpAny_pure (And.intro rfl h0)
 ·first
   |exact wpAny_bind (wpAny_rule (wpAny_bind (wpAny_standAt (wpAny_bind (wpAny_mono h (λit' s' h'=>wpAny_pure (And.intro rfl h')) λ_ _ x=>x)))))
   |(refine wpAny_bind (wpAny_rule ?_);show wpAny _ _ (standAt i2.pos>>=_) _ _ s;exact wpAny_bind (wpAny_standAt (wpAny_bind (wpAny_mono h (λit' s' h'=>wpAny_pure (And.intro rfl h')) λ_ _ x=>x))))
end
section
variable {Y:Cx}{c:Ct}{elt t1 t2 i1 i2:Expr}{ifs1 ifs2:List Expr}{scope:Scope}{pos:Pos}{f:FE}{g2:FG}{p2:FT}{gi2:FA}{hid:bK}{D0:Addr}{L W:Hp}{ρ1:aF}
theorem A1(hxe:Y.xe=λ_ _=>False)(he:DP Y c .s elt f)(hh:hid D0=true)(h00:c.H₀ D0=none)(nD:L D0=none):zd Y c hid D0 L W (sO f) (vO Y.prog Y.w Y.A elt (.ref D0) Y.env) ρ1:=by
 intro ae s σ H xs ad zs Q I sr ac rp hz smL wv na hA hQ;unfold sO at hA;cases e5:f ρ1 with
 |none=>rw[e5] at hA;cases hA
 |some y=>
  rw[e5] at hA;cases hA;unfold vO;refine bD (hxe▸he hid ρ1 _ s σ H (λv H'=>Same H H'/\Rep Y.K (vw H' hid) v y) I ⟨sr,y,e5,λv H' s' r=>⟨s',r⟩⟩) λv s10 hq_=>?_
  obtain⟨z,H10,I10,rz,sm10,rp10⟩:=hq_
  have a10:H10 D0=some (.lst xs):=sm10 _ _ ac
  refine bD (hxe▸dH (X:=Y) _ s10 σ H10 (.ref D0) [z] (.ref D0) [v] (λ_ H'=>H'=bN H10 D0 (.lst (xs++[z]))) I10 rfl (.cons rz .nil) ⟨D0,xs,z,rfl,rfl,a10,by simp at hz;omega,rfl⟩) λ_ s11 ⟨_,H11,I11,_,e11⟩=>?_
  subst e11;have vv:vw (bN H10 D0 (.lst (xs++[z]))) hid=vw H10 hid:=eE hh
  have w10:Same (vw H hid) (vw H10 hid):=aR sm10
  refine hQ s11 σ _ (xs++[z]) I11 ((sr.ext sm10).write hh h00 na) aL ?_ (λb o e=>?_) ?_ na
  ·rw[vv];exact(rp.mono w10).append (.cons rp10 .nil)
  ·rw[aH (be e nD)];exact sm10 _ _ (smL _ _ e)
  ·rw[vv];exact w10
theorem xi(hcalm:Y.calm=true)(hxe:Y.xe=λ_ _=>False){n1:Nat}(hT:jz n1 g2)(hN:HF n1 ρ1)(hi:DIp Y c t2 i2 gi2)(hg:oN Y c t2 g2)(hp:rK Y c ifs2 p2)(he:DP Y c .s elt f)(hh:hid D0=true)(h00:c.H₀ D0=none)(nD:L D0=none):
 zd Y c hid D0 L W (A8 gi2 g2 p2 f) (qZ Y.prog Y.w Y.A (.ListComp elt [⟨t1,i1,ifs1,0⟩,⟨t2,i2,ifs2,0⟩] scope pos) i2 (.ref D0) Y.env) ρ1:=by
 intro ae s σ H xs ad zs Q I sr ac rp hz smL wv na hA hQ;unfold A8 at hA;cases e5:gi2 ρ1 with
 |none=>rw[e5] at hA;cases hA
 |some ds=>
  rw[e5] at hA;have hA:oC g2 p2 (sO f) ρ1 ds=some zs:=hA
  unfold qZ;refine bD (hxe▸hi hid ρ1 ae s σ H (λJ H'=>Same H H'/\ItOk Y.K (vw H' hid) J ds) I ⟨sr,ds,e5,λJ H' s1 io=>⟨s1,io⟩⟩) λv s1 h1=>bD h1 λitv s2 h2=>?_
  obtain⟨it,fp,tn,J,H2,rfl,I2,T,st2,f2,sm,io⟩:=h2
  have l1:=rp.length
  have loop:codeAny (model Y.prog Y.w) Y.A (.compLoop (.ListComp elt [⟨t1,i1,ifs1,0⟩,⟨t2,i2,ifs2,0⟩] scope pos) 1 (.ref it) (.ref D0) Y.env) (λr s'=>match r with
   | .ok _=>Q s'
   | .error _=>False) s2:=by
   refine sk (L:=L) (W:=vw H2 hid) (ad0:=ad) (xs0:=xs) (A:=sO f) (TA:=vO Y.prog Y.w Y.A elt (.ref D0) Y.env) hcalm hxe hT hg hp (λd ρ2 _=>A1 hxe he hh h00 nD) hN I2 (sr.ext sm) hh na (sm _ _ ac) (rp.mono (aR sm)) (smL.trans sm) (Same.refl _) T st2 f2 io.b (by omega) hA AJ ?_
   intro s' σ' H' xs' I' sr' smL' ac' rp' v' na';exact hQ s' σ' H' xs' I' sr' ac' rp' smL' ((aR sm).trans v') na'
  exact yt loop (T.self Y.A 0 _ _ _ st2 loop)
end
section
variable {X:Cx}{c:Ct}{elt t1 t2 i1 i2:Expr}{ifs1 ifs2:List Expr}{scope:Scope}{pos:Pos}{N':List Str}{m n1:Nat}{gi1 gi2:FA}{g1 g2:FG}{p1 p2:FT}{f:FE}
theorem sX(hcalm:X.calm=true)(hk:scope.kind=.function)(hs:ud scope X.env.scope=true)(hn:ur X.N N' scope=true)(hm:N'.length-X.N.length=m)(hT1:jz X.N.length g1)(hU1:DY n1 g1)(hn1:X.N.length<=n1)(hT2:jz n1 g2)
 (hset: ∀C s₀ H₀ ex,∀x,foldedSetIterable i2 (aE X N' scope C s₀ H₀ ex).env x=pure x)
 (hg1: ∀C s₀ H₀ ex,oN (aE X N' scope C s₀ H₀ ex) c t1 g1) (hp1: ∀C s₀ H₀ ex,rK (aE X N' scope C s₀ H₀ ex) c ifs1 p1) (hi2: ∀C s₀ H₀ ex,DIp (aE X N' scope C s₀ H₀ ex) c t2 i2 gi2)
 (hg2: ∀C s₀ H₀ ex,oN (aE X N' scope C s₀ H₀ ex) c t2 g2) (hp2: ∀C s₀ H₀ ex,rK (aE X N' scope C s₀ H₀ ex) c ifs2 p2) (he: ∀C s₀ H₀ ex,DP (aE X N' scope C s₀ H₀ ex) c .s elt f)
 {E:Value->Shared->Prop} {ae:List (Addr×Obj)} {σ:St} {H:Hp} {s:Shared} {hid:bK} {ρ:aF} {J:It} {it:Addr} {fp:List Addr} {tn:Nat->Heap->Prop} {ds ys:List D} {RR:Value->Addr->Result->Shared->Prop}
 (I:Inv X ae σ H s) (sr:SR X.K c hid ρ σ H) (T:Turn X.prog X.w X.K t1 J fp it tn) (st:tn 0 s.heap) (hF: ∀b∈fp,iT X ae H b) (io:Cw X.K H (vw H hid) J ds) (hz:ys.length<=sizeLine) (hc:oC g1 p1 (A8 gi2 g2 p2 f) (ρ++List.replicate m .no) ds=some ys)
 (hR: ∀(D C:Addr) (s':Shared) (H':Hp) (xs:List V),s.heap.objs.size<=D->s.heap.objs.size<=C->D≠C->H D=none->Same H H'->H' D=some (.lst xs)->Reps X.K (vw H' (ba hid D)) xs ys->(∃m,s'.heap.Ns C m)->H' C=none->s'.os=s.os->AllBare s'.gens->HOk X.prog X.w H' s'.heap->Un (pO X.stack) fp H H' s.heap s'.heap->RR (.ref D) C (.ok .next) s'):
 wpAny (model X.prog X.w) X.A (newList []) (λacc s₃=>wpAny (model X.prog X.w) X.A (newFunctionEnv scope X.env.globals (qw X.env.cells scope.names []) [] X.env.qual none .none (some X.env)) (λcenv s₄=>
  codeAny (model X.prog X.w) X.A (.compStart (.ListComp elt [⟨t1,i1,ifs1,0⟩,⟨t2,i2,ifs2,0⟩] scope pos) 0 (.ref it) acc {cenv with scope:=relabel scope X.env}) (RR acc cenv.locals) s₄) E s₃) E s:=by
 refine wpAny_newObj_type (qA λh₁ hns₁ kp1 oc₁=>?_)
 dsimp only at hns₁ kp1 oc₁⊢
 generalize hH2:s.heap.push {cls:=.type "list",dict:=none,data:=.seq ([]:List Value).toArray}=H2 at hns₁ kp1 oc₁⊢
 have hC:H2.objs.size=s.heap.objs.size+1:=by rw[<-hH2,Heap.size_push]
 have hD:H s.heap.objs.size=none:=I.hok.fresh (Nat.le_refl _)
 have I2:Inv X ae σ (bN H s.heap.objs.size (.lst [])) {s with heap:=H2}:=by
  rw[<-hH2];exact I.laid (t':=s.toks) (λb o e=>Heap.get?_push_of_some _ e) (Nat.le_refl _) ⟨Nat.zero_le _,[],0,.nil,Heap.get?_push_size _ rfl⟩
 have fpLt: ∀b∈fp,b<s.heap.objs.size:=λb hb=>let⟨o,e,_⟩:=T.obj 0 s.heap st b hb;Heap.lt_size e
 have hF2: ∀b∈fp,iT X ae (bN H s.heap.objs.size (.lst [])) b:=λb hb=>⟨by rw[aH (Nat.ne_of_lt (fpLt b hb))];exact(hF b hb).1,(hF b hb).2⟩
 have kp0: ∀b o,s.heap.get? b=some o->H2.get? b=some o:=λb o e=>by rw[<-hH2];exact Heap.get?_push_of_some _ e
 have IY:=nR (tk:=s.toks) (N':=N') (fp:=fp) I2 hF2 (λb hb=>let⟨o,e,_⟩:=T.obj 0 s.heap st b hb;⟨o,kp0 b o e⟩) hk hs hn hns₁ kp1 oc₁
 rw[hm] at IY;dsimp only at IY;have sr0:SR X.K c (ba hid s.heap.objs.size) (ρ++List.replicate m .no) (σ++List.replicate m none) (bN H s.heap.objs.size (.lst [])):=(sr.hide (aX hD _) hD aL).more m
 have hρ:ρ.length=X.N.length:=by rw[<-sr.len];exact I.len
 have nf:hid s.heap.objs.size=false:=sr.fresh hD
 have st1:tn 0 h₁:=T.keep _ _ _ st λb hb o e=>kp1 b o (kp0 b o e)
 have na0: ∀i:Nat,Ow (ρ++List.replicate m Sl.no)[i]? ->(σ++List.replicate m none)[i]? ≠some (some (V.ref s.heap.objs.size)):=(sr.more m).notOw nf
 have wv:Same (vw H hid) (vw (bN H s.heap.objs.size (.lst [])) (ba hid s.heap.objs.size)):=by rw[qY hD];exact Same.refl _
 have nos:HF X.N.length (ρ++List.replicate m Sl.no):=λi s hi e=>by
  rw[List.getElem?_append_right (by omega),List.getElem?_replicate] at e
  split at e
  ·cases e;rfl
  ·cases e
 have loop: ∀s4:Shared,s4={s with heap:=h₁,toks:=s.toks}->
  codeAny (model X.prog X.w) X.A (.compLoop (.ListComp elt [⟨t1,i1,ifs1,0⟩,⟨t2,i2,ifs2,0⟩] scope pos) 0 (.ref it) (.ref s.heap.objs.size) (compEnvC scope (ml X.env.cells scope H2.objs.size) H2.objs.size X.env)) (RR (.ref s.heap.objs.size) H2.objs.size) s4:=by
  rintro s4 rfl
  have fpY: ∀b∈fp,iT (aE X N' scope H2.objs.size {s with heap:=H2} (bN H s.heap.objs.size (.lst [])) fp) [] (bN H s.heap.objs.size (.lst [])) b:=λb hb=>
   ⟨(hF2 b hb).1,(IY.ok.exf b hb).1,IY.ok.exfs b hb,.inl hb,(IY.ok.exf b hb).2,λq hq=>by have hq':q∈([]:List (Addr×Obj))++[]:=hq;simp at hq'⟩
  refine sk (Y:=aE X N' scope H2.objs.size {s with heap:=H2} (bN H s.heap.objs.size (.lst [])) fp) (L:=H) (hid:=ba hid s.heap.objs.size) (W:=vw H hid) (ad0:=[]) (xs0:=[]) (A:=A8 gi2 g2 p2 f) (TA:=qZ X.prog X.w X.A (.ListComp elt [⟨t1,i1,ifs1,0⟩,⟨t2,i2,ifs2,0⟩] scope pos) i2 (.ref s.heap.objs.size) (compEnvC scope (ml X.env.cells scope H2.objs.size) H2.objs.size X.env))
   hcalm rfl hT1 (hg1 _ _ _ _) (hp1 _ _ _ _) (λd ρ1 e=>xi (Y:=aE X N' scope H2.objs.size {s with heap:=H2} (bN H s.heap.objs.size (.lst [])) fp) hcalm rfl hT2 (λi s hi e'=>?_) (hi2 _ _ _ _) (hg2 _ _ _ _) (hp2 _ _ _ _) (he _ _ _ _) eS (sr.fresh0 hD) hD) nos IY sr0 eS na0 aL .nil (aX hD _) wv T st1 fpY io (by simpa using hz) hc (w8 (hset H2.objs.size {s with heap:=H2} (bN H s.heap.objs.size (.lst [])) fp)) ?_
  ·rw[hU1 _ _ _ e i hi] at e'
   exact nos i s (by omega) e'
  ·intro s' σ' H' xs I' _ sm' hx' rp' _ _
   have un1:Un (pO X.stack) fp H (bN H s.heap.objs.size (.lst [])) s.heap H2:=Un.laid (λb o e=>kp0 b o e) (Nat.le_refl _) hD
   exact hR s.heap.objs.size H2.objs.size s' H' xs (Nat.le_refl _) (by rw[hC];exact Nat.le_succ _) (by rw[hC];exact Nat.ne_of_lt (Nat.lt_succ_self _)) hD sm' hx' rp' (let⟨m,hm,_⟩:=I'.loc;⟨m,hm⟩) I'.free I'.os I'.bare I'.hok (un1.trans I'.base)
 exact codeAny_compStart_list (loop _ rfl) (T.self X.A 0 _ _ _ st1 (loop _ rfl))
theorem tM(hcalm:X.calm=true)(n1:Nat)(hT1:jz X.N.length g1)(hU1:DY n1 g1)(hT2:jz n1 g2)(hi:Es X c t1 i1 gi1)
 (hg1: ∀C s₀ H₀ ex,oN (aE X N' scope C s₀ H₀ ex) c t1 g1) (hp1: ∀C s₀ H₀ ex,rK (aE X N' scope C s₀ H₀ ex) c ifs1 p1) (hi2: ∀C s₀ H₀ ex,DIp (aE X N' scope C s₀ H₀ ex) c t2 i2 gi2)
 (hg2: ∀C s₀ H₀ ex,oN (aE X N' scope C s₀ H₀ ex) c t2 g2) (hp2: ∀C s₀ H₀ ex,rK (aE X N' scope C s₀ H₀ ex) c ifs2 p2) (he: ∀C s₀ H₀ ex,DP (aE X N' scope C s₀ H₀ ex) c .s elt f)
 (hk:scope.kind=.function:=by rfl) (hs:ud scope X.env.scope=true:=by kernel_rfl) (hn:ur X.N N' scope=true:=by kernel_rfl) (hm:N'.length-X.N.length=m:=by rfl) (hn1:X.N.length<=n1:=by exact Nat.le_of_ble_eq_true rfl) (hset: ∀x,foldedSetIterable i1 X.env x=pure x:=by intro _;rfl)
 (hset2: ∀C s₀ H₀ ex,∀x,foldedSetIterable i2 (aE X N' scope C s₀ H₀ ex).env x=pure x:=by intros;rfl):
 DP X c .n (.ListComp elt [⟨t1,i1,ifs1,0⟩,⟨t2,i2,ifs2,0⟩] scope pos) (o6 m gi1 g1 p1 gi2 g2 p2 f):=by
 intro hid ρ ae s σ H Q I hq;obtain⟨sr,d,hd,q⟩:=hq
 obtain⟨ds,ys,e1,hc,hz,rfl⟩:=xS hd
 rw[eval_ListComp];refine wpAny_comprehension_free (use:=none) rfl hset (fc λx hx=>I.ok.has x (ie hs x hx)) hk (j2 hs) ?_
 refine bD (hi hid ρ ae s σ H (λJ H'=>Same H H'/\Cw X.K H' (vw H' hid) J ds) I ⟨sr,ds,e1,λJ H' s1 io=>⟨s1,io⟩⟩) λv s1 h1=>bD h1 λitv s2 h2=>?_
 obtain⟨it,fp,tn,J,H2,rfl,I2,T,st2,f2,sm,io⟩:=h2
 refine sX (RR:=λacc C=>compPost (model X.prog X.w) X.A X.xe none (EP X ae σ Q) acc C) hcalm hk hs hn hm hT1 hU1 hn1 hT2 hset2 hg1 hp1 hi2 hg2 hp2 he I2 (sr.ext sm) T st2 f2 io hz hc ?_
 intro D C s' H' xs hDge hCge hDC hD sm' hx rp ⟨mm,hns⟩ hC' hos hbare hok hun;refine⟨mm,hns,λh' hsb=>⟨.ref D,H',?_,rfl,q _ H' (sm.trans sm') ⟨D,xs,ys,rfl,rfl,sm.free hD,hx,rp⟩⟩⟩
 have neC: ∀b o,s2.heap.get? b=some o->b≠C:=λb o e z=>by subst z;exact absurd (Heap.lt_size e) (Nat.not_lt.mpr hCge)
 have hun':Un (pO X.stack) fp H2 H' s2.heap h':=⟨λb o e n h1 h2=>(hsb.2 b (neC b o e)).trans (hun.keep b o e n h1 h2),λb o e n h1 h2=>let⟨sl,z⟩:=hun.slot b o e n h1 h2;⟨sl,(hsb.2 b (neC b o e)).trans z⟩,hun.free,λb o e h2=>let⟨o',z⟩:=hun.there b o e h2;⟨o',(hsb.2 b (neC b o e)).trans z⟩,hun.tups,hun.frzs,hun.tbls⟩
 have hok':HOk X.prog X.w H' h':=λb o e=>by
  have nb: ∀b' o',H' b'=some o'->b'≠C:=λb' o' e' z=>by subst z;rw[hC'] at e';cases e'
  refine(hok b o e).stay (λc' u hc' z=>(hsb.2 c' ?_).trans z) (λ_ z=>z) λ_ _ z=>z
  rcases hc' with z'|z'
  ·rw[z'];exact nb b o e
  ·exact nb c' _ z'
 exact I2.call' (s':={s' with heap:=h'}) (ch:=fp) hos hun' hok' hbare λb hb=>⟨(f2 b hb).2.2.2.1,(f2 b hb).2.1,(f2 b hb).2.2.2.2.1,(f2 b hb).2.2.2.2.2⟩
end
def iz(ds:List D)(lo hi:Option Int):List D:=(ds.drop (HT.sIx ds.length 0 lo)).take (HT.sIx ds.length ds.length hi-HT.sIx ds.length 0 lo)
theorem oi {K:W.Frag}{F:Hp}{xs:List V}{ds:List D}(r:Reps K F xs ds)(lo hi:Option Int):Reps K F (sW xs lo hi) (iz ds lo hi):=by
 unfold sW iz;rw[r.length];exact(r.drop _).take _
abbrev FO:=aF->Option (Option Int)
def IL(K:W.Frag)(c:Ct)(hid:bK)(f:FO)(ρ:aF):TO:=λσ H Q=>SR K c hid ρ σ H/\ ∃o,f ρ=some o/\ ∀H',Same H H'->Q o H'
def DO(X:Cx)(c:Ct)(e:Option Expr)(f:FO):Prop:= ∀hid ρ,PO X e (IL X.K c hid f ρ)
theorem PO.imp {X:Cx}{e:Option Expr}{t t':TO}(h:PO X e t)(i: ∀σ H Q,t' σ H Q->t σ H Q):PO X e t':=λae s σ H Q I q=>h ae s σ H Q I (i σ H Q q)
section
variable {X:Cx}{c:Ct}{e a b:Expr}{f g:FE}{k:Kd}{pos p2:Pos}{lo hi:Option Expr}{l u:FO}
def jd:FO:=λ_=>some none
def gF(f:FE):FO:=λρ=>(f ρ).bind λd=>match d with
 | .int i=>some (some i)
 |_=>none
theorem dG:DO X c none jd:=λhid ρ=>PO.imp CQ λσ H Q ⟨sr,o,e,q⟩=>by cases e;exact q H (Same.refl _)
theorem cn(h:DP X c k e f):DO X c (some e) (gF f):=λhid ρ=>PO.imp (Bx (h hid ρ)) λσ H Q hq_=>by
 obtain⟨sr,o,e,q⟩:=hq_
 unfold gF at e;cases e1:f ρ with
 |none=>rw[e1] at e;cases e
 |some d=>
  rw[e1] at e;cases d with
  |int i=>
   cases e
   refine⟨sr,_,e1,λv H' s r=>⟨i,?_,q H' s⟩⟩
   exact(RK.b k r λa n=>sr.fresh n).int
  |_=>cases e
def fu(f:FE)(l u:FO):FE:=λρ=>(f ρ).bind λd=>match d with
 | .lst ds=>(l ρ).bind λlo=>(u ρ).map λhi=>.lst (iz ds lo hi)
 |_=>none
theorem gU(he:DP X c k e f)(hl:DO X c lo l)(hu:DO X c hi u):DP X c .n (.Subscript e (.Slice lo hi none p2) pos) (fu f l u):=λhid ρ=>
 PE.imp (nC vV (he hid ρ) (hl hid ρ) (hu hid ρ)) λσ H Q hq_=>by
  obtain⟨sr,d,hd,q⟩:=hq_
  unfold fu at hd;cases e1:f ρ with
  |none=>rw[e1] at hd;cases hd
  |some z=>
   rw[e1] at hd;cases z with
   |lst ds=>
    have hd:((l ρ).bind λlo=>(u ρ).map λhi=>D.lst (iz ds lo hi))=some d:=hd
    cases e2:l ρ with
    |none=>rw[e2] at hd;cases hd
    |some o1=>
     rw[e2] at hd;cases e3:u ρ with
     |none=>rw[e3] at hd;cases hd
     |some o2=>
      rw[e3] at hd;cases hd;refine⟨sr,_,e1,λv H1 s1 r1=>⟨sr.ext s1,o1,e2,λH2 s2=>⟨(sr.ext s1).ext s2,o2,e3,λH3 s3=>?_⟩⟩⟩
      obtain⟨a,xs,rfl,h1,h2⟩:=((RK.b k r1 λa n=>sr.fresh n).ext (s2.trans s3)).lst
      exact⟨a,xs,rfl,h1,λp hp=>q _ _ ((s1.trans (s2.trans s3)).trans (aX hp _)) (gv hp (s1.trans (s2.trans s3)) (oi h2 o1 o2))⟩
   |_=>cases hd
def jk(ds:List D)(lo hi:Option Int):Bool:=decide (HT.sIx ds.length 0 lo=0)&&decide (HT.sIx ds.length ds.length hi=ds.length)
def m6(f:FE)(l u:FO):FE:=λρ=>(f ρ).bind λd=>match d with
 | .tup ds=>(l ρ).bind λlo=>(u ρ).bind λhi=>if jk ds lo hi=false then some (.tup (iz ds lo hi)) else none
 |_=>none
theorem AL(he:DP X c k e f)(hl:DO X c lo l)(hu:DO X c hi u):DP X c .s (.Subscript e (.Slice lo hi none p2) pos) (m6 f l u):=λhid ρ=>
 PE.imp (nC EM (he hid ρ) (hl hid ρ) (hu hid ρ)) λσ H Q hq_=>by
  obtain⟨sr,d,hd,q⟩:=hq_
  unfold m6 at hd;cases e1:f ρ with
  |none=>rw[e1] at hd;cases hd
  |some z=>
   rw[e1] at hd;cases z with
   |tup ds=>
    have hd:((l ρ).bind λlo=>(u ρ).bind λhi=>if jk ds lo hi=false then some (D.tup (iz ds lo hi)) else none)=some d:=hd
    cases e2:l ρ with
    |none=>rw[e2] at hd;cases hd
    |some o1=>
     rw[e2] at hd;cases e3:u ρ with
     |none=>rw[e3] at hd;cases hd
     |some o2=>
      rw[e3] at hd;have hd:(if jk ds o1 o2=false then some (D.tup (iz ds o1 o2)) else none)=some d:=hd
      split at hd
      ·rename_i hw
       cases hd
       refine⟨sr,_,e1,λv H1 s1 r1=>⟨sr.ext s1,o1,e2,λH2 s2=>⟨(sr.ext s1).ext s2,o2,e3,λH3 s3=>?_⟩⟩⟩
       obtain⟨a,xs,rfl,_,h1,h2⟩:=((RK.b k r1 λa n=>sr.fresh n).ext (s2.trans s3)).tup
       refine⟨a,xs,rfl,h1,λ⟨w1,w2⟩=>?_,λp hp=>q _ _ ((s1.trans (s2.trans s3)).trans (aX hp _)) (lD hp ((((sr.ext s1).ext s2).ext s3).fresh hp) (oi h2 o1 o2))⟩
       rw[h2.length] at w1 w2;unfold jk at hw;rw[w1,w2] at hw;simp at hw
      ·cases hd
   |_=>cases hd
end
end L2
namespace PySem
open Sem (wp)
open AutoSeq1 (wpAny_loadPart')
end PySem
namespace L2
open PySem PySem.Spec PyProof.Rows
open PySem PySem.W PySem.Calls PyProof.Rows
def ES {α:Type}(d:α)(n:Nat):Option α:=if n<=sizeLine then some d else none
def Ix {α:Type}(d:α)(n:Nat):Option α:=if n<sizeLine then some d else none
theorem eP {α:Type}{d:α}{n:Nat}(h:n<=1000):ES d n=some d:=if_pos (Nat.le_of_lt (lV h))
theorem pF {α:Type}{d:α}{n:Nat}(h:n<=1000):Ix d n=some d:=if_pos (lV h)
theorem CT(fs:FA)(ρ:aF):cw fs ρ=(fs ρ).bind λds=>ES (.tup ds) ds.length:=rfl
theorem lF(fs:FA)(ρ:aF):cg fs ρ=(fs ρ).bind λds=>ES (.lst ds) ds.length:=rfl
theorem yL(m:Nat)(gi:FA)(g:FG)(p:FT)(f:FE)(ρ:aF):cx m gi g p f ρ=(gi ρ).bind λds=>(ES () ds.length).bind λ_=>(dB g p f (ρ++List.replicate m .no) ds).map D.lst:=by
 unfold cx ES;congr 1;funext ds
 split<;>rfl
theorem wz(bs:List D)(d:D):gG bs [d]=Ix (.non,bs++[d]) bs.length:=rfl
theorem BY(bs:List D)(i:Int):o7 bs [.int i]=(ES () bs.length).bind λ_=>(uc bs.length i).bind λj=>(bs[j]?).map λd=>(d,bs.eraseIdx j):=by
 unfold o7 ES;dsimp only;split
 ·rename_i j e
  split at e
  ·rw[if_pos ‹_›,e];rfl
  ·cases e
 ·rename_i e
  split at e
  ·rw[if_pos ‹_›,e];rfl
  ·rw[if_neg ‹_›];rfl
def GL(ds:List D):Option (List D):=match ds with
 | [.int j]=>if j.natAbs<4000000000 then some (o3 0 j.toNat) else none
 |_=>none
theorem sq(f:FA)(ρ:aF):cN f ρ=(f ρ).bind GL:=rfl
theorem sy {j:Int}(h:j.natAbs<=1000):GL [.int j]=some (o3 0 j.toNat):=by
 show(if j.natAbs<4000000000 then some (o3 0 j.toNat) else none)=_
 rw[if_pos (by omega)]
theorem js(i j:Int):aS (.int i) (.int j)=some (.int (i+j)):=rfl
theorem jv(i j:Int):eT (.int i) (.int j)=some (.int (i-j)):=rfl
theorem jY(i j:Int):rR (.int i) (.int j)=some (.bl (decide (i<j))):=rfl
theorem BK(i j:Int):ye (.int i) (.int j)=some (.bl (decide (i<=j))):=rfl
theorem C6(i j:Int):Hg (.int i) (.int j)=some (.bl (decide (j<i))):=rfl
theorem qH(i j:Int):Az (.int i) (.int j)=some (.bl (decide (j<=i))):=rfl
theorem dc {i j:Int}(h:0<j):bj (.int i) (.int j)=some (.int (i % j)):=by
 unfold bj i2;dsimp only;rw[if_pos (by simpa using h)]
theorem uC {n:Nat}(h:n<10^200):n<2^1000:=Nat.lt_of_lt_of_le h (by decide)
theorem ij {i j:Int}(h1:i.natAbs<10^200)(h2:j.natAbs<10^200):fm (.int i) (.int j)=some (.int (i*j)):=by
 unfold fm i2;dsimp only;rw[if_pos (by rw[decide_eq_true (uC h1),decide_eq_true (uC h2)];rfl)]
theorem pY {i j:Int}(h1:0<j)(h2:j.natAbs<10^200):kR (.int i) (.int j)=some (.int (i / j)):=by
 unfold kR i2;dsimp only;rw[if_pos (by rw[decide_eq_true h1,decide_eq_true (uC h2)];rfl)]
theorem kJ {i j:Int}(h0:0<=j)(h1:j<=1000000)(h2:i.natAbs<2^64):eZ (.int i) (.int j)=some (.int (i^j.toNat)):=by
 unfold eZ i2;dsimp only;rw[if_pos (by rw[decide_eq_true h0,decide_eq_true h1,decide_eq_true h2];rfl)]
theorem mK {x y:D}(h:fw x<=32):kj x y=some (.bl (eJ x y)):=if_pos h
theorem kn {x y:D}(h:fw x<=32):lu x y=some (.bl (!eJ x y)):=if_pos h
theorem jQ(i j:Int):eJ (.int i) (.int j)=decide (i=j):=by
 unfold eJ;rw[Bool.eq_iff_iff];simp
theorem gh(i:Int):fw (.int i)=0:=by unfold fw;rfl
structure Bag(N:Nat)(a b:Int):Prop where
 a0:0<=a
 a1:a.natAbs<10^180
 b0:0<=b
 b1:b<=N
 lo:b≠0->a.natAbs<2147483647
abbrev aG(a b:Int):List D:=[.int a,.int b]
def rn:FS:=
 aB (cM (bc (ak rR (ah 1) (ao cV (aa (ah 0) (ai))))) (aY (ak aP (ah 0) (ah 1))) (skip))
 (aY (aA (.int 0)))
def gO:List D->Option D:=gE .s 2 rn
def zE:FS:=
 aB (aQ 2 (ak bj (ao tm (aa (ao (nF 2 gO) (aa (ah 0) (aa (ah 1) (ai)))) (ai))) (ak fm (ak fm (ak eZ (aA (.int 10)) (aA (.int 60))) (ak eZ (aA (.int 10)) (aA (.int 60)))) (ak eZ (aA (.int 10)) (aA (.int 60))))))
 (aB (cM (bc (ak Az (ah 2) (ak eZ (aA (.int 10)) (aA (.int 18))))) (aY (cg (aa (ah 2) (aa (aA (.int 0)) (ai))))) (skip))
 (aB (aQ 3 (ak bj (ak aS (ak aS (ah 2) (ak fm (aA (.int 7919)) (ah 1))) (aA (.int 17))) (aA (.int 2147483647))))
 (aB (dn (bL (cN (aa (ao kf (aa (ao cV (aa (ah 0) (ai))) (aa (aA (.int 9)) (ai)))) (ai)))) (gN 4) (aQ 3 (ak bj (ak aS (ak aS (ak eZ (ah 3) (aA (.int 5))) (ak bj (ak aP (ah 0) (ah 4)) (aA (.int 2147483629)))) (ak fm (aA (.int 31)) (ah 4))) (aA (.int 2147483647)))))
 (aY (cg (aa (ah 3) (aa (aA (.int 1)) (ai))))))))
def zD:List D->Option D:=gE .n 5 zE
def qh:FS:=
 aB (cM (bc (ak kj (ak aP (cU 0) (aA (.int 1))) (aA (.int 0)))) (aB (aQ 2 (ak bj (ak aP (cU 0) (aA (.int 0))) (ah 1)))
 (aB (cv (bX 0 (aA (.int 0))) (pu (ak kR (ak aP (cU 0) (aA (.int 0))) (ah 1))))
 (aY (ah 2)))) (skip))
 (aB (cv (bX 0 (aA (.int 0))) (pu (ak bj (ak aS (ak aS (ak eZ (ak aP (cU 0) (aA (.int 0))) (aA (.int 5))) (ak fm (aA (.int 48271)) (ak aP (cU 0) (aA (.int 1))))) (aA (.int 11))) (aA (.int 2147483647)))))
 (aB (cv (bX 0 (aA (.int 1))) (pu (ak aS (ak aP (cU 0) (aA (.int 1))) (aA (.int 1)))))
 (aY (ak bj (ak kR (ak bj (ak fm (ak aP (cU 0) (aA (.int 0))) (aA (.int 69621))) (aA (.int 2147483629))) (aA (.int 8))) (ah 1)))))
def gM:List D->List D->Option (D×List D):=uZ .s 3 qh
def sS:FS:=
 aB (fX 2 (ET (ah 1)))
 (aB (fX 3 (cg (ai)))
 (aB (yc (bc (ak lu (cU 2) (cg (ai)))) (ca (aN 3 1 gG (da (aN 2 1 o7 (da (aN 0 1 gM (bL (aa (ao cV (aa (cU 2) (ai))) (ai)))) (bL (ai)))) (bL (ai))))) 16)
 (ya 3)))
def tz:List D->List D->Option (D×List D):=uZ .n 4 sS
theorem dq {i m:Int}(h:0<m):0<=i % m/\i % m<m:=⟨Int.emod_nonneg _ (by omega),Int.emod_lt_of_pos _ h⟩
theorem lg {N:Nat}{a b m:Int}(B:Bag N a b)(hN:N<=1000000000)(hm:0<m)(hm2:m.natAbs<10^20): ∃d a' b',gM (aG a b) [.int m]=some (.int d,aG a' b')/\Bag (N+1) a' b'/\0<=d/\d<m:=by
 have hm3:m.natAbs<10^200:=Nat.lt_of_lt_of_le hm2 (by decide)
 by_cases hb:b=0
 ·subst hb
  refine⟨a % m,a / m,0,?_,⟨Int.ediv_nonneg B.a0 (by omega),?_,by omega,by omega,λz=>absurd rfl z⟩,dq hm⟩
  ·simp[gM,uZ,qh,nW,aG,aB,cM,bc,ak,aP,cU,ah,aA,mK,jQ,gh,xG,rJ,uc,aQ,dc hm,cv,pu,pY hm hm3,bX,iI,g6,E1,aY,n9]
  ·have h1:=B.a1
   have:a / m<=a:=Int.ediv_le_self _ B.a0
   have:0<=a / m:=Int.ediv_nonneg B.a0 (by omega)
   omega
 ·have lo:=B.lo hb
  have p1:a.natAbs<2^64:=Nat.lt_trans lo (by decide)
  have p2:b.natAbs<10^200:=Nat.lt_of_lt_of_le (show b.natAbs<10^10 by have:=B.b1;have:=B.b0;omega) (by decide)
  generalize hA:(a^5+48271*b+11) % 2147483647=A
  have hA':0<=A/\A<2147483647:=by rw[<-hA];exact dq (by decide)
  have p3:A.natAbs<10^200:=Nat.lt_of_lt_of_le (show A.natAbs<10^10 by omega) (by decide)
  refine⟨A*69621 % 2147483629 / 8 % m,A,b+1,?_,⟨hA'.1,?_,by have:=B.b0;omega,by have:=B.b1;omega,λ_=>by omega⟩,dq hm⟩
  ·have c1:(48271:Int).natAbs<10^200:=Nat.lt_of_lt_of_le (show(48271:Int).natAbs<10^10 by decide) (by decide)
   have c2:(69621:Int).natAbs<10^200:=Nat.lt_of_lt_of_le (show(69621:Int).natAbs<10^10 by decide) (by decide)
   have c3:(8:Int).natAbs<10^200:=Nat.lt_of_lt_of_le (show(8:Int).natAbs<10^10 by decide) (by decide)
   have e1:eZ (.int a) (.int 5)=some (.int (a^5)):=kJ (by decide) (by decide) p1
   have e2:fm (.int 48271) (.int b)=some (.int (48271*b)):=ij c1 p2
   have e3: ∀i:Int,bj (.int i) (.int 2147483647)=some (.int (i % 2147483647)):=λi=>dc (by decide)
   have e4: ∀i:Int,bj (.int i) (.int 2147483629)=some (.int (i % 2147483629)):=λi=>dc (by decide)
   have e5:fm (.int A) (.int 69621)=some (.int (A*69621)):=ij p3 c2
   have e6: ∀i:Int,kR (.int i) (.int 8)=some (.int (i / 8)):=λi=>pY (by decide) c3
   simp[gM,uZ,qh,nW,aG,aB,cM,bc,ak,aP,cU,ah,aA,mK,jQ,gh,xG,rJ,uc,hb,skip,e1,e2,e3,e4,js,cv,pu,bX,iI,g6,E1,aY,n9,hA,e5,e6,dc hm]
  ·exact Nat.lt_of_lt_of_le (show A.natAbs<10^10 by omega) (by decide)
theorem ay {t u:FS}{ρ ρ':aF}(h:t ρ=.nx ρ'):aB t u ρ=u ρ':=by unfold aB;rw[h]
theorem gW {t u:FS}{ρ ρ':aF}{d:D}(h:t ρ=.rt d ρ'):aB t u ρ=.rt d ρ':=by unfold aB;rw[h]
abbrev nI(i:Nat):D:=.int (i:Int)
abbrev lz(ns:List Int):D:=.scr (ns.map D.int)
theorem AY(n:Nat):o3 0 n=(List.range n).map nI:=by
 unfold o3;simp
theorem jH {n j:Nat}(h:j<n):uc n (j:Int)=some j:=by
 unfold uc;rw[if_pos (by omega),if_pos (by omega)];simp
theorem Br(ns:List Int)(k:Nat): ∃c,gO [lz ns,nI k]=some (.int c):=by
 by_cases h:k<ns.length
 ·refine⟨ns[k],?_⟩
  simp[gO,gE,rn,ii,aB,cM,bc,ak,ah,ao,aa,ai,cV,jY,xG,h,aY,aP,rJ,jH (show k<(ns.map D.int).length by simpa using h)]
  simp[jH h,h]
 ·refine⟨0,?_⟩
  simp[gO,gE,rn,ii,aB,cM,bc,ak,ah,ao,aa,ai,cV,jY,xG,h,aY,skip,aA]
theorem sn(ns:List Int)(k:D)(c:D): ∀(l:List Nat),(∀i∈l,i<ns.length/\i<1000)-> ∀(x:Int) (s4:Sl),0<=x->x<2147483647-> ∃(x':Int) (s4':Sl),0<=x'/\x'<2147483647/\
 cF (gN 4) (aQ 3 (ak bj (ak aS (ak aS (ak eZ (ah 3) (aA (.int 5))) (ak bj (ak aP (ah 0) (ah 4)) (aA (.int 2147483629)))) (ak fm (aA (.int 31)) (ah 4))) (aA (.int 2147483647)))) (l.map nI) [.v (lz ns),.v k,.v c,.v (.int x),s4]=.nx [.v (lz ns),.v k,.v c,.v (.int x'),s4']
 | [],_,x,s4,h1,h2=>⟨x,s4,h1,h2,rfl⟩
 |i::l,hl,x,s4,h1,h2=>by
  obtain⟨hi,hi2⟩:=hl i (by simp)
  have e1:eZ (.int x) (.int 5)=some (.int (x^5)):=kJ (by decide) (by decide) (Nat.lt_of_lt_of_le (show x.natAbs<10^10 by omega) (by decide))
  have e2:fm (.int 31) (nI i)=some (.int (31*i)):=ij (Nat.lt_of_lt_of_le (show(31:Int).natAbs<10^10 by decide) (by decide)) (Nat.lt_of_lt_of_le (show(i:Int).natAbs<10^10 by omega) (by decide))
  have e3: ∀i:Int,bj (.int i) (.int 2147483647)=some (.int (i % 2147483647)):=λi=>dc (by decide)
  have e4: ∀i:Int,bj (.int i) (.int 2147483629)=some (.int (i % 2147483629)):=λi=>dc (by decide)
  obtain⟨y1,y2⟩:=dq (i:=x^5+ns[i] % 2147483629+31*i) (m:=2147483647) (by decide)
  obtain⟨x',s4',g1,g2,g3⟩:=sn ns k c l (λj hj=>hl j (by simp[hj])) _ (.v (nI i)) y1 y2
  refine⟨x',s4',g1,g2,?_⟩
  rw[<-g3];simp[cF,gN,aQ,ak,ah,aA,e1,e2,e3,e4,aP,rJ,jH (show i<(ns.map D.int).length by simpa using hi),jH hi,hi,js]
theorem EQ(ns:List Int)(k:Nat)(hk:k<=1000)(hn:ns.length<=63): ∃a b,zD [lz ns,nI k]=some (.lst (aG a b))/\Bag 1 a b:=by
 obtain⟨c,hc⟩:=Br ns k
 have p1:eZ (.int 10) (.int 60)=some (.int (10^60)):=kJ (by decide) (by decide) (by decide)
 have p2:eZ (.int 10) (.int 18)=some (.int (10^18)):=kJ (by decide) (by decide) (by decide)
 have q60:((10:Int)^60).natAbs<10^200:=by decide
 have q120:((10:Int)^60*10^60).natAbs<10^200:=by decide
 have m1:fm (.int (10^60)) (.int (10^60))=some (.int (10^60*10^60)):=ij q60 q60
 have m2:fm (.int (10^60*10^60)) (.int (10^60))=some (.int (10^60*10^60*10^60)):=ij q120 q60
 have m3:fm (.int 7919) (nI k)=some (.int (7919*k)):=ij (Nat.lt_of_lt_of_le (show(7919:Int).natAbs<10^10 by decide) (by decide)) (Nat.lt_of_lt_of_le (show(k:Int).natAbs<10^10 by omega) (by decide))
 generalize hA:(if c<0 then -c else c) % (10^60*10^60*10^60)=A
 have hA':0<=A/\A<10^60*10^60*10^60:=by rw[<-hA];exact dq (by decide)
 have s1:aQ 2 (ak bj (ao tm (aa (ao (nF 2 gO) (aa (ah 0) (aa (ah 1) (ai)))) (ai))) (ak fm (ak fm (ak eZ (aA (.int 10)) (aA (.int 60))) (ak eZ (aA (.int 10)) (aA (.int 60)))) (ak eZ (aA (.int 10)) (aA (.int 60))))) [.v (lz ns),.v (nI k),.no,.no,.no]=.nx [.v (lz ns),.v (nI k),.v (.int A),.no,.no]:=by
  have m4: ∀i:Int,bj (.int i) (.int (10^60*10^60*10^60))=some (.int (i % (10^60*10^60*10^60))):=λi=>dc (by decide)
  unfold aQ;have:ak bj (ao tm (aa (ao (nF 2 gO) (aa (ah 0) (aa (ah 1) (ai)))) (ai))) (ak fm (ak fm (ak eZ (aA (.int 10)) (aA (.int 60))) (ak eZ (aA (.int 10)) (aA (.int 60)))) (ak eZ (aA (.int 10)) (aA (.int 60)))) [.v (lz ns),.v (nI k),.no,.no,.no]=some (.int A):=by
   have ec:ao (nF 2 gO) (aa (ah 0) (aa (ah 1) ai)) [.v (lz ns),.v (nI k),.no,.no,.no]=some (.int c):=hc
   simp only[ak,ao,aa,ai,aA,Option.bind_some,p1,m1,m2,tm];have ec':((ah 0 [.v (lz ns),.v (nI k),.no,.no,.no]).bind λd=>((ah 1 [.v (lz ns),.v (nI k),.no,.no,.no]).bind λd=>(some []).map λr=>d::r).map λr=>d::r).bind (nF 2 gO)=some (.int c):=hc
   rw[ec'];simp only[Option.bind_some,Option.map_some,m4,tm,hA]
  rw[this];rfl
 have r0:ii 5 [lz ns,nI k]=[.v (lz ns),.v (nI k),.no,.no,.no]:=rfl
 unfold zD gE zE;rw[r0,ay s1];have hA180:A.natAbs<10^180:=by
  have:(10:Int)^60*10^60*10^60=((10^180:Nat):Int):=by decide
  rw[this] at hA';omega
 by_cases hb:(10:Int)^18<=A
 ·refine⟨A,0,?_,⟨hA'.1,hA180,by decide,by decide,λz=>absurd rfl z⟩⟩
  simp only[aB,cM,bc,ak,ah,List.getElem?_cons_succ,List.getElem?_cons_zero,Option.bind_some,aA,p2,qH,xG,decide_eq_true hb,aY,lF,aa,ai,Option.map_some];rw[eP (by simp)]
 ·generalize hx:(A+7919*(k:Int)+17) % 2147483647=x
  have hx':0<=x/\x<2147483647:=by rw[<-hx];exact dq (by decide)
  have m4:bj (.int (A+7919*(k:Int)+17)) (.int 2147483647)=some (.int x):=by rw[dc (by decide),hx]
  have hr:cN (aa (ao kf (aa (ao cV (aa (ah 0) (ai))) (aa (aA (.int 9)) (ai)))) (ai)) [.v (lz ns),.v (nI k),.v (.int A),.v (.int x),.no]=some ((List.range (min ns.length 9)).map nI):=by
   rw[sq];simp only[ao,aa,ai,ah,aA,List.getElem?_cons_zero,Option.bind_some,Option.map_some,cV,kf,List.length_map];have:(if(9:Int)<(ns.length:Int) then(9:Int) else(ns.length:Int))=((min ns.length 9:Nat):Int):=by split<;>omega
   rw[this,sy (by omega),AY,Int.toNat_natCast]
  obtain⟨x',s4',g1,g2,g3⟩:=sn ns (nI k) (.int A) (List.range (min ns.length 9)) (λi hi=>by have:=List.mem_range.mp hi;omega) x .no hx'.1 hx'.2
  refine⟨x',1,?_,⟨g1,Nat.lt_of_lt_of_le (show x'.natAbs<10^10 by omega) (by decide),by decide,by decide,λ_=>by omega⟩⟩
  have f1:dn (bL (cN (aa (ao kf (aa (ao cV (aa (ah 0) (ai))) (aa (aA (.int 9)) (ai)))) (ai)))) (gN 4) (aQ 3 (ak bj (ak aS (ak aS (ak eZ (ah 3) (aA (.int 5))) (ak bj (ak aP (ah 0) (ah 4)) (aA (.int 2147483629)))) (ak fm (aA (.int 31)) (ah 4))) (aA (.int 2147483647)))) [.v (lz ns),.v (nI k),.v (.int A),.v (.int x),.no]=.nx [.v (lz ns),.v (nI k),.v (.int A),.v (.int x'),s4']:=by
   unfold dn bL;rw[hr];exact g3
  have i1:cM (bc (ak Az (ah 2) (ak eZ (aA (.int 10)) (aA (.int 18))))) (aY (cg (aa (ah 2) (aa (aA (.int 0)) (ai))))) (skip) [.v (lz ns),.v (nI k),.v (.int A),.no,.no]=.nx [.v (lz ns),.v (nI k),.v (.int A),.no,.no]:=by
   simp only[cM,bc,ak,ah,List.getElem?_cons_succ,List.getElem?_cons_zero,Option.bind_some,aA,p2,qH,xG,decide_eq_false hb,skip]
  have i2:aQ 3 (ak bj (ak aS (ak aS (ah 2) (ak fm (aA (.int 7919)) (ah 1))) (aA (.int 17))) (aA (.int 2147483647))) [.v (lz ns),.v (nI k),.v (.int A),.no,.no]=.nx [.v (lz ns),.v (nI k),.v (.int A),.v (.int x),.no]:=by
   simp only[aQ,ak,ah,List.getElem?_cons_succ,List.getElem?_cons_zero,Option.bind_some,aA,m3,js,m4,List.set_cons_succ,List.set_cons_zero]
  rw[ay i1,ay i2,ay f1];simp only[aY,lF,aa,ai,ah,aA,List.getElem?_cons_succ,List.getElem?_cons_zero,Option.bind_some,Option.map_some];rw[eP (by simp)]
theorem cP {i n:Nat}{M:List D->List D->Option (D×List D)}{fs:GA}{ρ ρ1:aF}{b0 bs ds bs':List D}{d:D}(h0:iI i ρ=some b0)(h1:fs ρ=some (ds,ρ1))(h2:iI i ρ1=some bs)(h3:ds.length=n)(h4:M bs ds=some (d,bs')):aN i n M fs ρ=some (d,g6 i bs' ρ1):=by
 unfold aN;rw[h0];dsimp only;rw[h1];dsimp only;rw[h2];dsimp only;rw[if_pos h3,h4]
theorem fN {f:GE}{fs:GA}{ρ ρ1 ρ2:aF}{d:D}{ds:List D}(h1:f ρ=some (d,ρ1))(h2:fs ρ1=some (ds,ρ2)):da f fs ρ=some (d::ds,ρ2):=by
 unfold da bE;rw[h1];dsimp only[Option.bind];rw[h2];rfl
theorem br {f:FA}{ρ:aF}{ds:List D}(h:f ρ=some ds):bL f ρ=some (ds,ρ):=by unfold bL;rw[h];rfl
theorem gb {f:FE}{ρ:aF}{d:D}(h:f ρ=some d):pu f ρ=some (d,ρ):=by unfold pu;rw[h];rfl
theorem pI {α β:Type}(f:α->β): ∀(l:List α) (j:Nat),(l.map f).eraseIdx j=(l.eraseIdx j).map f
 | [],_=>rfl
 |_::_,0=>rfl
 |x::l,j+1=>by simp[pI f l j]
theorem og {α:Type}: ∀(l:List α) (j:Nat) (h:j<l.length),(l[j]::l.eraseIdx j).Perm l
 |_::_,0,_=>.refl _
 |x::l,j+1,h=>by
  have ih:=og l j (by simpa using h)
  exact(List.Perm.swap _ _ _).trans (ih.cons x)
theorem lL: ∀r:List Nat,dP (r.map nI)=0
 | []=>by simp[dP]
 |a::r=>by
  rw[List.map_cons];unfold dP;rw[lL r];simp[fw]
theorem s0(r:List Nat):fw (.lst (r.map nI))<=32:=by unfold fw;rw[lL];omega
abbrev Ir:FS->Nat->FS:=λb n=>yc (bc (ak lu (cU 2) (cg (ai)))) b n
abbrev pQ:FS:=ca (aN 3 1 gG (da (aN 2 1 o7 (da (aN 0 1 gM (bL (aa (ao cV (aa (cU 2) (ai))) (ai)))) (bL (ai)))) (bL (ai))))
theorem FD(n:D)(bg:List D)(left found:List Nat):bc (ak lu (cU 2) (cg (ai))) [.arg bg,.v n,.own (left.map nI),.own (found.map nI)]=some (!left.isEmpty):=by
 have h0:cg ai [.arg bg,.v n,.own (left.map nI),.own (found.map nI)]=some (.lst []):=by
  rw[lF];simp only[ai,Option.bind_some];exact eP (by simp)
 unfold bc ak;rw[h0];simp only[cU,List.getElem?_cons_succ,List.getElem?_cons_zero,Option.bind_some];rw[kn (s0 left)];cases left with
 |nil=>simp[xG,eJ,cX]
 |cons x r=>simp[xG,eJ,cX]
theorem yB(n:D){N:Nat}{a b:Int}(B:Bag N a b)(hN:N<=1000000000)(left found:List Nat)(h0:0<left.length)(h1:left.length<=100)(h2:found.length<=100):
 ∃(j:Nat) (hj:j<left.length) (a' b':Int),pQ [.arg (aG a b),.v n,.own (left.map nI),.own (found.map nI)]=.nx [.arg (aG a' b'),.v n,.own ((left.eraseIdx j).map nI),.own ((found++[left[j]]).map nI)]/\Bag (N+1) a' b':=by
 obtain⟨d,a',b',e,B',d0,d1⟩:=lg (m:=left.length) B hN (by omega) (Nat.lt_of_lt_of_le (show(left.length:Int).natAbs<10^10 by omega) (by decide))
 obtain⟨j,rfl⟩: ∃j:Nat,d=(j:Int):=⟨d.toNat,by omega⟩
 have hj:j<left.length:=by omega
 refine⟨j,hj,a',b',?_,B'⟩
 have e2:o7 (left.map nI) [.int (j:Int)]=some (nI left[j],(left.eraseIdx j).map nI):=by
  rw[BY,eP (by simp;omega)]
  simp only[Option.bind_some];rw[jH (by simpa using hj)]
  simp[hj,pI]
 have e3:gG (found.map nI) [nI left[j]]=some (.non,(found++[left[j]]).map nI):=by
  rw[wz,pF (by simp;omega)];simp
 have g:aN 0 1 gM (bL (aa (ao cV (aa (cU 2) (ai))) (ai))) [.arg (aG a b),.v n,.own (left.map nI),.own (found.map nI)]=some (nI j,[.arg (aG a' b'),.v n,.own (left.map nI),.own (found.map nI)]):=by
  simp[aN,iI,bL,aa,ao,cU,ai,cV,e,g6]
 have g2:aN 2 1 o7 (da (aN 0 1 gM (bL (aa (ao cV (aa (cU 2) (ai))) (ai)))) (bL (ai))) [.arg (aG a b),.v n,.own (left.map nI),.own (found.map nI)]=some (nI left[j],[.arg (aG a' b'),.v n,.own ((left.eraseIdx j).map nI),.own (found.map nI)]):=by
  refine(cP (i:=2) (n:=1) (b0:=left.map nI) (ds:=[nI j]) (ρ1:=[.arg (aG a' b'),.v n,.own (left.map nI),.own (found.map nI)]) rfl (fN g rfl) rfl rfl e2).trans rfl
 have g3:aN 3 1 gG (da (aN 2 1 o7 (da (aN 0 1 gM (bL (aa (ao cV (aa (cU 2) (ai))) (ai)))) (bL (ai)))) (bL (ai))) [.arg (aG a b),.v n,.own (left.map nI),.own (found.map nI)]=some (.non,[.arg (aG a' b'),.v n,.own ((left.eraseIdx j).map nI),.own ((found++[left[j]]).map nI)]):=by
  refine(cP (i:=3) (n:=1) (b0:=found.map nI) (ds:=[nI left[j]]) (ρ1:=[.arg (aG a' b'),.v n,.own ((left.eraseIdx j).map nI),.own (found.map nI)]) rfl (fN g2 rfl) rfl rfl e3).trans rfl
 unfold pQ ca;rw[g3]
theorem Dc(n:D): ∀(f:Nat) (left found:List Nat) (N:Nat) (a b:Int),left.length<f->left.length<=50->found.length+left.length<=100->Bag N a b->N+left.length<=1000000000->
 ∃(o:List Nat) (a' b':Int),Ir pQ f [.arg (aG a b),.v n,.own (left.map nI),.own (found.map nI)]=.nx [.arg (aG a' b'),.v n,.own [],.own ((found++o).map nI)]/\o.Perm left/\Bag (N+left.length) a' b'
 |0,left,found,N,a,b,h,_,_,_,_=>absurd h (Nat.not_lt_zero _)
 |f+1,left,found,N,a,b,h,h1,h2,B,hN=>by
  unfold Ir yc;rw[FD];cases e:left.isEmpty with
  |true=>
   have:left=[]:=by simpa using e
   subst this;exact⟨[],a,b,by simp,.refl _,by simpa using B⟩
  |false=>
   have h0:0<left.length:=by cases left with
    |nil=>cases e
    |cons x r=>simp
   obtain⟨j,hj,a1,b1,e1,B1⟩:=yB n B (by omega) left found h0 (by omega) (by omega)
   have hl:(left.eraseIdx j).length=left.length-1:=by rw[List.length_eraseIdx];simp[hj]
   obtain⟨o,a2,b2,e2,p,B2⟩:=Dc n f (left.eraseIdx j) (found++[left[j]]) (N+1) a1 b1 (by omega) (by omega) (by simp;omega) B1 (by omega)
   refine⟨left[j]::o,a2,b2,?_,?_,?_⟩
   ·simp only[Bool.not_false]
    rw[e1];dsimp only;have:yc (bc (ak lu (cU 2) (cg ai))) pQ f=Ir pQ f:=rfl
    rw[this,e2];simp
   ·exact(p.cons _).trans (og left j hj)
   ·rw[show N+left.length=N+1+(left.eraseIdx j).length by omega];exact B2
structure Ord(n:Nat)(r:List Nat):Prop where
 perm:r.Perm (List.range n)
theorem Ord.len {n:Nat}{r:List Nat}(o:Ord n r):r.length=n:=by rw[o.perm.length_eq];simp
theorem Ord.lt {n:Nat}{r:List Nat}(o:Ord n r){v:Nat}(h:v∈r):v<n:=by simpa using o.perm.mem_iff.mp h
theorem Ord.nd {n:Nat}{r:List Nat}(o:Ord n r):r.Nodup:=o.perm.nodup_iff.mpr List.nodup_range
theorem Fv {n:Nat}(h:n<=1000)(f:FE)(ρ:aF)(e:f ρ=some (nI n)):ET f ρ=some (.lst ((List.range n).map nI)):=by
 unfold ET CS;rw[e];simp only[Option.bind_some];rw[if_pos (by omega),AY];rfl
theorem nY {N:Nat}{a b:Int}(B:Bag N a b){n:Nat}(hn:n<=12)(hN:N<=900000000): ∃(o:List Nat) (a' b':Int),tz (aG a b) [nI n]=some (.lst (o.map nI),aG a' b')/\Ord n o/\Bag (N+n) a' b':=by
 obtain⟨o,a',b',e,p,B'⟩:=Dc (nI n) 16 (List.range n) [] N a b (by simp;omega) (by simp;omega) (by simp;omega) B (by simp;omega)
 refine⟨o,a',b',?_,⟨p⟩,by simpa using B'⟩
 have r0:nW 4 (aG a b) [nI n]=[.arg (aG a b),.v (nI n),.no,.no]:=rfl
 have s1:fX 2 (ET (ah 1)) [.arg (aG a b),.v (nI n),.no,.no]=.nx [.arg (aG a b),.v (nI n),.own ((List.range n).map nI),.no]:=by
  unfold fX;rw[Fv (n:=n) (by omega) (ah 1) _ rfl]
  rfl
 have s2:fX 3 (cg (ai)) [.arg (aG a b),.v (nI n),.own ((List.range n).map nI),.no]=.nx [.arg (aG a b),.v (nI n),.own ((List.range n).map nI),.own []]:=by
  unfold fX;rw[lF];simp only[ai,Option.bind_some];rw[eP (by simp)]
  rfl
 unfold tz uZ sS;rw[r0,ay s1,ay s2];have e':yc (bc (ak lu (cU 2) (cg (ai)))) pQ 16 [.arg (aG a b),.v (nI n),.own ((List.range n).map nI),.own []]=.nx [.arg (aG a' b'),.v (nI n),.own [],.own (o.map nI)]:=e
 rw[ay e'];simp[ya,yq,n9]
theorem ar {F:D->D->Option D}{f g:FE}{ρ:aF}{x y:D}(h1:f ρ=some x)(h2:g ρ=some y):ak F f g ρ=F x y:=by unfold ak;rw[h1,Option.bind_some,h2,Option.bind_some]
theorem BP {F:D->D->Option D}{f g:GE}{ρ ρ1 ρ2:aF}{x y d:D}(h1:f ρ=some (x,ρ1))(h2:g ρ1=some (y,ρ2))(h3:F x y=some d):ue F f g ρ=some (d,ρ2):=by
 unfold ue bE;rw[h1];dsimp only[Option.bind];rw[h2];dsimp only[Option.bind];rw[h3];rfl
theorem aV {i:Nat}{f:FE}{ρ:aF}{d:D}(h:f ρ=some d):aQ i f ρ=.nx (ρ.set i (.v d)):=by unfold aQ;rw[h]
theorem jX {i:Nat}{f:GE}{ρ ρ1:aF}{d:D}(h:f ρ=some (d,ρ1)):jc i f ρ=.nx (ρ1.set i (.v d)):=by unfold jc;rw[h]
theorem Bm {i:Nat}{f:GE}{ρ ρ1:aF}{ds:List D}(h:f ρ=some (.lst ds,ρ1)):zu i f ρ=.nx (ρ1.set i (.own ds)):=by unfold zu;rw[h];rfl
theorem iJ {i:Nat}{f:FE}{ρ:aF}{ds:List D}(h:f ρ=some (.lst ds)):fX i f ρ=.nx (ρ.set i (.own ds)):=by unfold fX;rw[h];rfl
theorem cI {f:FA}{ρ:aF}{ds:List D}(h:f ρ=some ds)(h2:ds.length<=1000):cw f ρ=some (.tup ds):=by
 rw[CT,h,Option.bind_some,eP h2]
theorem dM {f:FA}{ρ:aF}{ds:List D}(h:f ρ=some ds)(h2:ds.length<=1000):cg f ρ=some (.lst ds):=by
 rw[lF,h,Option.bind_some,eP h2]
theorem av {f:FE}{fs:FA}{ρ:aF}{d:D}{ds:List D}(h1:f ρ=some d)(h2:fs ρ=some ds):aa f fs ρ=some (d::ds):=by unfold aa;rw[h1,h2];rfl
theorem bU {F:List D->Option D}{f:FA}{ρ:aF}{ds:List D}(h:f ρ=some ds):ao F f ρ=F ds:=by unfold ao;rw[h];rfl
theorem Dq {r:List Nat}{c:Nat}(h:c<r.length):rJ (r.map nI) (c:Int)=some (nI (r.getD c 0)):=qO (by rw[List.getElem?_map,List.getElem?_eq_getElem h];simp[List.getD,h])
theorem Av {r:List Nat}{c:Nat}(h:c<r.length):aP (.lst (r.map nI)) (nI c)=some (nI (r.getD c 0)):=Dq h
theorem cA {r:List Nat}{c:Nat}(h:c<r.length):aP (.tup (r.map nI)) (nI c)=some (nI (r.getD c 0)):=Dq h
theorem ji(a b:Nat):eJ (nI a) (nI b)=decide (a=b):=by
 rw[jQ];rw[Bool.eq_iff_iff];simp;omega
theorem Am(a b:Nat):aS (nI a) (nI b)=some (nI (a+b)):=by rw[js];simp
theorem lM(a:Nat):aS (nI a) (.int 1)=some (nI (a+1)):=by rw[js];simp
theorem AM {a n:Nat}(h:0<n):bj (nI a) (nI n)=some (nI (a % n)):=by rw[dc (by omega)];rfl
theorem iu {i:Nat}{fi:FE}{d:D}{ρ:aF}{bs:List D}{j:Nat}(h1:iI i ρ=some bs)(h2:fi ρ=some (nI j))(h3:j<bs.length):bX i fi d ρ=some (g6 i (bs.set j d) ρ):=by
 unfold bX;rw[h1];dsimp only;rw[h2];dsimp only;rw[jH h3]
theorem kT(x:List Nat)(j v:Nat):(x.map nI).set j (nI v)=(x.set j v).map nI:=by rw[List.map_set]
theorem D6 {x:List Nat}(h:x.Nodup){i j:Nat}(hi:i<x.length)(hj:j<x.length)(e:x.getD i 0=x.getD j 0):i=j:=by
 have:x[i]=x[j]:=by simpa [List.getD,hi,hj] using e
 exact(List.getElem_inj h).mp this
theorem mr {α:Type}{g:FG}{f:FE}{ρ0:aF}{h o:α->D}: ∀(l:List α),(∀i∈l,∃ρ1,g (h i) ρ0=some ρ1/\f ρ1=some (o i))->dB g fq f ρ0 (l.map h)=some (l.map o)
 | [],_=>rfl
 |a::l,H=>by
  obtain⟨ρ1,h1,h2⟩:=H a (by simp)
  have ih:=mr l λi hi=>H i (by simp[hi])
  rw[List.map_cons];unfold dB;rw[h1,Option.bind_some];simp only[fq,Option.bind_some,if_true,h2,ih];rfl
theorem gt {m:Nat}{gi:FA}{g:FG}{p:FT}{f:FE}{ρ:aF}{ds ys:List D}(h1:gi ρ=some ds)(h2:ds.length<=1000)(h3:dB g p f (ρ++List.replicate m .no) ds=some ys):cx m gi g p f ρ=some (.lst ys):=by
 rw[yL,h1,Option.bind_some,eP h2,Option.bind_some,h3];rfl
abbrev ax(r:List Nat):D:=.tup (r.map nI)
abbrev fJ(r x:List Nat):D:=.tup [ax r,ax x]
theorem fP {f:FA}{ρ:aF}{n:Nat}(h:f ρ=some [nI n])(hn:n<=1000):cN f ρ=some ((List.range n).map nI):=by
 rw[sq,h,Option.bind_some,sy (by omega),AY];rfl
theorem IV {j:Int}(h:0<=j):D.int j=nI j.toNat:=by show D.int j=D.int (j.toNat:Int);rw[Int.toNat_of_nonneg h]
theorem Dr {n:Nat}{P:List D->Option D}{ds:List D}(h:ds.length=n):nF n P ds=P ds:=if_pos h
theorem fU {g:FG}{f:GE}{ρ ρ1 ρ2:aF}{d:D}(h1:f ρ=some (d,ρ1))(h2:g d ρ1=some ρ2):cv g f ρ=.nx ρ2:=by unfold cv;rw[h1];dsimp only;rw[h2];rfl
theorem bQ {n:Nat}{P:List D->Option D}{fs:FA}{ρ:aF}{ds:List D}(h:fs ρ=some ds)(hl:ds.length=n):ao (nF n P) fs ρ=P ds:=(bU h).trans (Dr hl)
theorem nJ {F:List D->Option D}{fs:GA}{ρ ρ1:aF}{ds:List D}{d:D}(h:fs ρ=some (ds,ρ1))(h2:F ds=some d):gq F fs ρ=some (d,ρ1):=by unfold gq;rw[h];dsimp only[Option.bind];rw[h2];rfl
theorem D2 {n:Nat}{P:List D->Option D}{fs:GA}{ρ ρ1:aF}{ds:List D}{d:D}(h:fs ρ=some (ds,ρ1))(hl:ds.length=n)(h2:P ds=some d):gq (nF n P) fs ρ=some (d,ρ1):=nJ h ((Dr hl).trans h2)
theorem bZ {kd:Kd}{n:Nat}{t:FS}{ds:List D}{ρ:aF}{d:D}(h:t (ii n ds)=.rt d ρ):gE kd n t ds=some d:=by unfold gE;rw[h]
theorem bC {f:FE}{ρ:aF}{d:D}(h:f ρ=some d):aY f ρ=.rt d ρ:=by unfold aY;rw[h]
theorem Db {ks:List (List Int)}(h:ks.length<64)(hk: ∀k∈ks,k≠[]):eB [.lst (ks.map cW)]=some (.lst ((bR cm ks).map cW)):=by
 show(gS (ks.map cW)).map D.lst=_;unfold gS;rw[if_pos (by simpa using h)]
 cases ks with
 |nil=>rfl
 |cons k ks=>
  rw[xO];dsimp only;rw[r9 hk];rfl
theorem qF: ∀bs:List Bool,iy (bs.map D.bl)=some bs
 | []=>rfl
 |b::r=>by show(iy (r.map D.bl)).map (b:: ·)=_;rw[qF r];rfl
theorem vH(bs:List Bool):xn [.lst (bs.map D.bl)]=some (.bl (bs.any id)):=by
 show(iy (bs.map D.bl)).map (λbs=>D.bl (bs.any id))=_
 rw[qF];rfl
theorem Cv(bs:List Bool):A3 [.lst (bs.map D.bl)]=some (.bl (bs.all id)):=by
 show(iy (bs.map D.bl)).map (λbs=>D.bl (bs.all id))=_
 rw[qF];rfl
theorem j7 {p:FT}{t u:FS}{ρ:aF}(h:p ρ=some false):cM p t u ρ=u ρ:=by unfold cM;rw[h]
theorem du {p:FT}{t u:FS}{ρ:aF}(h:p ρ=some true):cM p t u ρ=t ρ:=by unfold cM;rw[h]
theorem Gk {p:GT}{t u:FS}{ρ ρ1:aF}(h:p ρ=some (false,ρ1)):Fn p t u ρ=u ρ1:=by unfold Fn;rw[h]
theorem Cb {p:GT}{ρ ρ1:aF}{b:Bool}(h:p ρ=some (b,ρ1)):zh p ρ=some (!b,ρ1):=by unfold zh;rw[h];rfl
theorem CD {f:GE}{ρ ρ1:aF}{b:Bool}(h:f ρ=some (.bl b,ρ1)):yP f ρ=some (b,ρ1):=by unfold yP;rw[h];rfl
theorem n8 {p q:FT}{ρ:aF}{b:Bool}(h1:p ρ=some false)(h2:q ρ=some b):rC p q ρ=some b:=by unfold rC;rw[h1];exact h2
theorem Dm {p q:FT}{ρ:aF}(h1:p ρ=some true):rC p q ρ=some true:=by unfold rC;rw[h1];rfl
theorem vp {p q:FT}{ρ:aF}{b:Bool}(h1:p ρ=some true)(h2:q ρ=some b):ft p q ρ=some b:=by unfold ft;rw[h1];exact h2
theorem Fd {p q:FT}{ρ:aF}(h1:p ρ=some false):ft p q ρ=some false:=by unfold ft;rw[h1];rfl
theorem nn {p q:FT}{ρ:aF}{a b:Bool}(h1:p ρ=some a)(h2:a=true->q ρ=some b)(h3:a=false->b=false):ft p q ρ=some b:=by
 cases a with
 |true=>exact vp h1 (h2 rfl)
 |false=>rw[h3 rfl];exact Fd h1
theorem ko {p:FT}{ρ:aF}{b:Bool}(h:p ρ=some b):rL p ρ=some (.bl b):=by unfold rL;rw[h];rfl
theorem yJ {f:GE}{ρ ρ1:aF}{d:D}(h:f ρ=some (d,ρ1)):ca f ρ=.nx ρ1:=by unfold ca;rw[h]
theorem bn {f:FE}{ρ:aF}{b:Bool}(h:f ρ=some (.bl b)):bc f ρ=some b:=by unfold bc;rw[h];rfl
theorem fT {f:FE}{ρ:aF}{b:Bool}(h:f ρ=some (.bl b)):dI f ρ=some b:=by unfold dI;rw[h];rfl
theorem iN {p:FT}{ρ:aF}{b:Bool}(h:p ρ=some b):gH p ρ=some (!b):=by unfold gH;rw[h];rfl
theorem CP {x:D}(h:fw x<=32):lu x x=some (.bl false):=by rw[kn h,kW];rfl
theorem v8 {x:D}(h:fw x<=32):kj x x=some (.bl true):=by rw[mK h,kW]
theorem cb {g:FG}{b:FS}{d:D}{r:List D}{ρ ρ1 ρ2:aF}(h1:g d ρ=some ρ1)(h2:b ρ1=.nx ρ2):cF g b (d::r) ρ=cF g b r ρ2:=by
 show(match g d ρ with
  |none=>Out.no
  |some ρ1=>match b ρ1 with
   | .nx ρ2=>cF g b r ρ2
   | .ct ρ2=>cF g b r ρ2
   | .bk ρ2=>.nx ρ2
   | .rt d ρ2=>.rt d ρ2
   | .no=>.no)=_
 rw[h1];dsimp only;rw[h2]
theorem cK {f:GA}{g:FG}{b:FS}{ρ ρ1:aF}{ds:List D}(h:f ρ=some (ds,ρ1)):dn f g b ρ=cF g b ds ρ1:=by unfold dn;rw[h]
theorem Bd {f:FE}{ρ:aF}{ds:List D}(h:f ρ=some (.lst ds)):nl f ρ=some ds:=by unfold nl;rw[h];rfl
theorem jw {kd:Kd}{n:Nat}{t:FS}{ds:List D}{d:D}(h: ∃ρ,t (ii n ds)=.rt d ρ):gE kd n t ds=some d:=let⟨_,h⟩:=h;bZ h
theorem DM {t u:FS}{ρ:aF}{d:D}(P:aF->Prop)(h: ∃ρ',t ρ=.nx ρ'/\P ρ')(hu: ∀ρ',P ρ'-> ∃ρ'',u ρ'=.rt d ρ''): ∃ρ'',aB t u ρ=.rt d ρ'':=by
 obtain⟨ρ',h1,h2⟩:=h
 obtain⟨ρ'',h3⟩:=hu ρ' h2
 exact⟨ρ'',(ay h1).trans h3⟩
theorem Bg {f:GA}{g:FG}{b:FS}{ρ ρ1:aF}{ds:List D}{P:aF->Prop}(h:f ρ=some (ds,ρ1))(hl: ∃ρ',cF g b ds ρ1=.nx ρ'/\P ρ'): ∃ρ',dn f g b ρ=.nx ρ'/\P ρ':=by
 obtain⟨ρ',h1,h2⟩:=hl
 exact⟨ρ',(cK h).trans h1,h2⟩
theorem wm {g:FG}{b:FS}{P:aF->Prop}: ∀(l:List D),(∀d∈l,∀ρ,P ρ-> ∃ρ1 ρ2,g d ρ=some ρ1/\b ρ1=.nx ρ2/\P ρ2)-> ∀ρ,P ρ-> ∃ρ',cF g b l ρ=.nx ρ'/\P ρ'
 | [],_,ρ,p=>⟨ρ,rfl,p⟩
 |d::l,h,ρ,p=>by
  obtain⟨ρ1,ρ2,h1,h2,p2⟩:=h d (by simp) ρ p
  obtain⟨ρ',e,p'⟩:=wm l (λd' hd=>h d' (by simp[hd])) ρ2 p2
  exact⟨ρ',(cb h1 h2).trans e,p'⟩
theorem Ba(i:Int){n:Nat}(h:0<n):(i % (n:Int)).toNat<n/\(((i % (n:Int)).toNat:Nat):Int)=i % n:=by
 have:=dq (i:=i) (m:=n) (by omega)
 omega
theorem oG {i:Nat}{fs:GA}{ρ ρ1:aF}{b0 bs:List D}{d:D}(h0:iI i ρ=some b0)(h1:fs ρ=some ([d],ρ1))(h2:iI i ρ1=some bs)(h3:bs.length<=900):ca (aN i 1 gG fs) ρ=.nx (g6 i (bs++[d]) ρ1):=
 yJ (cP h0 h1 h2 rfl (by rw[wz,pF (by omega)]))
theorem gm {α:Type}{g:FG}{p:FT}{f:FE}{ρ0:aF}{h o:α->D}{q:α->Bool}: ∀(l:List α),(∀i∈l,∃ρ1,g (h i) ρ0=some ρ1/\p ρ1=some (q i)/\(q i=true->f ρ1=some (o i)))->dB g p f ρ0 (l.map h)=some ((l.filter q).map o)
 | [],_=>rfl
 |a::l,H=>by
  obtain⟨ρ1,h1,h2,h3⟩:=H a (by simp)
  have ih:=gm l λi hi=>H i (by simp[hi])
  rw[List.map_cons];unfold dB;rw[h1,Option.bind_some,h2,Option.bind_some];cases e:q a with
  |true=>rw[if_pos rfl,h3 e,Option.bind_some,ih];simp[e]
  |false=>rw[if_neg (by simp),ih];simp[e]
theorem lG {α:Type}{g:FG}{p:FT}{A:FA}{ρ0:aF}{h:α->D}{q:α->Bool}{o:α->List D}: ∀(l:List α),(∀i∈l,∃ρ1,g (h i) ρ0=some ρ1/\p ρ1=some (q i)/\(q i=true->A ρ1=some (o i)))->oC g p A ρ0 (l.map h)=some ((l.filter q).flatMap o)
 | [],_=>rfl
 |a::l,H=>by
  obtain⟨ρ1,h1,h2,h3⟩:=H a (by simp)
  have ih:=lG l λi hi=>H i (by simp[hi])
  rw[List.map_cons];unfold oC;rw[h1,Option.bind_some,h2,Option.bind_some];cases e:q a with
  |true=>rw[if_pos rfl,h3 e,Option.bind_some,ih];simp[e]
  |false=>rw[if_neg (by simp),ih];simp[e]
theorem wo {f:FE}{ρ:aF}{d:D}(h:f ρ=some d):sO f ρ=some [d]:=by unfold sO;rw[h];rfl
theorem vZ {m:Nat}{gi1 gi2:FA}{g1 g2:FG}{p1 p2:FT}{f:FE}{ρ:aF}{ds ys:List D}(h1:gi1 ρ=some ds)(h2:oC g1 p1 (A8 gi2 g2 p2 f) (ρ++List.replicate m .no) ds=some ys)(h3:ys.length<=1000):o6 m gi1 g1 p1 gi2 g2 p2 f ρ=some (.lst ys):=by
 unfold o6;rw[h1,Option.bind_some,h2,Option.bind_some,if_pos (Nat.le_of_lt (lV h3))]
theorem zN {gi:FA}{g:FG}{p:FT}{f:FE}{ρ:aF}{ds ys:List D}(h1:gi ρ=some ds)(h2:oC g p (sO f) ρ ds=some ys):A8 gi g p f ρ=some ys:=by
 unfold A8;rw[h1,Option.bind_some,h2]
theorem yF(r:List Nat)(ρ:aF)(f:FE)(h:f ρ=some (.lst (r.map nI))):ao cV (aa f ai) ρ=some (nI r.length):=by
 rw[bU (av h rfl)];show some (D.int ((r.map nI).length:Int))=_;rw[List.length_map]
theorem gw(r:List Nat)(ρ:aF)(f:FE)(h:f ρ=some (ax r)):ao cV (aa f ai) ρ=some (nI r.length):=by
 rw[bU (av h rfl)];show some (D.int ((r.map nI).length:Int))=_;rw[List.length_map]
theorem xW(a b:Nat):eT (nI a) (nI b)=some (.int ((a:Int) -b)):=jv _ _
theorem zW {i:Int}{n:Nat}(h:0<n):bj (.int i) (nI n)=some (nI (i % n).toNat):=by
 rw[dc (by omega),IV (dq (i:=i) (m:=n) (by omega)).1]
theorem zw(L:List Nat)(c:Nat):(L.map nI).any (λd=>eJ d (nI c))=decide (c∈L):=by
 induction L with
 |nil=>simp
 |cons a L ih=>
  rw[List.map_cons,List.any_cons,ih,ji,Bool.eq_iff_iff];simp only[Bool.or_eq_true,decide_eq_true_eq,List.mem_cons];exact or_congr_left eq_comm
theorem FR(L:List Nat)(c:Nat):ga false (nI c) (.lst (L.map nI))=some (.bl (decide (c∈L))):=by
 unfold ga km;dsimp only;rw[lL,if_pos (by omega),zw]
 rfl
def eG:FS:=
 aB (fX 3 (ao mT (aa (ah 0) (ai))))
 (aB (cv (gT 2 (eU (bX 3 (ah 1)) (eU (bX 3 (ah 2)) (jI)))) (pu (cw (aa (ak aP (ah 0) (ah 2)) (aa (ak aP (ah 0) (ah 1)) (ai))))))
 (aY (ao gV (aa (cU 3) (ai)))))
def gy:List D->Option D:=gE .s 4 eG
def gC:FS:=
 aY (cx 1 (cN (aa (ak bj (ak eT (ah 2) (ah 1)) (ah 0)) (ai))) (gN 3) (fq) (ak bj (ak aS (ah 1) (ah 3)) (ah 0)))
def gu:List D->Option D:=gE .n 3 gC
def hW:FS:=
 aY (ao (nF 3 gu) (aa (ao cV (aa (ah 0) (ai))) (aa (ah 1) (aa (ah 2) (ai)))))
def j8:List D->Option D:=gE .n 3 hW
def kq:FS:=
 aY (ao (nF 3 gu) (aa (ao cV (aa (ah 0) (ai))) (aa (ak aP (ah 0) (ah 1)) (aa (ak aP (ah 0) (ah 2)) (ai)))))
def ox:List D->Option D:=gE .n 3 kq
def ma:FS:=
 aY (ao (nF 3 gy) (aa (ah 0) (aa (ah 1) (aa (ah 2) (ai)))))
def xX:List D->Option D:=gE .s 3 ma
def kC:FS:=
 aB (aQ 3 (fu (ao (nF 3 j8) (aa (ah 0) (aa (ah 1) (aa (ah 2) (ai))))) (gF (aA (.int 1))) jd))
 (aB (aQ 4 (fu (ao (nF 3 ox) (aa (ah 0) (aa (ah 1) (aa (ah 2) (ai))))) (gF (aA (.int 1))) jd))
 (aY (rL (gH (bc (ao xn (aa (cx 1 (nl (ah 3)) (gN 5) (fq) (ak (ga false) (ak aP (ah 0) (ah 5)) (ah 4))) (ai))))))))
def uw:List D->Option D:=gE .s 5 kC
def dU(n s e:Nat):List Nat:=(List.range (((e:Int) -s) % n).toNat).map λ(i:Nat)=>(s+i) % n
def rH(n s e x:Nat):Bool:=decide (((x:Int) -s) % n<((e:Int) -s) % n)
theorem rB {n:Nat}(h:0<n)(s e:Nat):(dU n s e).length<n:=by
 unfold dU;rw[List.length_map,List.length_range];exact(Ba _ h).1
theorem jN {n:Nat}(h:0<n){s:Nat}(hs:s<n)(e x:Nat):x∈dU n s e↔x<n/\rH n s e x=true:=by
 unfold dU rH;rw[List.mem_map,decide_eq_true_eq];have m:=Ba ((e:Int) -s) h
 constructor
 ·rintro⟨i,hi,rfl⟩
  rw[List.mem_range] at hi;refine⟨Nat.mod_lt _ h,?_⟩
  rw[Int.natCast_emod,Int.emod_sub_emod,show(((s+i:Nat):Int) -s)=i by omega,Int.emod_eq_of_lt (by omega) (by omega)]
  omega
 ·rintro⟨hx,hb⟩
  have m2:=Ba ((x:Int) -s) h
  refine⟨(((x:Int) -s) % n).toNat,by rw[List.mem_range];omega,?_⟩
  have:(((s+(((x:Int) -s) % n).toNat) % n:Nat):Int)=x:=by
   rw[Int.natCast_emod,Int.natCast_add,m2.2,Int.add_emod_emod,show(s:Int)+((x:Int) -s)=x by omega,Int.emod_eq_of_lt (by omega) (by omega)]
  omega
theorem x8 {n:Nat}(h:0<n)(s e:Nat):(dU n s e).Nodup:=by
 unfold dU;have m:=Ba ((e:Int) -s) h
 show List.Pairwise (·≠ ·) _
 rw[List.pairwise_map];refine List.Pairwise.imp_of_mem (λ{i j} hi hj hlt e=>?_) List.pairwise_lt_range
 rw[List.mem_range] at hi hj;have:(((s+i) % n:Nat):Int)=(((s+j) % n:Nat):Int):=by rw[e]
 rw[Int.natCast_emod,Int.natCast_emod,Int.natCast_add,Int.natCast_add,Int.add_comm (s:Int),Int.add_comm (s:Int),Int.emod_add_cancel_right,Int.emod_eq_of_lt (by omega) (by omega),Int.emod_eq_of_lt (by omega) (by omega)] at this
 omega
theorem pC {n s e:Nat}(h:0<n)(hn:n<=900):gu [nI n,nI s,nI e]=some (.lst ((dU n s e).map nI)):=by
 apply bZ (kd:=.n) (n:=3) (t:=gC)
 unfold gC;have m:=Ba ((e:Int) -s) h
 refine bC (gt (ds:=(List.range (((e:Int) -s) % n).toNat).map nI) (fP (av ((ar ((ar (x:=nI e) (y:=nI s) rfl rfl).trans (xW _ _)) (y:=nI n) rfl).trans (zW h)) rfl) (by omega)) (by simp;omega) ?_)
 refine(mr (h:=nI) (o:=λ(i:Nat)=>nI ((s+i) % n)) _ λi hi=>⟨_,rfl,?_⟩).trans (by unfold dU;rw[List.map_map];rfl)
 exact(ar ((ar (x:=nI s) (y:=nI i) rfl rfl).trans (Am _ _)) (y:=nI n) rfl).trans (AM h)
theorem vD {n:Nat}{o:List Nat}(ho:o.length=n)(h:0<n)(hn:n<=900)(a b:Nat):j8 [ax o,nI a,nI b]=some (.lst ((dU n a b).map nI)):=by
 apply bZ (kd:=.n) (n:=3) (t:=hW)
 unfold hW;exact bC ((bQ (ds:=[nI n,nI a,nI b]) (av (by rw[gw o _ _ rfl,ho]) rfl) rfl).trans (pC h hn))
theorem wK {n:Nat}{o:List Nat}(ho:o.length=n)(h:0<n)(hn:n<=900){a b:Nat}(ha:a<n)(hb:b<n):ox [ax o,nI a,nI b]=some (.lst ((dU n (o.getD a 0) (o.getD b 0)).map nI)):=by
 apply bZ (kd:=.n) (n:=3) (t:=kq)
 unfold kq;exact bC ((bQ (ds:=[nI n,nI (o.getD a 0),nI (o.getD b 0)]) (av (by rw[gw o _ _ rfl,ho]) (av ((ar (x:=ax o) (y:=nI a) rfl rfl).trans (cA (by omega))) (av ((ar (x:=ax o) (y:=nI b) rfl rfl).trans (cA (by omega))) rfl))) rfl).trans (pC h hn))
def lJ(o:List Nat)(a b:Nat):List Nat:=(o.set a (o.getD b 0)).set b (o.getD a 0)
theorem vF {n:Nat}{o:List Nat}(ho:o.length=n){a b:Nat}(ha:a<n)(hb:b<n):gy [ax o,nI a,nI b]=some (ax (lJ o a b)):=by
 apply bZ (kd:=.s) (n:=4) (t:=eG)
 unfold eG;refine(ay (ρ':=[.v (ax o),.v (nI a),.v (nI b),.own (o.map nI)]) ((iJ (ds:=o.map nI) rfl).trans rfl)).trans ?_
 refine(ay (ρ':=[.v (ax o),.v (nI a),.v (nI b),.own ((lJ o a b).map nI)]) (fU (gb (cI (av ((ar (x:=ax o) (y:=nI b) rfl rfl).trans (cA (by omega))) (av ((ar (x:=ax o) (y:=nI a) rfl rfl).trans (cA (by omega))) rfl)) (by simp))) ?_)).trans (bC rfl)
 simp only[gT,List.length_cons,List.length_nil,eU];rw[iu (bs:=o.map nI) (j:=a) rfl rfl (by simp;omega)]
 simp only[Option.bind_some];rw[iu (bs:=(o.map nI).set a (nI (o.getD b 0))) (j:=b) rfl rfl (by simp;omega)]
 simp only[Option.bind_some,jI,kT];rfl
theorem pP {n:Nat}{o:List Nat}(ho:o.length=n){a b:Nat}(ha:a<n)(hb:b<n):xX [ax o,nI a,nI b]=some (ax (lJ o a b)):=by
 apply bZ (kd:=.s) (n:=3) (t:=ma)
 unfold ma;exact bC ((bQ (ds:=[ax o,nI a,nI b]) rfl rfl).trans (vF ho ha hb))
theorem Ip(l:List Nat):iz (l.map nI) (some 1) none=(l.drop 1).map nI:=by
 unfold iz;rw[HT.sIx_none,show(some (1:Int))=some ((1:Nat):Int) from rfl,HT.sIx_nat];cases l with
 |nil=>rfl
 |cons x r=>
  rw[List.length_map,show min 1 (x::r).length=1 by simp,List.map_cons,List.drop_succ_cons,List.drop_zero,List.drop_succ_cons,List.drop_zero]
  rw[List.take_of_length_le (by simp)]
def kP(o:List Nat)(a b:Nat):Bool:= !((dU o.length a b).drop 1).any λx=>decide (o.getD x 0∈(dU o.length (o.getD a 0) (o.getD b 0)).drop 1)
theorem BH {n:Nat}{o:List Nat}(ho:o.length=n)(h:0<n)(hn:n<=900){a b:Nat}(ha:a<n)(hb:b<n):uw [ax o,nI a,nI b]=some (.bl (kP o a b)):=by
 apply bZ (kd:=.s) (n:=5) (t:=kC)
 unfold kC;have sl: ∀(l:List Nat) (f:FE) (ρ:aF),f ρ=some (.lst (l.map nI))->fu f (gF (aA (.int 1))) jd ρ=some (.lst ((l.drop 1).map nI)):=λl f ρ e=>by
  unfold fu;rw[e];show some (D.lst (iz (l.map nI) (some 1) none))=_;rw[Ip]
 refine(ay (ρ':=[.v (ax o),.v (nI a),.v (nI b),.v (.lst (((dU n a b).drop 1).map nI)),.no]) ((aV (sl _ _ _ ((bQ (ds:=[ax o,nI a,nI b]) rfl rfl).trans (vD ho h hn a b)))).trans rfl)).trans ?_
 refine(ay (ρ':=[.v (ax o),.v (nI a),.v (nI b),.v (.lst (((dU n a b).drop 1).map nI)),.v (.lst (((dU n (o.getD a 0) (o.getD b 0)).drop 1).map nI))]) ((aV (sl _ _ _ ((bQ (ds:=[ax o,nI a,nI b]) rfl rfl).trans (wK ho h hn ha hb)))).trans rfl)).trans ?_
 refine bC (ko ?_)
 unfold kP;rw[ho];refine iN (bn ?_)
 have l1:=rB h a b
 rw[bU (av (gt (ds:=((dU n a b).drop 1).map nI) (ys:=(((dU n a b).drop 1).map λx=>decide (o.getD x 0∈(dU n (o.getD a 0) (o.getD b 0)).drop 1)).map D.bl) rfl (by simp;omega) ?_) rfl),vH,List.any_map]
 ·rfl
 ·rw[List.map_map]
  refine mr (h:=nI) _ λx hx=>⟨_,rfl,?_⟩
  have hx':x<n:=by
   have:=List.mem_of_mem_drop hx
   unfold dU at this;obtain⟨i,_,rfl⟩:=List.mem_map.mp this
   exact Nat.mod_lt _ h
  refine(ar ((ar (x:=ax o) (y:=nI x) rfl rfl).trans (cA (by omega))) (y:=.lst (((dU n (o.getD a 0) (o.getD b 0)).drop 1).map nI)) rfl).trans ?_
  rw[FR];rfl
theorem zT {n:Nat}(h:0<n){s e:Nat}(hs:s<n)(he:e<n)(ne:s≠e): ∃r,dU n s e=s::r:=by
 unfold dU;have m:=Ba ((e:Int) -s) h
 have pos:0<(((e:Int) -s) % n).toNat:=by
  have:((e:Int) -s) % n≠0:=λz=>by
   have:=Int.emod_emod_of_dvd
   have d:=Int.dvd_of_emod_eq_zero z
   obtain⟨q,hq⟩:=d
   have:q=0:=by
    rcases Int.lt_trichotomy q 0 with hq0|hq0|hq0
    ·have:(n:Int)*q<=n*(-1):=Int.mul_le_mul_of_nonneg_left (by omega) (by omega)
     omega
    ·exact hq0
    ·have:(n:Int)*1<=n*q:=Int.mul_le_mul_of_nonneg_left (by omega) (by omega)
     omega
   subst this;omega
  omega
 obtain⟨k,hk⟩: ∃k,(((e:Int) -s) % n).toNat=k+1:=⟨_,(Nat.succ_pred_eq_of_pos pos).symm⟩
 rw[hk,List.range_succ_eq_map,List.map_cons,Nat.add_zero,Nat.mod_eq_of_lt hs];exact⟨_,rfl⟩
theorem lh {n:Nat}(h:0<n){s e:Nat}(hs:s<n)(he:e<n)(ne:s≠e)(x:Nat):x∈(dU n s e).drop 1↔x<n/\rH n s e x=true/\x≠s:=by
 obtain⟨r,hr⟩:=zT h hs he ne
 have nd:=x8 h s e
 have hm:=jN h hs e x
 rw[hr] at nd hm⊢;rw[List.drop_succ_cons,List.drop_zero];obtain⟨n1,n2⟩:=List.nodup_cons.mp nd
 rw[List.mem_cons] at hm;constructor
 ·intro hx
  obtain⟨h1,h2⟩:=hm.mp (.inr hx)
  exact⟨h1,h2,λz=>n1 (z▸hx)⟩
 ·rintro⟨h1,h2,h3⟩
  exact(hm.mpr ⟨h1,h2⟩).resolve_left h3
theorem sj {α β:Type}(f:α->β): ∀l:List α,l.flatMap (λc=>[f c])=l.map f
 | []=>rfl
 |a::l=>by rw[List.flatMap_cons,sj f l];rfl
theorem zf: ∀k:List Int,dP (k.map D.int)=0
 | []=>by simp[dP]
 |a::k=>by rw[List.map_cons];unfold dP;rw[zf k];simp[fw]
theorem Cy(k:List Int):fw (cW k)=1:=by unfold cW fw;rw[zf]
theorem qy: ∀ks:List (List Int),dP (ks.map cW)<=1
 | []=>by simp[dP]
 |k::ks=>by
  rw[List.map_cons];unfold dP;have:=qy ks
  rw[Cy];omega
theorem Do(ks:List (List Int)):fw (.lst (ks.map cW))<=32:=by unfold fw;have:=qy ks;omega
theorem Ac: ∀k l:List Int,cX (k.map D.int) (l.map D.int)=decide (k=l)
 | [],[]=>by simp[cX]
 | [],_::_=>by simp[cX]
 |_::_,[]=>by simp[cX]
 |a::k,b::l=>by
  rw[List.map_cons,List.map_cons];unfold cX;rw[Ac k l,jQ,Bool.eq_iff_iff];simp
theorem wJ(k l:List Int):eJ (cW k) (cW l)=decide (k=l):=by
 unfold cW eJ;exact Ac k l
theorem Gf(K:List (List Int))(k:List Int):(K.map cW).any (λd=>eJ d (cW k))=decide (k∈K):=by
 induction K with
 |nil=>simp
 |cons a K ih=>
  rw[List.map_cons,List.any_cons,ih,wJ,Bool.eq_iff_iff];simp only[Bool.or_eq_true,decide_eq_true_eq,List.mem_cons];exact or_congr_left eq_comm
theorem IQ(K:List (List Int))(k:List Int):ga false (cW k) (.lst (K.map cW))=some (.bl (decide (k∈K))):=by
 unfold ga km;dsimp only;have:=qy K
 rw[if_pos (by omega),Gf]
 rfl
theorem Ord.get {n:Nat}{o:List Nat}(O:Ord n o){i:Nat}(h:i<n):o.getD i 0<n:=by
 have ho:=O.len
 have:o.getD i 0=o[i]'(by omega):=by simp[List.getD,ho,h]
 rw[this];exact O.lt (List.getElem_mem _)
theorem Ord.inj {n:Nat}{o:List Nat}(O:Ord n o){i j:Nat}(hi:i<n)(hj:j<n)(e:o.getD i 0=o.getD j 0):i=j:=D6 O.nd (by rw[O.len];exact hi) (by rw[O.len];exact hj) e
theorem zA {n:Nat}{o:List Nat}(O:Ord n o){a b:Nat}(ha:a<n)(hb:b<n)(ne:a≠b):kP o a b=true↔ ∀x,x<n-> ¬(rH n a b x=true/\x≠a/\rH n (o.getD a 0) (o.getD b 0) (o.getD x 0)=true/\o.getD x 0≠o.getD a 0):=by
 have h:0<n:=by omega
 have ne2:o.getD a 0≠o.getD b 0:=λz=>ne (O.inj ha hb z)
 unfold kP;rw[O.len];simp only[Bool.not_eq_true',List.any_eq_false,decide_eq_true_eq];constructor
 ·intro H x hx ⟨h1,h2,h3,h4⟩
  exact H x ((lh h ha hb ne x).mpr ⟨hx,h1,h2⟩) ((lh h (O.get ha) (O.get hb) ne2 _).mpr ⟨O.get hx,h3,h4⟩)
 ·intro H x hx hy
  obtain⟨x1,x2,x3⟩:=(lh h ha hb ne x).mp hx
  obtain⟨y1,y2,y3⟩:=(lh h (O.get ha) (O.get hb) ne2 _).mp hy
  exact H x x1 ⟨x2,x3,y2,y3⟩
theorem IT(y p q:Nat):ga false (nI y) (.tup [nI p,nI q])=some (.bl (decide (y=p\/y=q))):=by
 unfold ga km;dsimp only;rw[show dP [nI p,nI q]=0 from lL [p,q],if_pos (by omega)]
 have:=zw [p,q] y
 simp only[List.map_cons,List.map_nil] at this;simp only[Bool.false_eq_true,if_false];rw[this];congr 2
 simp
theorem oo {α:Type}{g:FG}{b:FS}{h:α->D}{ok:α->Bool}{d:D}{P:aF->Prop}: ∀(l:List α),(∀x∈l,∀ρ,P ρ-> ∃ρ1,g (h x) ρ=some ρ1/\(ok x=true-> ∃ρ2,b ρ1=.nx ρ2/\P ρ2)/\(ok x=false-> ∃ρ2,b ρ1=.rt d ρ2))->
 ∀ρ,P ρ->(l.all ok=true-> ∃ρ',cF g b (l.map h) ρ=.nx ρ'/\P ρ')/\(l.all ok=false-> ∃ρ',cF g b (l.map h) ρ=.rt d ρ')
 | [],_,ρ,p=>⟨λ_=>⟨ρ,rfl,p⟩,λz=>by simp at z⟩
 |x::l,H,ρ,p=>by
  obtain⟨ρ1,h1,h2,h3⟩:=H x (by simp) ρ p
  rw[List.all_cons,List.map_cons];cases e:ok x with
  |true=>
   obtain⟨ρ2,e2,p2⟩:=h2 e
   have ih:=oo l (λy hy=>H y (by simp[hy])) ρ2 p2
   rw[Bool.true_and,cb h1 e2];exact ih
  |false=>
   obtain⟨ρ2,e2⟩:=h3 e
   refine⟨λz=>by simp at z,λ_=>⟨ρ2,?_⟩⟩
   show(match g (h x) ρ with
    |none=>Out.no
    |some ρ1=>match b ρ1 with
     | .nx ρ2=>cF g b (l.map h) ρ2
     | .ct ρ2=>cF g b (l.map h) ρ2
     | .bk ρ2=>.nx ρ2
     | .rt d ρ2=>.rt d ρ2
     | .no=>.no)=_
   rw[h1];dsimp only;rw[e2]
section
variable {X:Cx}{c:Ct}{k:Kd}{pos:Pos}
def vd(i j:Nat)(fs:FA):FS:=λρ=>match fs ρ with
 |some [d1,d2]=>.nx ((ρ.set i (.v d1)).set j (.v d2))
 |_=>.no
theorem yM(i j:Nat){x y:Str}{a b:Expr}{fs:FA}{px py pt:Pos}{kt k2 pt2}(hc:X.calm=true)(hN:X.N.Nodup)(ha:DA X c [a,b] fs)(hi:X.N[i]? =some x:=by rfl)(hj:X.N[j]? =some y:=by rfl)(hij:i≠j:=by decide)
 (hx:X.env.scope.names.lookup x=some .local:=by rfl) (hy:X.env.scope.names.lookup y=some .local:=by rfl)
 (hw:swappedStores [.Tuple [.Name x px,.Name y py] kt pt] (.Tuple [a,b] k2 pt2) X.env=pure (some [x,y]):=by rfl)
 (hs:swapsWithSole [.Tuple [.Name x px,.Name y py] kt pt] (.Tuple [a,b] k2 pt2) pos.line X.env=pure false:=by rfl):
 DS X c k (.Assign [.Tuple [.Name x px,.Name y py] kt pt] (.Tuple [a,b] k2 pt2) pos) (vd i j fs):=λρ=>
 PS.imp (Ff hc hN hi hj hij hx hy (Go λhid=>ha hid ρ) hw hs) λD σ H hq_=>by
  obtain⟨hid,sr,q⟩:=hq_
  unfold vd at q;cases e1:fs ρ with
  |none=>rw[e1] at q;exact q.elim
  |some ds=>
   rw[e1] at q
   match ds,e1,q with
   | [],_,q=>exact q.elim
   | [_],_,q=>exact q.elim
   |_::_::_::_,_,q=>exact q.elim
   | [d1,d2],e1,q=>
     refine⟨hid,sr,[d1,d2],e1,λvs H1 s1 r1=>?_⟩
     cases r1 with
     |cons r1 t=>
      cases t with
      |cons r2 t=>
       cases t
       exact⟨_,_,rfl,q _ H1 hid (((sr.ext s1).setV r1 i).setV r2 j) (aR s1)⟩
theorem AF {i j:Nat}{fs:FA}{ρ:aF}{d1 d2:D}(h:fs ρ=some [d1,d2]):vd i j fs ρ=.nx ((ρ.set i (.v d1)).set j (.v d2)):=by unfold vd;rw[h]
end
open PySem PySem.W PySem.Spec PyProof.Rows
section
variable {X:Cx}{c:Ct}{a b e:Expr}{f g:FE}{pos p p2 p3:Pos}{k:Kd}
def Ds(K:W.Frag):R2:=λx y H Q=> ∃l b xs zs,x=.ref l/\y=.ref b/\SqL K H l xs/\SqL K H b zs/\xs.length+zs.length<=sizeLine/\ ∀p,H p=none->Q (.ref p) (bN H p (.lst (xs++zs)))
theorem Bi:jK X (binaryOp .Add) (Ds X.K):=by
 intro ae s σ H x y v u Q I rx ry h;obtain⟨l,b,xs,zs,rfl,rfl,hL,hB,hz,q⟩:=h
 cases rx
 cases ry
 obtain⟨its,r,⟨o,n,e,c1,d1,t1⟩,z1⟩:=I.list hL
 obtain⟨its2,r2,⟨o2,n2,e2,c2,d2,t2⟩,z2⟩:=I.list hB
 obtain⟨oc,od,ot,sl⟩:=o
 obtain⟨oc2,od2,ot2,sl2⟩:=o2
 dsimp only at c1 d1 t1 c2 d2 t2;subst c1 d1 t1 c2 d2 t2;have hl:=r.length
 have hl2:=r2.length
 refine concat_meets ⟨_,e,rfl⟩ ⟨_,e2,rfl⟩ noFill_list_add seq_list_add PySem.F.slot_list_add PySem.F.entry_list_add (PySem.F.args_list_add_2 _ _) (list_addW l b its.toArray its2.toArray n n2 none none sl sl2 (by rw[List.size_toArray,List.size_toArray];omega)) ⟨e,e2,?_⟩
 have ea:its.toArray++its2.toArray=(its++its2).toArray:=by simp
 rw[ea];exact⟨.ref _,_,I.lnew (t':=s.toks) (r.append r2) (by rw[List.length_append];omega),rfl,q _ I.fresh⟩
def gz:D->D->Option D
 | .lst xs,.lst ys=>if xs.length+ys.length<=sizeLine then some (.lst (xs++ys)) else none
 |_,_=>none
theorem CZ {K:W.Frag}:mN K .n (Ds K) gz:=by
 intro H hid v u x y d Q hf h r1 r2 q;unfold gz at h;split at h
 ·split at h
  ·rename_i hz
   cases h
   obtain⟨a,xs,rfl,h1,h2⟩:=r1.lst
   obtain⟨b,ys,rfl,h3,h4⟩:=r2.lst
   exact⟨a,b,xs,ys,rfl,rfl,h1,h3,by rw[h2.length,h4.length];exact hz,λp hp=>q _ _ (aX hp _) (gv hp (Same.refl _) (h2.append h4))⟩
  ·cases h
 ·cases h
theorem kU {k1 k2:Kd}(ha:DP X c k1 a f)(hb:DP X c k2 b g):DP X c .n (.BinOp a .Add b pos) (ak gz f g):=mQ Bi CZ ha hb
end
section
variable {X:Cx}{c:Ct}{k:Kd}{e:Expr}{f:FE}{x:Str}{pos pos':Pos}
def zm(F:D->D->Option D)(i:Nat)(f:FE):FS:=λρ=>match ah i ρ with
 |some x=>(match f ρ with
  |some y=>(match F x y with
   |some z=>.nx (ρ.set i (.v z))
   |none=>.no)
  |none=>.no)
 |none=>.no
theorem xC(i:Nat)(hn:X.N.Nodup)(he:DP X c .s e f)(ho:Hs X .Add (Iy λi j=>i+j))(hi:X.N[i]? =some x:=by rfl)(hx:yd X.env.scope x:=by first|exact Or.inl rfl|exact Or.inr rfl)(hf:X.fn x=true\/X.env.scope.names.lookup x=some .local:=by first|exact .inl rfl|exact .inr rfl|assumption):
 DS X c k (.AugAssign (.Name x pos') .Add e pos) (zm aS i f):=λρ=>PS.imp (Fh hn hi hx (oy λhid=>he hid ρ) ho hf) λD σ H hq_=>by
 obtain⟨hid,sr,q⟩:=hq_
 unfold zm at q;cases e1:ah i ρ with
 |none=>rw[e1] at q;exact q.elim
 |some d1=>
  rw[e1] at q;dsimp only at q;cases e2:f ρ with
  |none=>rw[e2] at q;exact q.elim
  |some d2=>
   rw[e2] at q;dsimp only at q;cases e3:aS d1 d2 with
   |none=>rw[e3] at q;exact q.elim
   |some d3=>
    rw[e3] at q;obtain⟨i1,j1,rfl,rfl,_,rfl⟩:=nr e3
    unfold ah at e1;split at e1
    ·rename_i d' e'
     cases e1
     obtain⟨x1,h1,h2⟩:=sr.sl i _ e'
     cases h2
     refine⟨_,h1,hid,sr,_,e2,λv H' s' r=>?_⟩
     cases r
     exact⟨i1,j1,rfl,rfl,q _ H' hid ((sr.ext s').setV .int i) (aR s')⟩
    ·cases e1
end
section
variable {X:Cx}{c:Ct}{e:Expr}{es:List Expr}{k:Kd}{pos p:Pos}{x:Str}{ps:List Str}{j n:Nat}
def de(f:FE):FA:=λρ=>(f ρ).bind λd=>match d with
 | .lst ds=>some ds
 | .tup ds=>some ds
 |_=>none
theorem dL {tg iter:Expr}{f:FE}(h:DP X c .s iter f):DIp X c tg iter (de f):=λhid ρ ae s σ H R I hq_=>by
 obtain⟨sr,ds,e1,q⟩:=hq_
 unfold de at e1;cases e2:f ρ with
 |none=>rw[e2] at e1;cases e1
 |some d=>
  rw[e2,Option.bind_some] at e1;cases d with
  |lst xs=>cases e1;exact sT h hid ρ ae s σ H R I ⟨sr,ds,by unfold nl;rw[e2];rfl,q⟩
  |tup xs=>cases e1;exact C0 h hid ρ ae s σ H R I ⟨sr,ds,by unfold B6;rw[e2];rfl,q⟩
  |_=>cases e1
end
theorem oJ {es rest:List Expr}{x1}{pos:Pos}{env:Env}:starEach (.Tuple es x1 pos::rest) env=(false,eval (.Tuple es x1 pos) env)::starEach rest env:=by rfl
@[elab_as_elim] theorem ar0 {motive:List Value->Prop} (us:List Value) (hl:us.length=0) (h:motive []):motive us:=by
 cases us with
 |nil=>exact h
 |cons a r=>exact absurd hl (Nat.succ_ne_zero _)
@[elab_as_elim] theorem ar1 {motive:List Value->Prop} (us:List Value) (hl:us.length=1) (h: ∀a0,motive [a0]):motive us:=by
 cases us with
 |nil=>exact absurd hl (by decide)
 |cons a0 r=>exact ar0 (motive:=λr=>motive (a0::r)) r (Nat.succ.inj hl) (h a0)
@[elab_as_elim] theorem ar2 {motive:List Value->Prop} (us:List Value) (hl:us.length=2) (h: ∀a0 a1,motive [a0,a1]):motive us:=by
 cases us with
 |nil=>exact absurd hl (by decide)
 |cons a0 r=>exact ar1 (motive:=λr=>motive (a0::r)) r (Nat.succ.inj hl) (h a0)
@[elab_as_elim] theorem ar3 {motive:List Value->Prop} (us:List Value) (hl:us.length=3) (h: ∀a0 a1 a2,motive [a0,a1,a2]):motive us:=by
 cases us with
 |nil=>exact absurd hl (by decide)
 |cons a0 r=>exact ar2 (motive:=λr=>motive (a0::r)) r (Nat.succ.inj hl) (h a0)
@[elab_as_elim] theorem ar4 {motive:List Value->Prop} (us:List Value) (hl:us.length=4) (h: ∀a0 a1 a2 a3,motive [a0,a1,a2,a3]):motive us:=by
 cases us with
 |nil=>exact absurd hl (by decide)
 |cons a0 r=>exact ar3 (motive:=λr=>motive (a0::r)) r (Nat.succ.inj hl) (h a0)
@[elab_as_elim] theorem ar5 {motive:List Value->Prop} (us:List Value) (hl:us.length=5) (h: ∀a0 a1 a2 a3 a4,motive [a0,a1,a2,a3,a4]):motive us:=by
 cases us with
 |nil=>exact absurd hl (by decide)
 |cons a0 r=>exact ar4 (motive:=λr=>motive (a0::r)) r (Nat.succ.inj hl) (h a0)
@[elab_as_elim] theorem ar6 {motive:List Value->Prop} (us:List Value) (hl:us.length=6) (h: ∀a0 a1 a2 a3 a4 a5,motive [a0,a1,a2,a3,a4,a5]):motive us:=by
 cases us with
 |nil=>exact absurd hl (by decide)
 |cons a0 r=>exact ar5 (motive:=λr=>motive (a0::r)) r (Nat.succ.inj hl) (h a0)
@[irreducible] def QS (X:Cx) (c:Ct) (k:Kd) (st:Stmt) (t:FS):Prop:=DS X c k st t
@[irreducible] def QSs (X:Cx) (c:Ct) (k:Kd) (st:List Stmt) (t:FS):Prop:=ua X c k st t
section
variable {X:Cx}{c:Ct}{k:Kd}{e a b:Expr}{es:List Expr}{f g:FE}{fs:FA}{pos pos':Pos}{st:Stmt}{rest:List Stmt}{t u:FS}{x:Str}
theorem QS.of(h:DS X c k st t):QS X c k st t:=by unfold QS;exact h
theorem QS.ds(h:QS X c k st t):DS X c k st t:=by unfold QS at h;exact h
theorem QSs.to(h:QSs X c k rest t):ua X c k rest t:=by unfold QSs at h;exact h
theorem lc(h1:QS X c k st t)(h2:QSs X c k rest u):QSs X c k (st::rest) (aB t u):=by unfold QSs;exact aj h1.ds h2.to
theorem CO(h:QS X c k st t):QSs X c k [st] t:=by unfold QSs;exact az h.ds
end
section
variable {κ:Type} [DecidableEq κ]
def jh(kvs:List (κ×V))(k:κ):Option V:=(kvs.find? λkv=>decide (kv.1=k)).map (·.2)
def mt(kvs:List (κ×V))(k:κ)(v:V):List (κ×V):=
 if(kvs.any λkv=>decide (kv.1=k))=true then kvs.map (λkv=>if kv.1=k then(kv.1,v) else kv) else kvs++[(k,v)]
theorem kY {p:κ×V}{r:List (κ×V)}{k:κ}(e:p.1=k):jh (p::r) k=some p.2:=by simp[jh,List.find?_cons,e]
theorem lI {p:κ×V}{r:List (κ×V)}{k:κ}(e: ¬p.1=k):jh (p::r) k=jh r k:=by simp[jh,List.find?_cons,e]
theorem tj(k:κ): ∀kvs:List (κ×V),(kvs.any λkv=>decide (kv.1=k))=(jh kvs k).isSome
 | []=>rfl
 |p::r=>by
  rw[List.any_cons]
  by_cases e:p.1=k
  ·simp only[kY e,decide_eq_true e,Bool.true_or,Option.isSome_some]
  ·rw[lI e,decide_eq_false e,Bool.false_or];exact tj k r
theorem mV(kvs:List (κ×V))(k:κ)(v:V):(mt kvs k v).length<=kvs.length+1:=by
 unfold mt;split
 ·rw[List.length_map];omega
 ·rw[List.length_append,List.length_cons,List.length_nil];omega
theorem RelO.isSome_eq {o:Option V}{u:Option Value}(r:RelO o u):o.isSome=u.isSome:=by
 cases o with
 |none=>cases u with
  |none=>rfl
  |some _=>exact(show False from r).elim
 |some _=>cases u with
  |none=>exact(show False from r).elim
  |some _=>rfl
theorem RelO.getD {o:Option V}{u:Option Value}{d:V}{d':Value}(r:RelO o u)(rd:RelV d d'):RelV (o.getD d) (u.getD d'):=by
 cases o with
 |none=>cases u with
  |none=>exact rd
  |some _=>exact(show False from r).elim
 |some _=>cases u with
  |none=>exact(show False from r).elim
  |some _=>exact r
theorem KV.val {kvs:List (κ×V)}{vs:List (κ×Value)}(r:KV kvs vs)(k:κ):RelO (jh kvs k) (valueAt vs k):=by
 unfold KV at r
 induction r with
 |nil=>exact True.intro
 | @cons p q ps qs h t ih=>
   obtain⟨h1,h2⟩:=h
   by_cases e:p.1=k
   ·have e':q.1=k:=h1.symm.trans e
    have b:valueAt (q::qs) k=some q.2:=by simp[valueAt,List.find?_cons,e']
    rw[kY e,b];exact h2
   ·have e': ¬q.1=k:=λz=>e (h1.trans z)
    have b:valueAt (q::qs) k=valueAt qs k:=by simp[valueAt,List.find?_cons,e']
    rw[lI e,b];exact ih
theorem KV.any {kvs:List (κ×V)}{vs:List (κ×Value)}(r:KV kvs vs)(k:κ):(kvs.any λkv=>decide (kv.1=k))=vs.any λkv=>decide (kv.1=k):=by
 unfold KV at r
 induction r with
 |nil=>rfl
 |cons h t ih=>rw[List.any_cons,List.any_cons,ih,h.1]
theorem KV.repl {kvs:List (κ×V)}{vs:List (κ×Value)}(r:KV kvs vs)(k:κ){y:V}{u:Value}(ry:RelV y u):
 KV (kvs.map λkv=>if kv.1=k then(kv.1,y) else kv) (vs.map λkv=>if kv.1=k then(kv.1,u) else kv):=by
 unfold KV at r⊢
 induction r with
 |nil=>exact .nil
 | @cons p q ps qs h t ih=>
   rw[List.map_cons,List.map_cons];refine .cons ?_ ih
   obtain⟨h1,h2⟩:=h
   by_cases e:p.1=k
   ·rw[if_pos e,if_pos (h1.symm.trans e)];exact⟨h1,ry⟩
   ·rw[if_neg e,if_neg (λz=>e (h1.trans z))];exact⟨h1,h2⟩
theorem KV.put {kvs:List (κ×V)}{vs:List (κ×Value)}(r:KV kvs vs)(k:κ){y:V}{u:Value}(ry:RelV y u):KV (mt kvs k y) (stored vs k u):=by
 unfold mt stored;rw[r.any k]
 by_cases e:(vs.any λkv=>decide (kv.1=k))=true
 ·rw[if_pos e,if_pos e];exact r.repl k ry
 ·rw[if_neg e,if_neg e];exact Paired.snoc r ⟨rfl,ry⟩
theorem KV.length {kvs:List (κ×V)}{vs:List (κ×Value)}(r:KV kvs vs):kvs.length=vs.length:=Paired.length r
end
theorem AS {P:Program}{w:World}{k:bS}{u:Value}(r:RelV (kV k) u):(ce P w).is k u=true:=by
 cases k with
 |inl i=>obtain⟨t,e⟩:=(show∃t,u=Value.int i t from r);subst e;exact rW P w i t
 |inr x=>obtain⟨t,e⟩:=(show∃t,u=Value.str x t from r);subst e;exact tD P w x t
theorem lX {P:Program}{w:World}: ∀ {ks:List bS} {us:List Value},Vals (ks.map kV) us->ItemsAre (ce P w) ks us
 | [],_,r=>by rw[List.map_nil] at r;cases r;exact .nil
 |k::ks,_,r=>by
  rw[List.map_cons] at r;cases r with
  |cons h t=>exact .cons (AS h) (lX t)
abbrev KTd(H:Hp):List (List bS×V)->List (List bS×Addr×Value)->Prop:=Paired λp q=>p.1=q.1/\H q.2.1=some (.tup (p.1.map kV))/\RelV p.2 q.2.2
theorem KTd.val {H:Hp}{kvs:List (List bS×V)}{xs:List (List bS×Addr×Value)}(r:KTd H kvs xs)(k:List bS):RelO (jh kvs k) ((atKey xs k).map (·.2)):=by
 induction r with
 |nil=>exact True.intro
 | @cons p q ps qs h t ih=>
   obtain⟨h1,_,h2⟩:=h
   by_cases e:p.1=k
   ·have e':q.1=k:=h1.symm.trans e
    have b:atKey (q::qs) k=some q.2:=by simp[atKey,List.find?_cons,e']
    rw[kY e,b];exact h2
   ·have e': ¬q.1=k:=λz=>e (h1.trans z)
    have b:atKey (q::qs) k=atKey qs k:=by simp[atKey,List.find?_cons,e']
    rw[lI e,b];exact ih
theorem KTd.repl {H:Hp}{kvs:List (List bS×V)}{xs:List (List bS×Addr×Value)}(r:KTd H kvs xs)(k:List bS){y:V}{u:Value}(ry:RelV y u):
 KTd H (kvs.map λkv=>if kv.1=k then(kv.1,y) else kv) (xs.map (putAt k u)):=by
 induction r with
 |nil=>exact .nil
 | @cons p q ps qs h t ih=>
   rw[List.map_cons,List.map_cons];refine .cons ?_ ih
   obtain⟨h1,h2,h3⟩:=h
   unfold putAt
   by_cases e:p.1=k
   ·rw[if_pos e,if_pos (h1.symm.trans e)];exact⟨h1,h2,ry⟩
   ·rw[if_neg e,if_neg (λz=>e (h1.trans z))];exact⟨h1,h2,h3⟩
theorem KTd.put {H:Hp}{kvs:List (List bS×V)}{xs:List (List bS×Addr×Value)}(r:KTd H kvs xs)(k:List bS){b:Addr}{y:V}{u:Value}(hb:H b=some (.tup (k.map kV)))(ry:RelV y u):
 KTd H (mt kvs k y) (storedH xs k b u):=by
 have e:(kvs.any λkv=>decide (kv.1=k))=(atKey xs k).isSome:=by
  rw[tj,(r.val k).isSome_eq,Option.isSome_map]
 unfold mt storedH;rw[e]
 by_cases q:(atKey xs k).isSome=true
 ·rw[if_pos q,if_pos q];exact r.repl k ry
 ·rw[if_neg q,if_neg q];exact Paired.snoc r ⟨rfl,hb,ry⟩
theorem KTd.keeps {H H':Hp}{kvs:List (List bS×V)}{xs:List (List bS×Addr×Value)}(r:KTd H kvs xs)(ht: ∀b ys,H b=some (.tup ys)->H' b=some (.tup ys)):KTd H' kvs xs:=
 Paired.mapP r λ_ _ z=>⟨z.1,ht _ _ z.2.1,z.2.2⟩
section
variable {P:Program}{w:World}{H:Hp}{h:Heap}{a:Addr}
theorem Dd {u:HO}(ok:HOk P w H h)(e:Rd H a u):ObjOk P w H h a u:=e.ok ok
theorem AV {kvs:List (bS×V)}(ok:HOk P w H h)(e:Rd H a (.dK kvs)):kvs.length<=sizeLine/\(a==sysModules)=false/\ ∃vs,KV kvs vs/\h.DictOf (ce P w) a vs:=
 show ObjOk P w H h a (.dK kvs) from Dd ok e
theorem Gb {kvs:List (bS×V)}(ok:HOk P w H h)(e:H a=some (.dK kvs)):kvs.length<=sizeLine/\(a==sysModules)=false/\ ∃vs,KV kvs vs/\h.DictOf (ce P w) a vs:=AV ok (.inl e)
theorem uA {ks:List bS}(ok:HOk P w H h)(e:H a=some (.tup (ks.map kV))):(tupleKind (ce P w)).is h ks a:=by
 obtain⟨_,its,r,⟨o,h1,h2,n,h3⟩,_⟩:=(show ObjOk P w H h a (.tup (ks.map kV)) from ok a _ e)
 exact⟨o,its.toArray,n,h1,h2,h3,by simpa using lX r⟩
theorem tE {kvs:List (List bS×V)}(ok:HOk P w H h)(e:Rd H a (.dT kvs)):kvs.length<=sizeLine/\(a==sysModules)=false/\
 ∃xs,KTd H kvs xs/\h.DictOfH (tupleKind (ce P w)) a xs:=by
 obtain⟨z,y,xs,r,o,es,ep,h1,h2,h3,h4,h5⟩:=(show ObjOk P w H h a (.dT kvs) from Dd ok e)
 refine⟨z,y,xs,r,o,es,ep,h1,h2,h3,h4,λx hx=>?_,h5⟩
 have all: ∀ {l:List (List bS×V)} {m:List (List bS×Addr×Value)},KTd H l m-> ∀x∈m,(tupleKind (ce P w)).is h x.1 x.2.1:=by
  intro l m q
  induction q with
  |nil=>intro x hx;exact nomatch hx
  | @cons p q ps qs hq t ih=>
    intro x hx;rcases List.mem_cons.mp hx with e|hx
    ·subst e
     exact uA ok (by rw[<-hq.1];exact hq.2.1)
    ·exact ih x hx
 exact all r x hx
theorem FQ {kvs:List (List bS×V)}(ok:HOk P w H h)(e:H a=some (.dT kvs)):kvs.length<=sizeLine/\(a==sysModules)=false/\
 ∃xs,KTd H kvs xs/\h.DictOfH (tupleKind (ce P w)) a xs:=tE ok (.inl e)
end
def DGet(H:Hp)(a:Addr)(y:V)(r:Option V):Prop:=
 (∃kvs k,Rd H a (.dK kvs)/\y=kV k/\r=jh kvs k)\/ ∃kvs k b,Rd H a (.dT kvs)/\y=.ref b/\H b=some (.tup (k.map kV))/\r=jh kvs k
def DPut(H:Hp)(a:Addr)(y v:V)(H':Hp):Prop:=
 (∃kvs k,H a=some (.dK kvs)/\y=kV k/\kvs.length<sizeLine/\H'=bN H a (.dK (mt kvs k v)))\/
 ∃kvs k b,H a=some (.dT kvs)/\y=.ref b/\H b=some (.tup (k.map kV))/\kvs.length<sizeLine/\H'=bN H a (.dT (mt kvs k v))
theorem DGet.t {H:Hp}{a b:Addr}{kvs:List (List bS×V)}{k:List bS}(e:H a=some (.dT kvs))(eb:H b=some (.tup (k.map kV))):DGet H a (.ref b) (jh kvs k):=.inr ⟨kvs,k,b,.inl e,rfl,eb,rfl⟩
theorem DPut.t {H:Hp}{a b:Addr}{kvs:List (List bS×V)}{k:List bS}{v:V}(e:H a=some (.dT kvs))(eb:H b=some (.tup (k.map kV)))(hl:kvs.length<sizeLine):
 DPut H a (.ref b) v (bN H a (.dT (mt kvs k v))):=.inr ⟨kvs,k,b,e,rfl,eb,hl,rfl⟩
section
variable {X:Cx}{ae:List (Addr×Obj)}{σ:St}{H:Hp}{s:Shared}{a:Addr}{y v:V}{u r:Value}{o:Option V}{A:Around}{E:Value->Shared->Prop}
theorem Inv.big(I:Inv X ae σ H s):sysModules<s.heap.objs.size:=by
 have h:mainGlobals<s.heap.objs.size:=(I.mod.glob.keeps I.bk).lt
 exact Nat.lt_trans (by decide) h
theorem vP {h':Heap}{t':Nat}{ob:HO}(I:Inv X ae σ H s)(mu:GZ (H a))(hs:Heap.SameBut a s.heap h')(he: ∃q,h'.get? a=some q)(new:ObjOk X.prog X.w (bN H a ob) h' a ob):
 Inv X ae σ (bN H a ob) {s with heap:=h',toks:=t'}:=
 I.write (x:=a) (e:=a) mu (.inl rfl) (λb q hb z=>(hs.2 b hb).trans z) he new
theorem DZ {P:Program}{w:World}{H':Hp}{h':Heap}{kvs:List (bS×V)}{vs:List (bS×Value)}(z:kvs.length<=sizeLine)(hd:(a==sysModules)=false)(rel:KV kvs vs)(dd:h'.DictOf (ce P w) a vs):
 ObjOk P w H' h' a (.dK kvs):=⟨z,hd,vs,rel,dd⟩
theorem xN {H':Hp}{Q:Unit->Shared->Prop}(hu:A.units+1<cLine)(I:Inv X ae σ H s)(g:DPut H a y v H')(ry:RelV y u)(rv:RelV v r)(h: ∀s',Inv X ae σ H' s'->Q () s'):
 wpAny (model X.prog X.w) A (setItem (.ref a) u r) Q E s:=by
 rcases g with⟨kvs,k,e,ey,l,eH⟩|⟨kvs,k,b,e,ey,eb,l,eH⟩
 ·subst ey eH
  obtain⟨z,hd,vs,rel,dd⟩:=Gb I.hok e
  have hz:vs.length<=sizeLine:=by rw[<-rel.length];exact z
  have hl:(mt kvs k v).length<=sizeLine:=by have:=mV kvs k v;omega
  refine wpAny_setItem_pairs (hsz:=hz) (AS ry) dd λh' dd' hs=>h _ ?_
  have he: ∃q,h'.get? a=some q:=let⟨q,_,_,hq,_⟩:=dd';⟨q,hq⟩
  exact vP I (by rw[e];exact True.intro) hs he (DZ hl hd (rel.put k rv) dd')
 ·subst ey eH
  cases (show u=Value.ref b from ry)
  obtain⟨z,hd,xs,rel,dd⟩:=FQ I.hok e
  have hz:xs.length<=sizeLine:=by rw[<-Paired.length rel];exact z
  have hl:(mt kvs k v).length<=sizeLine:=by have:=mV kvs k v;omega
  refine wpAny_setItem_heap (hsz:=hz) (tupleKind_room_in1 hu) (uA I.hok eb) dd λh' dd' hs=>h _ ?_
  obtain⟨q,es,ep,hq,h2,h3,h4,_,h5⟩:=dd'
  refine vP I (by rw[e];exact True.intro) hs ⟨q,hq⟩ ⟨hl,hd,_,(rel.put k eb rv).keeps λc ys ec=>?_,q,es,ep,hq,h2,h3,h4,h5⟩
  rw[aH (FL ec e (λz=>nomatch z))]
  exact ec
end
def DD(i:Expr):Prop:= ∀ov iv,subscripted i false ov iv=operate [ov,iv] (getItem ov iv)
theorem CL {prog:Program}{w:World}{A:Around}{E:Value->Shared->Prop}{s:Shared}{env:Env}{value slice:Expr}{pos:Pos}{T id:String}{Q:Value->Shared->Prop}
 (hl:typeLookup (.type T) "__getitem__"=pure (some (.builtin id))) (hs:DD slice)
 (h:wpAny (model prog w) A (eval value env) (λo s₁=>wpAny (model prog w) A (eval slice env) (λi s₂=>s₂.TypeIs o T/\wpAny (model prog w) A (getItem o i) Q E s₂) E s₁) E s):
 wpAny (model prog w) A (eval (.Subscript value slice pos) env) Q E s:=by
 refine Subscript_ (wpAny_mono h (λo s₁ h₁=>wpAny_mono h₁ (λi s₂ h₂=>?_) λ_ _ x=>x) λ_ _ x=>x)
 obtain⟨hT,h₂⟩:=h₂
 unfold subscriptTail;refine wpAny_bind ?_
 rw[getitemInPython_of_ne hT.not_modules];refine wpAny_bind (wpAny_specialOf hT hl ?_)
 have fin:wpAny (model prog w) A (subscripted slice false o i) (λr s₃=>wpAny (model prog w) A (letTemporaryGo value o r>>=λ_=>pure r) Q E s₃) E s₂:=by
  rw[hs o i];exact wpAny_operating (wpAny_mono h₂ (λr s₃ h₃=>wpAny_bind (wpAny_letTemporaryGo (wpAny_pure h₃))) λ_ _ x=>x)
 first
  |exact wpAny_pure (wpAny_bind fin)
  |exact wpAny_bind (wpAny_pure (wpAny_bind fin))
  |exact wpAny_bind fin
def Gu(td ty tv:TE):TS:=λD σ H=>tv σ H λv H1=>td σ H1 λx H2=>ty σ H2 λy H3=> ∃a H4,x=.ref a/\DPut H3 a y v H4/\D.nx σ H4
section
variable {X:Cx}{o i e value:Expr}{pos pos' tpos:Pos}{td ty tv:TE}
theorem BR(hu:X.A.units+1<cLine)(ho:PE X o td)(hi:PE X i ty)(hv:PE X value tv)(hs:swapsWith value (some (.Subscript o i pos')) pos.line X.env=pure false):
 PS X (.Assign [.Subscript o i pos'] value pos) (Gu td ty tv):=by
 intro ae s σ H D I h;refine wpAny_Assign_Subscript (bD (hv ae s σ H _ I h) λr s1 ⟨v,H1,I1,rv,q1⟩=>bD (ho ae s1 σ H1 _ I1 q1) λu s2 ⟨x,H2,I2,rx,q2⟩=>bD (hi ae s2 σ H2 _ I2 q2) λiv s3 ⟨y,H3,I3,ry,a,H4,ex,g,q3⟩=>?_) hs
 subst ex;obtain rfl:u=Value.ref a:=rx
 exact xN hu I3 g ry rv λs4 I4=>⟨σ,H4,I4,q3⟩
end
theorem yu {P:Program}{w:World}{H:Hp}(h:Heap)(hb:sysModules<h.objs.size):ObjOk P w H (h.push {cls:=.type "dict",data:=.dict #[]}) h.objs.size (.dT []):=
 ⟨Nat.zero_le _,beq_eq_false_iff_ne.mpr (Ne.symm (Nat.ne_of_lt hb)),[],.nil,_, #[],0,Heap.get?_push_size _ rfl,⟨rfl,rfl,rfl⟩,rfl,rfl,List.nodup_nil⟩
def E4:TE:=λ_ H Q=> ∀p,H p=none->Q (.ref p) (bN H p (.dT []))
section
variable {X:Cx}{pos:Pos}
theorem An:PE X (.Dict [] [] pos) E4:=λae s σ H Q I h=>
 wpAny_Dict_empty ⟨.ref s.heap.objs.size,_,I.laid (a:=s.heap.objs.size) (o:=.dT []) (t':=s.toks) (λ_ _ q=>Heap.get?_push_of_some _ q) (Nat.le_refl _) (yu s.heap I.big),rfl,h _ (I.hok.fresh (Nat.le_refl _))⟩
end
structure M2(X:Cx)(o:Expr)(m:Str)(apos:Pos)(e f:Expr)(cpos:Pos):Prop where
 base:attributeBase o m X.env (eval o X.env)=eval o X.env
 few:((backTo cpos (starEach [e,f] X.env)).all (λx=> !x.1)&&(backToKw cpos (keywordEach [] X.env)).all (λx=>x.1.isSome)
  &&decide (([e,f]:List Expr).length+([]:List Keyword).length+(if([]:List Keyword).isEmpty then 0 else 1)<30))=true
 line:(apos.endLine==cpos.line)=true
 trees:backTo cpos (starEach [e,f] X.env)=[(false,eval e X.env),(false,eval f X.env)]
def IF(H:Hp)(a:Addr):Prop:=(∃kvs,Rd H a (.dK kvs))\/ ∃kvs,Rd H a (.dT kvs)
theorem DU {X:Cx}{ae:List (Addr×Obj)}{σ:St}{H:Hp}{s:Shared}{a:Addr}(I:Inv X ae σ H s)(d:IF H a):
 s.TypeIs (.ref a) "dict"/\(∀b,Value.ref a=.ref b-> ∃ob,s.heap.get? b=some ob/\ob.dict=none)/\(a==sysModules)=false:=by
 rcases d with⟨kvs,e⟩|⟨kvs,e⟩
 ·obtain⟨_,hd,vs,_,dd⟩:=AV I.hok e
  refine⟨dd.typeIs,λb q=>?_,hd⟩
  cases q
  obtain⟨ob,_,_,h1,h2,_⟩:=dd
  exact⟨ob,h1,h2.2.1⟩
 ·obtain⟨_,hd,xs,_,dd⟩:=tE I.hok e
  refine⟨dd.typeIs,λb q=>?_,hd⟩
  cases q
  obtain⟨ob,_,_,h1,h2,_⟩:=dd
  exact⟨ob,h1,h2.2.1⟩
section
variable {X:Cx}{ae:List (Addr×Obj)}{σ:St}{H:Hp}{s:Shared}{a:Addr}{y d:V}{u r:Value}{o:Option V}{A:Around}{E:Value->Shared->Prop}
theorem Eg {Q:Value->Shared->Prop}(hu:A.units+1<cLine)(I:Inv X ae σ H s)(g:DGet H a y o)(ry:RelV y u)(rd:RelV d r)(h: ∀w' s',Inv X ae σ H s'->RelV (o.getD d) w'->Q w' s'):
 wpAny (model X.prog X.w) A (call (.builtin "dict.get") [.ref a,u,r]) Q E s:=by
 rcases g with⟨kvs,k,e,ey,l⟩|⟨kvs,k,b,e,ey,eb,l⟩
 ·subst ey
  obtain⟨z,hd,vs,rel,dd⟩:=AV I.hok e
  refine call_meetsIn PySem.F.slot_dict_get dd.typeIs PySem.F.entry_dict_get (PySem.F.args_dict_get_3 _ _ _) (meets_dict_get_default (ce X.prog X.w) a (AS ry) hd r) ⟨_,dd.mapOf,h _ _ (I.tok _) ?_⟩
  rw[l];exact(rel.val k).getD rd
 ·subst ey
  cases (show u=Value.ref b from ry)
  obtain⟨z,hd,xs,rel,dd⟩:=tE I.hok e
  refine call_meetsIn PySem.F.slot_dict_get dd.typeIs PySem.F.entry_dict_get (PySem.F.args_dict_get_3 _ _ _) (meetsH_dict_get_default (tupleKind (ce X.prog X.w)) a b hd r) ⟨tupleKind_room_in1 hu,k,xs,uA I.hok eb,dd,h _ _ (I.tok _) ?_⟩
  rw[l];exact(rel.val k).getD rd
end
def Ef(td ty tx:TE):TE:=λσ H Q=>td σ H λx H1=> ∃a,x=.ref a/\IF H1 a/\ty σ H1 λy H2=>tx σ H2 λz H3=> ∃o,DGet H3 a y o/\Q (o.getD z) H3
section
variable {X:Cx}{o e f:Expr}{apos cpos:Pos}{td ty tx:TE}
theorem Af(hu:X.A.units+1<cLine)(ho:PE X o td)(he:PE X e ty)(hf:PE X f tx)(m:M2 X o "get" apos e f cpos):PE X (.Call (.Attribute o "get" apos) [e,f] [] cpos) (Ef td ty tx):=by
 intro ae s σ H Q I h;refine wpAny_Call_method m.base m.few m.line PySem.F.plainAttrs_dict PySem.F.slot_dict_get PySem.F.type_dict_get (bD (ho ae s σ H _ I h) λu s1 hq_=>?_)
 obtain⟨x,H1,I1,rx,a,ex,d,q1⟩:=hq_
 subst ex;obtain rfl:u=Value.ref a:=rx
 obtain⟨t1,t2,_⟩:=DU I1 d
 refine⟨t1,t2,?_⟩
 rw[m.trees];refine Calls.callWith_builtin rfl (Calls.evalArgs_plain (Calls.spliced_cons (bD (he ae s1 σ H1 _ I1 q1) λiv s2 ⟨y,H2,I2,ry,q2⟩=>
  Calls.spliced_cons (bD (hf ae s2 σ H2 _ I2 q2) λfv s3 ⟨z,H3,I3,rz,ov,g,q3⟩=>Calls.spliced_nil ?_))))
 exact Eg hu I3 g ry rz λw' s4 I4 rw'=>⟨_,H3,I4,rw',q3⟩
end
end L2
namespace PySem
open Sem (wp)
end PySem
namespace L2
open PySem PySem.Spec PyProof.Rows
end L2
namespace PySem
section
variable {prog:Program}{w:World}{A:Around}{E:Value->Shared->Prop}{s:Shared}
theorem pS {g g':Heap}{l:Addr}{us:Array Value}(t:g.IsList l us)(k: ∀o,g.get? l=some o->g'.get? l=some o):g'.IsList l us:=t.at k
theorem wC {it l:Addr}{us:Array Value}(ne:l≠it): ∀(n i:Nat) (s:Shared) (Q:List Value->Shared->Prop),s.heap.IsListIter it l i->s.heap.IsList l us->i+n<=us.size->
 (∀g,g.IsListIter it l (i+n)->Heap.SameBut it s.heap g->Q ((us.toList.drop i).take n) {s with heap:=g})->wpAny (model prog w) A (draw (.ref it) n) Q E s
 |0,i,s,Q,hi,_,_,q=>by
  show wpAny _ _ (pure []) Q E s;exact wpAny_pure (by simpa using q s.heap hi (Heap.SameBut.refl ..))
 |n+1,i,s,Q,hi,hl,le,q=>by
  have lt:i<us.size:=by omega
  show wpAny _ _ (pyNext (.ref it)>>=_) Q E s;refine wpAny_bind (wpAny_pyNext_list_item hi hl (x:=us[i]) (by simp[lt]) λg hi' b=>wpAny_bind (wpAny_holding (wC ne n (i+1) _ _ hi' (pS hl λo e=>b.extBut _ _ ne e) (by omega) λg2 hi2 b2=>wpAny_pure ?_)))
  have e:us.toList.drop i=us[i]::us.toList.drop (i+1):=by simp[List.drop_eq_getElem_cons,lt]
  have:=q g2 (by rw[show i+(n+1)=i+1+n by omega];exact hi2) (b.trans b2)
  rw[e,List.take_succ_cons] at this;exact this
theorem l2_unpackL {l:Addr}{us:Array Value}{ts:List (Bool×(Value->Sem Unit))}{Q:Unit->Shared->Prop}(hA:A.handled=none)(hl:s.heap.IsList l us)(hn:ts.length=us.size)(hs:ts.findIdx? (·.1)=none)
 (h: ∀g,Heap.ExtBut s.heap.objs.size s.heap g->wpAny (model prog w) A (assignInOrder (ts.map (·.2)) us.toList) Q E {s with heap:=g}):wpAny (model prog w) A (unpack (.ref l) ts) Q E s:=by
 have ne:l≠s.heap.objs.size:=by obtain⟨o,ho,_⟩:=hl;exact Nat.ne_of_lt (Heap.lt_size ho)
 unfold unpack;rw[hn,hs];refine wpAny_bind (wpAny_holding ?_)
 unfold unpackItems;refine wpAny_bind ?_
 unfold notIterableAtAll;refine wpAny_bind (wpAny_specialOf hl.typeIs F.slot_list_iter.lookup (wpAny_pure ?_))
 simp only[Bool.false_eq_true,if_false];refine wpAny_bind (wpAny_holding (wpAny_pyIter_list hl ?_))
 refine wpAny_bind (wpAny_holding (wC ne us.size 0 _ _ ⟨_,Heap.get?_push_size _ rfl,rfl,rfl⟩ (hl.push _) (by omega) λg hi b=>?_))
 have all:List.take us.size (List.drop 0 us.toList)=us.toList:=by rw[List.drop_zero];exact List.take_of_length_le (by simp)
 rw[all,if_neg (by simp)]
 refine wpAny_bind (wpAny_holding (wpAny_pyNext_list_end hA hi (pS (hl.push _) λo e=>b.extBut _ _ ne e) (by simp) λg2 b2=>?_))
 simp only[Option.isSome_none,Bool.false_eq_true,if_false];exact wpAny_pure (h g2 λc o hc e=>b2 c o hc (b.extBut c o hc (Heap.get?_push_of_some _ e)))
end
end PySem
namespace L2
open PySem PySem.Spec PyProof.Rows
section
variable {X:Cx}{c:Ct}{es:List Expr}{pos:Pos}
def HM(K:W.Frag)(n:Nat)(t:xq):TG:=λv σ H Q=> ∃a xs,v=.ref a/\SqL K H a xs/\xs.length=n/\t xs σ H Q
theorem Dy {k:Nat}{t:xq}{n:Nat}(hc:X.calm=true)(h:PGs X es t)(hn:(assignEach es X.env).length=n:=by rfl)(hst:(assignEach es X.env).findIdx? (·.1)=none:=by rfl):PG X (.Tuple es k pos) (HM X.K n t):=by
 intro ae s σ H v u Q I r hw;obtain⟨a,xs,e1,hq,hl,hw⟩:=hw
 subst e1;cases r
 obtain⟨its,rv,ht,hz⟩:=I.list hq
 rw[assign_Tuple];refine wpAny_bind (wpAny_standAt (PySem.l2_unpackL (I.ok.hd hc) ht.isList (by simp[hn,<-hl,rv.length]) hst λg hx=>?_))
 have I1:Inv X ae σ H {s with heap:=g}:=I.kept (t':=s.toks) λb o e=>hx b o (Nat.ne_of_lt (Heap.lt_size e)) e
 exact h ae _ σ H xs _ Q I1 (by simpa using rv) hw
def gL(n:Nat)(gs:vM):FG:=λd ρ=>match d with
 | .lst ds=>if ds.length=n then gs ds ρ else none
 |_=>none
theorem we {gs:vM}{kk n:Nat}(hc:X.calm=true)(h:G2 X c es gs)(hn:(assignEach es X.env).length=n:=by rfl)(hst:(assignEach es X.env).findIdx? (·.1)=none:=by rfl):oN X c (.Tuple es kk pos) (gL n gs):=λhid ρ d=>
 PG.imp (Dy hc (rN λds=>h hid ρ ds) hn hst) λv σ H Q hq_=>by
  obtain⟨sr,r,ρ',e,q⟩:=hq_
  unfold gL at e;split at e
  ·split at e
   ·cases r with
    |lst h1 h2=>have h1:=SqL.of (K:=X.K) h1;exact⟨_,_,rfl,(dZ _ _).seq h1,by rw[h2.length];assumption,_,sr,h2,ρ',e,q⟩
   ·cases e
  ·cases e
end
def Dp(K:W.Frag):R2:=λx y H Q=> ∃a b xs ys,x=.ref a/\y=.ref b/\SqT K H a xs/\SqT K H b ys/\xs.length+ys.length<=sizeLine/\
 (xs=[]->Q (.ref b) H)/\(xs≠[]->ys=[]->Q (.ref a) H)/\(xs≠[]->ys≠[]-> ∀p,H p=none->Q (.ref p) (bN H p (.tup (xs++ys))))
section
variable {X:Cx}{c:Ct}{a b:Expr}{f g:FE}{pos:Pos}
theorem Bf:jK X (binaryOp .Add) (Dp X.K):=by
 intro ae s σ H x y v u Q I rx ry h;obtain⟨a,b,xs,ys,e1,e2,ha,hb,hz,q0,q1,q2⟩:=h
 by_cases hx:xs=[]
 ·subst e1 e2
  cases rx
  cases ry
  obtain⟨its,r1,p1,_⟩:=I.tuple ha
  obtain⟨its2,r2,p2,_⟩:=I.tuple hb
  obtain⟨m,F⟩:=I.fr
  have h0:its=[]:=r1.nil_iff.mpr hx
  exact add_tuples F News.nil p1 p2 (λ_=>⟨.ref b,H,I,rfl,q0 hx⟩) (λz=>absurd h0 z) (λz=>absurd h0 z) (by rw[<-r1.length,<-r2.length];exact hz)
 ·exact CB ae s σ H x y v u Q I rx ry ⟨a,b,xs,ys,e1,e2,ha,hb,hx,hz,q1 hx,q2 hx⟩
def ka:D->D->Option D
 | .tup xs,.tup ys=>if xs.length+ys.length<=sizeLine then some (.tup (xs++ys)) else none
 |_,_=>none
theorem Bc {K:W.Frag}:mN K .s (Dp K) ka:=by
 intro H hid v u x y d Q hf h r1 r2 q;unfold ka at h;split at h
 ·split at h
  ·rename_i hc
   cases h
   obtain⟨a,xs,rfl,h0,h1,h2⟩:=r1.tup
   obtain⟨b,ys,rfl,g0,g1,g2⟩:=r2.tup
   refine⟨a,b,xs,ys,rfl,rfl,h1,g1,by rw[h2.length,g2.length];exact hc,λz=>?_,λ_ z=>?_,λ_ z p hp=>?_⟩
   ·subst z;cases h2
    exact q _ H (Same.refl _) (.tup g0 g2)
   ·subst z;cases g2
    refine q _ H (Same.refl _) ?_
    rw[List.append_nil];exact .tup h0 h2
   ·exact q _ _ (aX hp _) (lD hp (hf p hp) (h2.append g2))
  ·cases h
 ·cases h
theorem wL {k1 k2:Kd}(ha:DP X c k1 a f)(hb:DP X c k2 b g):DP X c .s (.BinOp a .Add b pos) (ak ka f g):=mQ Bf Bc ha hb
end
section
variable {K:W.Frag}{c:Ct}{hid:bK}{ρ:aF}{σ:St}{H:Hp}{a:Addr}
theorem SR.setD {b:Ob}(h:SR K c hid ρ σ H)(ho:ObOk K c hid H a b)(no: ∀i:Nat,Ow ρ[i]? ->σ[i]? ≠some (some (.ref a)))(i:Nat):
 SR K c hid (ρ.set i (.ob b)) (σ.set i (some (.ref a))) H:=by
 refine⟨h.tr,h.ht,h.h0,h.kp,h.t0,h.c0,h.m0,by simp[h.len],λj s q=>?_,λj l z n o1 o2 q1 q2=>?_⟩
 ·by_cases e:j=i
  ·subst e
   have lt:j<ρ.length:=by
    have:=(List.getElem?_eq_some_iff.mp q).1
    simpa using this
   rw[List.getElem?_set_self lt] at q;cases q
   exact⟨a,List.getElem?_set_self (by rw[h.len];exact lt),ho⟩
  ·rw[List.getElem?_set_ne (Ne.symm e)] at q
   have w:=h.sl j s q
   have es:(σ.set i (some (V.ref a)))[j]? =σ[j]? :=List.getElem?_set_ne (Ne.symm e)
   cases s with
   |no=>trivial
   |v d=>obtain⟨x,h1,h2⟩:=w;exact⟨x,es.trans h1,h2⟩
   |own ds=>obtain⟨a,xs,h1,h2⟩:=w;exact⟨a,xs,es.trans h1,h2⟩
   |arg ds=>obtain⟨a,xs,h1,h2⟩:=w;exact⟨a,xs,es.trans h1,h2⟩
   |ob b=>obtain⟨a,h1,h2⟩:=w;exact⟨a,es.trans h1,h2⟩
 ·by_cases e1:j=i
  ·subst e1
   have e2:l≠j:=λe=>n e.symm
   rw[List.getElem?_set_ne (Ne.symm e2)] at o2 q2
   by_cases lt:j<σ.length
   ·rw[List.getElem?_set_self lt] at q1;cases q1;exact no l o2 q2
   ·rw[List.getElem?_eq_none (by simpa using lt)] at q1;cases q1
  ·rw[List.getElem?_set_ne (Ne.symm e1)] at o1 q1
   by_cases e2:l=i
   ·subst e2
    by_cases lt:l<σ.length
    ·rw[List.getElem?_set_self lt] at q2;cases q2;exact no j o1 q1
    ·rw[List.getElem?_eq_none (by simpa using lt)] at q2;cases q2
   ·rw[List.getElem?_set_ne (Ne.symm e2)] at o2 q2
    exact h.ap j l z n o1 o2 q1 q2
end
open PySem PySem.W PySem.Spec PyProof.Rows
section
variable {prog:Program}{w:World}{A:Around}{E:Value->Shared->Prop}{s:Shared}
theorem vk {T:String}{r d:Addr}{n:Nat}{P:Nat->Value->Prop}{OK:Heap->Prop}{R:List Value->Shared->Prop}(src:KdlSrc prog w T r d n P OK)(calm:A.handled=none)(good:OK s.heap)(few:n<=sizeLine)
 (q: ∀(g:Heap) (tk:Nat) (us:Array Value),(∀b o,s.heap.get? b=some o->g.get? b=some o)->s.heap.objs.size<g.objs.size->ItemsOf P us n->R us.toList {s with heap:=g,toks:=tk}):wpAny (model prog w) A (collect (.ref r)) R E s:=by
 obtain⟨rl,dl⟩:=src.there _ good
 unfold collect;refine wpAny_bind (wpAny_runValue (codeAny_builtin F.entry_proto_collect ?_))
 rw[Around.under_plainId F.plain_proto_collect _];show wpAny _ A.in1 (newList []>>=λz=>again (.builtin "list.__iadd__" ⟨[z,.ref r],[]⟩)) _ _ s
 refine wpAny_bind (wpAny_newObj_type (wpAny_pure ⟨plainId_quiet F.plain_list_iadd _,codeAny_builtin F.entry_list_iadd ?_⟩))
 rw[Around.under_plainId F.plain_list_iadd _];show wpAny _ A.in1 (Builtin.List.listExtendWith (.ref s.heap.objs.size) (.ref r) (.ref s.heap.objs.size)) _ _ _;have last: ∀(g:Heap) (tk:Nat) (us:Array Value) (m:Nat),(∀b o,s.heap.get? b=some o->g.get? b=some o)->g.get? s.heap.objs.size=some {cls:=.type "list",dict:=none,data:=.seq us m,slots:= #[]}->ItemsOf P us n->
  wpAny (model prog w) A (do
   match (<-load s.heap.objs.size).data with
    |Data.seq xs _=>pure xs.toList
    |_=>unsupported "internal:collect") R E {s with heap:=g,toks:=tk}:=λg tk us m kg hg hi=>wpAny_bind (wpAny_load hg (wpAny_pure (q g tk us kg (Heap.lt_size hg) hi)))
 have ext:=kdl_extend (A:=A) (s:={s with heap:=s.heap.push {cls:=.type "list",data:=.seq ([]:List Value).toArray}})
  (R:=λz t=> ∃(g:Heap) (tk:Nat) (us:Array Value) (m:Nat),z=.ok (.ret (.ref s.heap.objs.size))/\t={s with heap:=g,toks:=tk}/\(∀b o,s.heap.get? b=some o->g.get? b=some o)/\g.get? s.heap.objs.size=some {cls:=.type "list",dict:=none,data:=.seq us m,slots:= #[]}/\ItemsOf P us n)
  src calm (src.keep _ _ good λb _ o e=>Heap.get?_push_of_some _ e) s.heap.objs.size (Nat.ne_of_gt rl) (Nat.ne_of_gt dl) (.ref s.heap.objs.size) 0 (Heap.get?_push_size _ rfl)
  (λg tk us m kg hg hi=>⟨g,tk,us,m,rfl,rfl,λb o e=>kg b o (Nat.ne_of_lt (Heap.lt_size e)) (Heap.get?_push_of_some _ e),hg,hi⟩) few
 refine wpAny_mono ext (λz t h=>?_) λz t h=>by obtain⟨_,_,_,_,e,_⟩:=h;cases e
 cases z with
 |done f=>obtain⟨g,tk,us,m,e,rfl,kg,hg,hi⟩:=h;cases e;exact last g tk us m kg hg hi
 |again c=>exact⟨h.1,codeAny_mono h.2 λz t' hr=>by obtain⟨g,tk,us,m,rfl,rfl,kg,hg,hi⟩:=hr;exact last g tk us m kg hg hi⟩
end
section
variable {X:Cx}{c:Ct}{pos p py:Pos}{x y:Str}
theorem pr {K:W.Frag}{F:Hp}: ∀ms:List Int,Reps K F (ms.map V.int) (ms.map D.int)
 | []=>.nil
 |m::ms=>.cons .int (pr ms)
end
mutual
def LF:D->Bool
 | .lst _=>false
 | .tup ds=>Bw ds
 | .scr ds=>Bw ds
 |_=>true
def Bw:List D->Bool
 | []=>true
 |d::ds=>LF d&&Bw ds
end
theorem ze {K:W.Frag}{H:Hp}{g g':bK}(h: ∀t,g' t=false->g t=true->tV (H t)=true){a:Addr}{xs:List V}(s:SqT K (vw H g') a xs):SqT K (vw H g) a xs:=by
 rcases s with(s|⟨o,s⟩)|s
 ·obtain⟨h1,h2⟩:=vw_some.mp s
  refine .inl (.inl (vw_some.mpr ⟨?_,h2⟩))
  cases e:g a with
  |false=>rfl
  |true=>have:=h a h1 e;rw[h2] at this;cases this
 ·obtain⟨h1,h2⟩:=vw_some.mp s
  refine .inl (.inr ⟨o,vw_some.mpr ⟨?_,h2⟩⟩)
  cases e:g a with
  |false=>rfl
  |true=>have:=h a h1 e;rw[h2] at this;cases this
 ·exact .inr s
theorem z7 {K:W.Frag}{H:Hp}{g g':bK}(h: ∀t,g' t=false->g t=true->tV (H t)=true){a:Addr}{xs:List V}(s:SqR K (vw H g') a xs):SqR K (vw H g) a xs:=by
 rcases s with⟨o,s⟩|s
 ·obtain⟨h1,h2⟩:=vw_some.mp s
  refine .inl ⟨o,vw_some.mpr ⟨?_,h2⟩⟩
  cases e:g a with
  |false=>rfl
  |true=>have:=h a h1 e;rw[h2] at this;cases this
 ·exact .inr s
mutual
theorem sa {K:W.Frag}{H:Hp}{g g':bK}(h: ∀t,g' t=false->g t=true->tV (H t)=true): ∀ {v:V} {d:D},Rep K (vw H g') v d->LF d=true->Rep K (vw H g) v d
 |_,_,.non,_=>.non
 |_,_,.bl,_=>.bl
 |_,_,.int,_=>.int
 |_,_,.str,_=>.str
 |_,_,.tup s r,l=>.tup (ze h s) (hZ h r (by unfold LF at l;exact l))
 |_,_,.scr s r,l=>.scr (z7 h s) (hZ h r (by unfold LF at l;exact l))
 |_,_,.lst s r,l=>by unfold LF at l;cases l
theorem hZ {K:W.Frag}{H:Hp}{g g':bK}(h: ∀t,g' t=false->g t=true->tV (H t)=true): ∀ {v:List V} {d:List D},Reps K (vw H g') v d->Bw d=true->Reps K (vw H g) v d
 |_,_,.nil,_=>.nil
 |_,_,.cons r rs,l=>by
  unfold Bw at l;rw[Bool.and_eq_true] at l;exact .cons (sa h r l.1) (hZ h rs l.2)
end
def vn:Sl->Sl->Option Sl
 | .no,_=>some .no
 | .v d,_=>some (.v d)
 | .own _,.own b=>if Bw b=true then some (.own b) else none
 | .arg _,.arg b=>if Bw b=true then some (.arg b) else none
 |_,_=>none
def j3:aF->aF->Option aF
 | [],_=>some []
 |s::r,s2::r2=>(vn s s2).bind λs3=>(j3 r r2).map (s3:: ·)
 |_::_,[]=>none
theorem sF: ∀ {ρ ρ2 ρ3:aF},j3 ρ ρ2=some ρ3->ρ3.length=ρ.length
 | [],_,_,h=>by cases h;rfl
 |s::r,[],_,h=>by cases h
 |s::r,s2::r2,ρ3,h=>by
  obtain⟨s3,h1,h2⟩:=Option.bind_eq_some_iff.mp (show(vn s s2).bind (λs3=>(j3 r r2).map (s3:: ·))=some ρ3 from h)
  obtain⟨r3,h3,h4⟩:=Option.map_eq_some_iff.mp h2
  subst h4;simp[sF h3]
theorem nw: ∀ {ρ ρ2 ρ3:aF} {j:Nat} {s3:Sl},j3 ρ ρ2=some ρ3->ρ3[j]? =some s3-> ∃s,ρ[j]? =some s/\(s3=s/\(s=.no\/ ∃d,s=.v d)\/ ∃s2,ρ2[j]? =some s2/\s3=s2/\((∃a b,s=.own a/\s2=.own b/\Bw b=true)\/ ∃a b,s=.arg a/\s2=.arg b/\Bw b=true))
 | [],_,_,_,_,h,e=>by cases h;simp at e
 |s::r,[],_,_,_,h,_=>by cases h
 |s::r,s2::r2,ρ3,j,x,h,e=>by
  obtain⟨s3,h1,h2⟩:=Option.bind_eq_some_iff.mp (show(vn s s2).bind (λs3=>(j3 r r2).map (s3:: ·))=some ρ3 from h)
  obtain⟨r3,h3,h4⟩:=Option.map_eq_some_iff.mp h2
  subst h4;cases j with
  |zero=>
   have e:s3=x:=by simpa using e
   subst e;refine⟨s,rfl,?_⟩
   unfold vn at h1;split at h1
   ·cases h1;exact .inl ⟨rfl,.inl rfl⟩
   ·cases h1;exact .inl ⟨rfl,.inr ⟨_,rfl⟩⟩
   ·split at h1
    ·cases h1;exact .inr ⟨_,rfl,rfl,.inl ⟨_,_,rfl,rfl, ‹_›⟩⟩
    ·cases h1
   ·split at h1
    ·cases h1;exact .inr ⟨_,rfl,rfl,.inr ⟨_,_,rfl,rfl, ‹_›⟩⟩
    ·cases h1
   ·cases h1
  |succ j=>
   obtain⟨s',z1,z2⟩:=nw (j:=j) h3 (by simpa using e)
   exact⟨s',by simpa using z1,by simpa using z2⟩
section
variable {K:W.Frag}{c:Ct}{hid1 hid2 hidD:bK}{ρ ρ2 ρ3:aF}{σ σ2:St}{H H':Hp}
theorem oH(e:j3 ρ ρ2=some ρ3){j:Nat}(o:Ow ρ3[j]?):Ow ρ[j]? /\Ow ρ2[j]? :=by
 cases z:ρ3[j]? with
 |none=>rw[z] at o;exact o.elim
 |some s3=>
  rw[z] at o;obtain⟨s,h1,h2⟩:=nw e z
  rcases h2 with⟨rfl,rfl|⟨d,rfl⟩⟩|⟨s2,h3,rfl,⟨a,b,rfl,rfl,_⟩|⟨a,b,rfl,rfl,_⟩⟩
  ·exact o.elim
  ·exact o.elim
  ·exact⟨by rw[h1];trivial,by rw[h3];trivial⟩
  ·exact⟨by rw[h1];trivial,by rw[h3];trivial⟩
theorem SR.mix(h:SR K c hid1 ρ σ H)(w:Same (vw H hid1) (vw H' hidD))(h2:SR K c hid2 ρ2 σ2 H')(tr:Fo hidD H')(h0: ∀b,c.hid₀ b=true->hidD b=true)(le: ∀b,hid2 b=true->hidD b=true)
 (lo: ∀t,hid2 t=false->hidD t=true->tV (H' t)=true) (e:j3 ρ ρ2=some ρ3) (ow: ∀j:Nat,Ow ρ[j]? ->Ow ρ2[j]? ->σ2[j]? =σ[j]?):SR K c hidD ρ3 σ H':=by
 refine⟨tr.1,tr.2,h0,h2.kp,h2.t0,h.c0,h.m0,by rw[sF e];exact h.len,λj s3 z=>?_,λi j a n o1 o2=>h.ap i j a n (oH e o1).1 (oH e o2).1⟩
 obtain⟨s,h1,hh⟩:=nw e z
 rcases hh with⟨rfl,rfl|⟨d,rfl⟩⟩|⟨s2,h3,rfl,⟨a,b,rfl,rfl,lf⟩|⟨a,b,rfl,rfl,lf⟩⟩
 ·trivial
 ·obtain⟨x,q1,q2⟩:=h.sl j _ h1
  exact⟨x,q1,q2.mono w⟩
 ·obtain⟨a',xs,q1,q2,q3,q4,q5⟩:=h2.sl j _ h3
  rw[ow j (by rw[h1];trivial) (by rw[h3];trivial)] at q1
  exact⟨a',xs,q1,q2,le _ q3,q4,hZ lo q5 lf⟩
 ·obtain⟨a',xs,q1,q2,q3,q4,q5⟩:=h2.sl j _ h3
  rw[ow j (by rw[h1];trivial) (by rw[h3];trivial)] at q1
  exact⟨a',xs,q1,q2,le _ q3,q4,hZ lo q5 lf⟩
end
def eM(g:FG)(p:FT)(f:GE):List D->aF->Option (List D×aF)
 | [],ρ=>some ([],ρ)
 |d::r,ρ=>(g d ρ).bind λρ1=>(p ρ1).bind λb=>if b=true then(f ρ1).bind λq=>if LF q.1=true then(j3 ρ q.2).bind λρ3=>(eM g p f r ρ3).map λz=>(q.1::z.1,z.2) else none
  else eM g p f r ρ
def fb(m:Nat)(gi:GA)(g:FG)(p:FT)(f:GE):GE:=λρ=>(gi ρ).bind λz=>if z.1.length<=sizeLine then(eM g p f z.1 (z.2++List.replicate m .no)).bind λy=>(j3 z.2 y.2).map λρ'=>(.lst y.1,ρ') else none
theorem sI {m:Nat}{gi:GA}{g:FG}{p:FT}{f:GE}{ρ ρ':aF}{d:D}(h:fb m gi g p f ρ=some (d,ρ')): ∃ds ρ0 ys ρF,gi ρ=some (ds,ρ0)/\ds.length<=sizeLine/\eM g p f ds (ρ0++List.replicate m .no)=some (ys,ρF)/\j3 ρ0 ρF=some ρ'/\d=.lst ys:=by
 obtain⟨⟨ds,ρ0⟩,h1,h2⟩:=Option.bind_eq_some_iff.mp (show(gi ρ).bind _=_ from h)
 split at h2
 ·obtain⟨⟨ys,ρF⟩,h3,h4⟩:=Option.bind_eq_some_iff.mp h2
  obtain⟨ρ1,h5,h6⟩:=Option.map_eq_some_iff.mp h4
  cases h6
  exact⟨ds,ρ0,ys,ρF,h1, ‹_›,h3,h5,rfl⟩
 ·cases h2
section
variable {X:Cx}{c:Ct}{elt tg iter:Expr}{ifs:List Expr}{scope:Scope}{pos spos py:Pos}{N':List Str}{m:Nat}{gi:GA}{g:FG}{p:FT}{f:GE}{y:Str}
structure CLE(Y:Cx)(K:W.Frag)(c:Ct)(hid:bK)(ρF ρE:aF)(nN:Nat)(H:Hp)(D0:Addr)(fp:List Addr)(tn:Nat->Heap->Prop)(g:FG)(p:FT)(f:GE)(ds ys:List D)(σ3:St)(n i:Nat)(xs:List V)(ad:List D)(ρ:aF)(σ':St)(H':Hp)(s':Shared):Prop where
 e:n=ds.length-i
 hi:i<=ds.length
 I:Inv Y [] σ' H' s'
 st:tn i s'.heap
 fr: ∀b∈fp,H' b=none
 sr:SR K c (ba hid D0) ρ σ' H'
 kp:Kept hid H H'
 ac:H' D0=some (.lst xs)
 rp:Reps K (vw H' (ba hid D0)) xs ad
 w:Same (vw H hid) (vw H' (ba hid D0))
 hl:xs.length<=i
 na: ∀i:Nat,Ow ρ[i]? ->σ'[i]? ≠some (some (.ref D0))
 ok:OwK ρF ρ σ3 σ'
 no: ∀(j:Nat) (s:Sl),nN<=j->ρ[j]? =some s->s=.no
 go: ∃rest,eM g p f (ds.drop i) ρ=some (rest,ρE)/\ad++rest=ys
theorem uj(hcalm:X.calm=true)(hT:jz X.N.length g)
 (hg: ∀C s₀ H₀ ex,oN (aE X N' scope C s₀ H₀ ex) c tg g) (hp: ∀C s₀ H₀ ex,rK (aE X N' scope C s₀ H₀ ex) c ifs p) (he: ∀C s₀ H₀ ex,DE (aE X N' scope C s₀ H₀ ex) c .s elt f)
 {σ3:St} {H H3:Hp} {s3 s4:Shared} {hid:bK} {ρF ρE:aF} {J:It} {it D0 C:Addr} {fp:List Addr} {tn:Nat->Heap->Prop} {ds ys:List D} {R:Result->Shared->Prop}
 (hno: ∀(j:Nat) (s:Sl),X.N.length<=j->ρF[j]? =some s->s=.no)
 (I:Inv (aE X N' scope C s3 H3 fp) [] σ3 H3 s4) (sr:SR X.K c (ba hid D0) ρF σ3 H3) (h0: ∀b,c.hid₀ b=true->hid b=true) (nh:hid D0=false) (h00:c.H₀ D0=none) (na: ∀i:Nat,Ow ρF[i]? ->σ3[i]? ≠some (some (.ref D0))) (hacc:H3 D0=some (.lst [])) (sm:Kept hid H H3) (nD:H D0=none) (wv:Same (vw H hid) (vw H3 (ba hid D0))) (T:Turn X.prog X.w X.K tg J fp it tn) (st:tn 0 s4.heap) (hF: ∀b∈fp,H3 b=none)
 (io:ItOk X.K (vw H hid) J ds) (hz:ds.length<=sizeLine) (hc:eM g p f ds ρF=some (ys,ρE))
 (hR: ∀(s':Shared) (σ':St) (H':Hp) (xs:List V),Inv (aE X N' scope C s3 H3 fp) [] σ' H' s'->SR X.K c (ba hid D0) ρE σ' H'->OwK ρF ρE σ3 σ'->Kept hid H H'->H' D0=some (.lst xs)->Reps X.K (vw H' (ba hid D0)) xs ys->Same (vw H hid) (vw H' (ba hid D0))->R (.ok .next) s'):
 codeAny (model X.prog X.w) X.A (.compLoop (.ListComp elt [⟨tg,iter,ifs,0⟩] scope pos) 0 (.ref it) (.ref D0) (compEnvC scope (ml X.env.cells scope C) C X.env)) R s4:=by
 have stat: ∀ {ae:List (Addr×Obj)} {H':Hp},(∀q∈ae,q.1∉fp)->(∀b∈fp,H' b=none)-> ∀b∈fp,iT (aE X N' scope C s3 H3 fp) ae H' b:=λ{ae H'} hpn hn b hb=>
  ⟨hn b hb,(I.ok.exf b hb).1,I.ok.exfs b hb,.inl hb,(I.ok.exf b hb).2,λq hq e=>hpn q (by have hq':q∈([]:List (Addr×Obj))++ae:=hq;simpa using hq') (by rw[e];exact hb)⟩
 have no: ∀q∈([]:List (Addr×Obj)),q.1∉fp:=λq hq=>nomatch hq
 refine eY (λn s'=> ∃(i:Nat) (xs:List V) (ad:List D) (ρ:aF) (σ':St) (H':Hp),CLE (aE X N' scope C s3 H3 fp) X.K c hid ρF ρE X.N.length H D0 fp tn g p f ds ys σ3 n i xs ad ρ σ' H' s') ?_ ds.length
  ⟨0,[],[],ρF,σ3,H3,by simp,Nat.zero_le _,I,st,hF,sr,sm,hacc,.nil,wv,Nat.zero_le _,na,λi o=>⟨o,rfl⟩,hno,ys,by simpa using hc,rfl⟩
 rintro n s5 ⟨i,xs,ad,ρ,σ5,H5,rfl,hi,I5,st5,f5,sr5,sm5,ac5,rp5,w5,hl5,na5,ok5,hno5,rest,hc5,hy5⟩
 have wH:Same (vw H hid) H5:=w5.trans (dZ _ _)
 by_cases hlt:i<ds.length
 ·have hd:ds[i]? =some ds[i]:=List.getElem?_eq_getElem hlt
  have e2:ds.drop i=ds[i]::ds.drop (i+1):=List.drop_eq_getElem_cons hlt
  rw[e2] at hc5;unfold eM at hc5;obtain⟨go,yl⟩:=io.1 i ds[i] H5 hd wH
  refine bD (T.item (aE X N' scope C s3 H3 fp) rfl rfl rfl hcalm i [] s5 σ5 H5 (λ_ _=>False) I5 (stat no f5) st5 go) λr s6 hq_=>?_
  obtain⟨u,hr,h6⟩:=hq_
  subst hr;refine bD h6 λ_ s7 hq_=>?_
  obtain⟨x,H7,I7,r7,y7,st7,f7⟩:=hq_
  obtain⟨s7',rp⟩:=yl x H7 y7
  have rx:=rp (ba hid D0) sr5.tr w5
  have I7':=I7.pinned (stat no f7) (T.obj _ _ st7)
  obtain⟨ρ1,e3,hc5⟩:=Option.bind_eq_some_iff.mp hc5
  obtain⟨b,e4,hc5⟩:=Option.bind_eq_some_iff.mp hc5
  obtain⟨tl1,tl2⟩:=hT _ _ _ e3
  have fg: ∀ {σ':St} {H':Hp},SR X.K c (ba hid D0) ρ1 σ' H'->SR X.K c (ba hid D0) ρ σ' H':=λ{σ' H'} z=>z.forget tl1 λj s e=>by
   by_cases hj:j<X.N.length
   ·exact .inr ((tl2 j hj).trans e)
   ·exact .inl (hno5 j s (by omega) e)
  have owl: ∀j:Nat,Ow ρ[j]? ->Ow ρ1[j]? :=λj o=>by
   by_cases hj:j<X.N.length
   ·rw[tl2 j hj];exact o
   ·exfalso
    cases z:ρ[j]? with
    |none=>rw[z] at o;exact o
    |some s=>rw[z] at o;rw[hno5 j s (by omega) z] at o;exact o
  have keepT: ∀ {σ':St} {H':Hp} {s':Shared},Inv (aE X N' scope C s3 H3 fp) ([]++kA fp s7.heap) σ' H' s'->tn (i+1) s'.heap/\ ∀b∈fp,H' b=none:=λ{σ' H' s'} J'=>by
   refine⟨T.keep _ _ _ st7 λb hb o e=>(J'.pin (b,o) (List.mem_append_right _ (List.mem_append_right _ (dh hb e)))).1,λb hb=>?_⟩
   obtain⟨o,e,_⟩:=T.obj _ _ st7 b hb
   exact(J'.pin (b,o) (List.mem_append_right _ (List.mem_append_right _ (dh hb e)))).2.1
  refine bD (hg C s3 H3 fp (ba hid D0) ρ ds[i] _ s7 σ5 H7 x u (λσ' H'=>H'=H7/\SR X.K c (ba hid D0) ρ1 σ' H7/\OwK ρ ρ1 σ5 σ') I7' r7 ⟨sr5.ext s7',rx,ρ1,e3,λσ' z o=>⟨rfl,z,o⟩⟩) λ_ s8 hq_=>?_
  obtain⟨σ8,H8,I8,e8,q8,o8⟩:=hq_
  subst e8;have na8: ∀i:Nat,Ow ρ1[i]? ->σ8[i]? ≠some (some (.ref D0)):=λj o=>by
   rw[(o8 j o).2];exact na5 j (o8 j o).1
  refine bD (hp C s3 H3 fp (ba hid D0) ρ1 _ s8 σ8 H8 (λb' H'=>b'=b/\Same H8 H') I8 ⟨q8,b,e4,λH' s'=>⟨rfl,s'⟩⟩) λok s9 hq_=>?_
  obtain⟨H9,I9,e9,sm9⟩:=hq_
  subst e9;have w9:Same (vw H5 (ba hid D0)) (vw H9 (ba hid D0)):=aR (s7'.trans sm9)
  have k9:Kept hid H H9:=sm5.trans (.of (s7'.trans sm9))
  have a9:H9 D0=some (.lst xs):=sm9 _ _ (s7' _ _ ac5)
  have ok8:OwK ρF ρ σ3 σ8:=λj o=>⟨(ok5 j o).1,by rw[(o8 j (owl j o)).2];exact(ok5 j o).2⟩
  cases ok with
  |false=>
   rw[if_neg (by decide)] at hc5
   obtain⟨k1,k2⟩:=keepT I9
   exact⟨ds.length- (i+1),by omega,i+1,xs,ad,ρ,σ8,H9,rfl,hlt,I9.unpinned,k1,k2,fg (q8.ext sm9),k9,a9,rp5.mono w9,w5.trans w9,by omega,λj o=>na8 j (owl j o),ok8,hno5,rest,hc5,hy5⟩
  |true=>
   rw[if_pos rfl] at hc5;obtain⟨⟨yv,ρ2⟩,e5,hc5⟩:=Option.bind_eq_some_iff.mp hc5
   split at hc5
   ·rename_i lf
    obtain⟨ρ3,e6,hc5⟩:=Option.bind_eq_some_iff.mp hc5
    obtain⟨⟨rest',ρx⟩,e7,hc5⟩:=Option.map_eq_some_iff.mp hc5
    cases hc5
    show wpAny (model X.prog X.w) X.A (eval elt _) _ _ s9;have srs:SR X.K c hid ρ1 σ8 H9:=(q8.ext sm9).show h0 na8
    refine bD (he C s3 H3 fp hid ρ1 _ s9 σ8 H9 (λv H'=>PostE X.K c hid .s ρ2 σ8 H9 H' v yv) I9 ⟨srs,yv,ρ2,e5,λv H' z=>z⟩) λv s10 hq_=>?_
    obtain⟨z,H10,I10,rz,kp10,sr10,rp10⟩:=hq_
    have a10:H10 D0=some (.lst xs):=kp10 _ _ a9 nh
    refine bD (dH (X:=aE X N' scope C s3 H3 fp) _ s10 σ8 H10 (.ref D0) [z] (.ref D0) [v] (λ_ H'=>H'=bN H10 D0 (.lst (xs++[z]))) I10 rfl (.cons rz .nil) ⟨D0,xs,z,rfl,rfl,a10,by omega,rfl⟩) λ_ s11 ⟨_,H11,I11,_,e11⟩=>?_
    subst e11;obtain⟨k1,k2⟩:=keepT I11
    have lo: ∀t,hid t=false->ba hid D0 t=true->tV (H10 t)=true:=λt h1 h2=>by
     unfold ba at h2;rw[h1] at h2;have:t=D0:=by simpa using h2
     subst this;rw[a10];rfl
    have kD:Kept (ba hid D0) H9 H10:=λb o q hb=>kp10 b o q (vh hb).1
    have w10:Same (vw H5 (ba hid D0)) (vw H10 (ba hid D0)):=w9.trans kD.vw
    have vv:vw (bN H10 D0 (.lst (xs++[z]))) (ba hid D0)=vw H10 (ba hid D0):=eE eS
    have q10:SR X.K c (ba hid D0) ρ3 σ8 H10:=(fg (q8.ext sm9)).mix kD.vw sr10 ⟨λb hb=>by
     by_cases e:b=D0
     ·subst e;exact⟨_,a10⟩
     ·unfold ba at hb
      exact sr10.tr b (by simpa [e] using hb),λb xs hb q=>by
     by_cases e:b=D0
     ·subst e;rw[a10] at q;cases q
     ·unfold ba at hb
      exact sr10.ht b xs (by simpa [e] using hb) q⟩ (λb q=>cu (h0 b q)) (λb q=>cu q) lo e6 λ_ _ _=>rfl
    have na10: ∀i:Nat,Ow ρ3[i]? ->σ8[i]? ≠some (some (.ref D0)):=λj o=>sr10.notOw nh j (oH e6 o).2
    refine⟨ds.length- (i+1),by omega,i+1,xs++[z],ad++[yv],ρ3,σ8,_,rfl,hlt,I11.unpinned,k1,k2,?_,λb o e hb=>?_,aL,?_,?_,by simp;omega,na10,λj o=>ok8 j (oH e6 o).1,λj s hj e=>?_,rest',e7,by rw[<-hy5];simp⟩
    ·exact q10.write eS h00 na10
    ·rw[aH (be e nD)];exact kp10 _ _ (k9 _ _ e hb) hb
    ·rw[vv];exact(rp5.mono w10).append (.cons (sa lo rp10 lf) .nil)
    ·rw[vv];exact w5.trans w10
    ·obtain⟨s',z1,z2⟩:=nw e6 e
     have:=hno5 j s' hj z1
     subst this;rcases z2 with⟨rfl,_⟩|⟨s2,_,_,⟨a,b,z,_⟩|⟨a,b,z,_⟩⟩
     ·rfl
     ·cases z
     ·cases z
   ·cases hc5
 ·have e:i=ds.length:=by omega
  subst e;rw[List.drop_eq_nil_of_le (Nat.le_refl _)] at hc5;cases hc5
  rw[List.append_nil] at hy5;subst hy5;refine bD (T.done (aE X N' scope C s3 H3 fp) rfl rfl rfl hcalm ds.length [] s5 σ5 H5 (λ_ _=>False) I5 (stat no f5) st5 (io.2 H5 wH)) λr s6 hq_=>?_
  obtain⟨hr,I6⟩:=hq_
  subst hr;exact hR s6 σ5 H5 xs I6 sr5 ok5 sm5 ac5 rp5 w5
theorem sD(hcalm:X.calm=true)(hk:scope.kind=.function)(hs:ud scope X.env.scope=true)(hn:ur X.N N' scope=true)(hm:N'.length-X.N.length=m)(hT:jz X.N.length g)
 (hg: ∀C s₀ H₀ ex,oN (aE X N' scope C s₀ H₀ ex) c tg g) (hp: ∀C s₀ H₀ ex,rK (aE X N' scope C s₀ H₀ ex) c ifs p) (he: ∀C s₀ H₀ ex,DE (aE X N' scope C s₀ H₀ ex) c .s elt f)
 {E:Value->Shared->Prop} {ae:List (Addr×Obj)} {σ:St} {H:Hp} {s:Shared} {hid:bK} {ρ ρE:aF} {J:It} {it:Addr} {fp:List Addr} {tn:Nat->Heap->Prop} {ds ys:List D} {RR:Value->Addr->Result->Shared->Prop}
 (I:Inv X ae σ H s) (sr:SR X.K c hid ρ σ H) (T:Turn X.prog X.w X.K tg J fp it tn) (st:tn 0 s.heap) (hF: ∀b∈fp,iT X ae H b) (io:ItOk X.K (vw H hid) J ds) (hz:ds.length<=sizeLine) (hc:eM g p f ds (ρ++List.replicate m .no)=some (ys,ρE))
 (hR: ∀(D C:Addr) (s':Shared) (σ':St) (H':Hp) (xs:List V),s.heap.objs.size<=D->s.heap.objs.size<=C->D≠C->H D=none->Kept hid H H'->H' D=some (.lst xs)->Reps X.K (vw H' (ba hid D)) xs ys->SR X.K c (ba hid D) ρE σ' H'->OwK (ρ++List.replicate m .no) ρE (σ++List.replicate m none) σ'->Same (vw H hid) (vw H' (ba hid D))->(∃m,s'.heap.Ns C m)->H' C=none->s'.os=s.os->AllBare s'.gens->HOk X.prog X.w H' s'.heap->Un (pO X.stack) fp H H' s.heap s'.heap->RR (.ref D) C (.ok .next) s'):
 wpAny (model X.prog X.w) X.A (newList []) (λacc s₃=>wpAny (model X.prog X.w) X.A (newFunctionEnv scope X.env.globals (qw X.env.cells scope.names []) [] X.env.qual none .none (some X.env)) (λcenv s₄=>
  codeAny (model X.prog X.w) X.A (.compStart (.ListComp elt [⟨tg,iter,ifs,0⟩] scope pos) 0 (.ref it) acc {cenv with scope:=relabel scope X.env}) (RR acc cenv.locals) s₄) E s₃) E s:=by
 refine wpAny_newObj_type (qA λh₁ hns₁ kp1 oc₁=>?_)
 dsimp only at hns₁ kp1 oc₁⊢
 generalize hH2:s.heap.push {cls:=.type "list",dict:=none,data:=.seq ([]:List Value).toArray}=H2 at hns₁ kp1 oc₁⊢
 have hC:H2.objs.size=s.heap.objs.size+1:=by rw[<-hH2,Heap.size_push]
 have hD:H s.heap.objs.size=none:=I.hok.fresh (Nat.le_refl _)
 have I2:Inv X ae σ (bN H s.heap.objs.size (.lst [])) {s with heap:=H2}:=by
  rw[<-hH2];exact I.laid (t':=s.toks) (λb o e=>Heap.get?_push_of_some _ e) (Nat.le_refl _) ⟨Nat.zero_le _,[],0,.nil,Heap.get?_push_size _ rfl⟩
 have fpLt: ∀b∈fp,b<s.heap.objs.size:=λb hb=>let⟨o,e,_⟩:=T.obj 0 s.heap st b hb;Heap.lt_size e
 have hF2: ∀b∈fp,iT X ae (bN H s.heap.objs.size (.lst [])) b:=λb hb=>⟨by rw[aH (Nat.ne_of_lt (fpLt b hb))];exact(hF b hb).1,(hF b hb).2⟩
 have kp0: ∀b o,s.heap.get? b=some o->H2.get? b=some o:=λb o e=>by rw[<-hH2];exact Heap.get?_push_of_some _ e
 have IY:=nR (tk:=s.toks) (N':=N') (fp:=fp) I2 hF2 (λb hb=>let⟨o,e,_⟩:=T.obj 0 s.heap st b hb;⟨o,kp0 b o e⟩) hk hs hn hns₁ kp1 oc₁
 rw[hm] at IY;dsimp only at IY;have sr0:SR X.K c (ba hid s.heap.objs.size) (ρ++List.replicate m .no) (σ++List.replicate m none) (bN H s.heap.objs.size (.lst [])):=(sr.hide (aX hD _) hD aL).more m
 have hρ:ρ.length=X.N.length:=by rw[<-sr.len];exact I.len
 have nf:hid s.heap.objs.size=false:=sr.fresh hD
 have st1:tn 0 h₁:=T.keep _ _ _ st λb hb o e=>kp1 b o (kp0 b o e)
 have na0: ∀i:Nat,Ow (ρ++List.replicate m Sl.no)[i]? ->(σ++List.replicate m none)[i]? ≠some (some (V.ref s.heap.objs.size)):=(sr.more m).notOw nf
 have wv:Same (vw H hid) (vw (bN H s.heap.objs.size (.lst [])) (ba hid s.heap.objs.size)):=by rw[qY hD];exact Same.refl _
 have loop: ∀s4:Shared,s4={s with heap:=h₁,toks:=s.toks}->
  codeAny (model X.prog X.w) X.A (.compLoop (.ListComp elt [⟨tg,iter,ifs,0⟩] scope pos) 0 (.ref it) (.ref s.heap.objs.size) (compEnvC scope (ml X.env.cells scope H2.objs.size) H2.objs.size X.env)) (RR (.ref s.heap.objs.size) H2.objs.size) s4:=by
  rintro s4 rfl
  refine uj (H:=H) (hid:=hid) hcalm hT hg hp he (λj s' hj e=>?_) IY sr0 sr.h0 nf (sr.fresh0 hD) na0 aL (.of (aX hD _)) hD wv T st1 (λb hb=>(hF2 b hb).1) io hz hc ?_
  ·rw[List.getElem?_append_right (by omega),List.getElem?_replicate] at e
   split at e
   ·cases e;rfl
   ·cases e
  intro s' σ' H' xs I' srE owk sm' hx' rp' w';have un1:Un (pO X.stack) fp H (bN H s.heap.objs.size (.lst [])) s.heap H2:=Un.laid (λb o e=>kp0 b o e) (Nat.le_refl _) hD
  exact hR s.heap.objs.size H2.objs.size s' σ' H' xs (Nat.le_refl _) (by rw[hC];exact Nat.le_succ _) (by rw[hC];exact Nat.ne_of_lt (Nat.lt_succ_self _)) hD sm' hx' rp' srE owk w' (let⟨m,hm,_⟩:=I'.loc;⟨m,hm⟩) I'.free I'.os I'.bare I'.hok (un1.trans I'.base)
 exact codeAny_compStart_list (loop _ rfl) (T.self X.A 0 _ _ _ st1 (loop _ rfl))
theorem se(i:Nat)(hcalm:X.calm=true)(hN:X.N.Nodup)(hT:jz X.N.length g)(hi:DI X c tg iter gi)
 (hg: ∀C s₀ H₀ ex,oN (aE X N' scope C s₀ H₀ ex) c tg g) (hp: ∀C s₀ H₀ ex,rK (aE X N' scope C s₀ H₀ ex) c ifs p) (he: ∀C s₀ H₀ ex,DE (aE X N' scope C s₀ H₀ ex) c .s elt f)
 (hsw:swapsWith (.ListComp elt [⟨tg,iter,ifs,0⟩] scope pos) (some (.Name y py)) spos.line X.env=pure true) (hyi:X.N[i]? =some y) (hy:X.env.scope.names.lookup y=some .local)
 (hk:scope.kind=.function) (hs:ud scope X.env.scope=true) (hn:ur X.N N' scope=true) (hm:N'.length-X.N.length=m) (hset: ∀x,foldedSetIterable iter X.env x=pure x) (ρ:aF):
 PS X (.Assign [.Name y py] (.ListComp elt [⟨tg,iter,ifs,0⟩] scope pos) spos) (BV (λσ H Q=> ∃hid,Fm X.K c hid .n (fb m gi g p f) ρ σ H Q) (vL i)):=by
 intro ae s σ H E I hq;obtain⟨hid,sr,d,ρ',hd,q⟩:=hq
 obtain⟨ds,ρ0,ys,ρF,e1,hz,hc,hx,rfl⟩:=sI hd
 rw[exec_Assign_Name_used _ _ _ _ hsw];refine wpAny_bind (wpAny_standAt (wpAny_bind ?_))
 show wpAny _ X.A (do let _ <-comprehension (.ListComp elt [⟨tg,iter,ifs,0⟩] scope pos) scope X.env _ (newList []) false (eval iter X.env) (some (assign (.Name y py) X.env))) _ _ s
 refine wpAny_bind (wpAny_mono (wpAny_comprehension_free (use:=some (assign (.Name y py) X.env)) (Q:=λ_ s'=>SP X ae E .next s') rfl hset (fc λx hx=>I.ok.has x (ie hs x hx)) hk (j2 hs) ?_) (λ_ s' hq=>wpAny_pure (wpAny_pure hq)) λ_ _ e=>e)
 refine bD (hi hid ρ ae s σ H (λJ H'=>Kept hid H H'/\SR X.K c hid ρ0 σ H'/\ItOk X.K (vw H' hid) J ds) I ⟨sr,ds,ρ0,e1,λJ H' k1 s1 io=>⟨k1,s1,io⟩⟩) λv s1 h1=>bD h1 λitv s2 h2=>?_
 obtain⟨it,fp,tn,J,H2,rfl,I2,T,st2,f2,kp,sr2,io⟩:=h2
 refine sD (RR:=λacc C=>compPost (model X.prog X.w) X.A X.xe (some (assign (.Name y py) X.env)) (λ_ s'=>SP X ae E .next s') acc C) hcalm hk hs hn hm hT hg hp he I2 sr2 T st2 f2 io hz hc ?_
 intro D C s' σ' H' xs hDge hCge hDC hD sm' hx' rp srE owk w' ⟨mm,hns⟩ hC' hos hbare hok hun;have I3:Inv X ae σ H' s':=I2.call' (ch:=fp) hos hun hok hbare λb hb=>⟨(f2 b hb).2.2.2.1,(f2 b hb).2.1,(f2 b hb).2.2.2.2.1,(f2 b hb).2.2.2.2.2⟩
 have nf:hid D=false:=sr2.fresh hD
 have hD0:H D=none:=by
  cases z:H D with
  |none=>rfl
  |some o=>rw[kp D o z nf] at hD;cases hD
 have srO:SR X.K c (ba hid D) ρ' σ H':=sr2.mix w' srE srE.trk (λb q=>cu (sr2.h0 b q)) (λb q=>q) (λt h1 h2=>by rw[h1] at h2;cases h2) hx λj o1 o2=>by
  have lt:j<ρ0.length:=by
   by_cases lt:j<ρ0.length
   ·exact lt
   ·rw[List.getElem?_eq_none (by omega)] at o1;exact o1.elim
  rw[(owk j o2).2,List.getElem?_append_left (by rw[sr2.len];exact lt)]
 have fin:=q (.ref D) H' ⟨kp.trans sm',D,xs,ys,rfl,rfl,hD0,hx',sr2.fresh0 hD,nf,srO,rp,λj o=>sr2.notOw nf j (oH hx o).1⟩
 have ltC: ∀b o,s2.heap.get? b=some o->b≠C:=λb o e z=>by subst z;exact absurd (Heap.lt_size e) (Nat.not_lt.mpr hCge)
 have hLC:C≠X.env.locals:=λz=>by
  have:=I2.lt
  rw[<-z] at this;exact absurd this (Nat.not_lt.mpr hCge)
 show wpAny _ X.A (assign (.Name y py) X.env (.ref D)) _ _ s';refine wpAny_assign_Name (lZ (v:=.ref D) I3 hN hyi (.inl hy) rfl (λs'' I4 hb=>?_) (.inr hy))
 obtain⟨a,hsb,ha⟩:=hb
 have hCa:C≠a:=by
  rcases ha with rfl|ha
  ·exact hLC
  ·obtain⟨w',o,ho,_⟩:=I2.cell y a ha
   exact λz=>ltC a o ho z.symm
 refine⟨mm,hns.sameBut hsb hCa,λh3 hs3=>⟨_,H',?_,fin⟩⟩
 refine I4.turned (t':=s''.toks) (it:=C) (λb o nb e=>(hs3.2 b nb).trans e) hC' hLC (.inr (Nat.le_trans I2.sz hCge)) (λx c' e z=>?_) (λq hq z=>?_)
 ·obtain⟨w',o,ho,_⟩:=I2.cell x c' e
  exact ltC c' o ho z
 ·exact ltC q.1 q.2 (I2.pin q hq).1 z
theorem z9(i:Nat){k:Kd}(hcalm:X.calm=true)(hN:X.N.Nodup)(hT:jz X.N.length g)(hi:DI X c tg iter gi)
 (hg: ∀C s₀ H₀ ex,oN (aE X N' scope C s₀ H₀ ex) c tg g) (hp: ∀C s₀ H₀ ex,rK (aE X N' scope C s₀ H₀ ex) c ifs p) (he: ∀C s₀ H₀ ex,DE (aE X N' scope C s₀ H₀ ex) c .s elt f)
 (hsw:swapsWith (.ListComp elt [⟨tg,iter,ifs,0⟩] scope pos) (some (.Name y py)) spos.line X.env=pure true:=by rfl) (hyi:X.N[i]? =some y:=by rfl) (hy:X.env.scope.names.lookup y=some .local:=by rfl)
 (hk:scope.kind=.function:=by rfl) (hs:ud scope X.env.scope=true:=by kernel_rfl) (hn:ur X.N N' scope=true:=by kernel_rfl) (hm:N'.length-X.N.length=m:=by rfl) (hset: ∀x,foldedSetIterable iter X.env x=pure x:=by intro _;rfl):
 DS X c k (.Assign [.Name y py] (.ListComp elt [⟨tg,iter,ifs,0⟩] scope pos) spos) (zu i (fb m gi g p f)):=λρ=>PS.imp (se i hcalm hN hT hi hg hp he hsw hyi hy hk hs hn hm hset ρ) λD σ H hq_=>by
 obtain⟨hid,sr,q⟩:=hq_
 unfold zu at q;cases e1:fb m gi g p f ρ with
 |none=>rw[e1] at q;exact q.elim
 |some z=>
  rw[e1] at q;exact⟨hid,sr,z.1,z.2,e1,λv H' pe=>GW pe q⟩
theorem tp(i:Nat){k:Kd}(hcalm:X.calm=true)(hN:X.N.Nodup)(hT:jz X.N.length g)(hi:DI X c tg iter gi)
 (hg: ∀C s₀ H₀ ex,oN (aE X N' scope C s₀ H₀ ex) c tg g) (hp: ∀C s₀ H₀ ex,rK (aE X N' scope C s₀ H₀ ex) c ifs p) (he: ∀C s₀ H₀ ex,DE (aE X N' scope C s₀ H₀ ex) c .s elt f)
 (hsw:swapsWith (.ListComp elt [⟨tg,iter,ifs,0⟩] scope pos) (some (.Name y py)) spos.line X.env=pure true:=by rfl) (hyi:X.N[i]? =some y:=by rfl) (hy:X.env.scope.names.lookup y=some .local:=by rfl)
 (hk:scope.kind=.function:=by rfl) (hs:ud scope X.env.scope=true:=by kernel_rfl) (hn:ur X.N N' scope=true:=by kernel_rfl) (hm:N'.length-X.N.length=m:=by rfl) (hset: ∀x,foldedSetIterable iter X.env x=pure x:=by intro _;rfl):
 DS X c k (.Assign [.Name y py] (.ListComp elt [⟨tg,iter,ifs,0⟩] scope pos) spos) (jc i (fb m gi g p f)):=λρ=>PS.imp (se i hcalm hN hT hi hg hp he hsw hyi hy hk hs hn hm hset ρ) λD σ H hq_=>by
 obtain⟨hid,sr,q⟩:=hq_
 unfold jc at q;cases e1:fb m gi g p f ρ with
 |none=>rw[e1] at q;exact q.elim
 |some z=>
  rw[e1] at q;refine⟨hid,sr,z.1,z.2,e1,λv H' pe=>?_⟩
  obtain⟨kp,s',r⟩:=PostE.toS sr.h0 pe
  exact q _ H' hid (s'.setV r i) kp.vw
end
theorem yo(its:List Value):slicePick its.toArray none none (some (-1))=its.reverse.toArray:=by
 unfold slicePick;rw[W.krv_bounds];dsimp only;rw[W.krv_sliceRange,W.krv_range];rw[List.filterMap_reverse,List.size_toArray];have:List.filterMap (λx=>its.toArray[x]?) (List.range its.length)=its:=by
  have:=PySem.List.filterMap_getElem?_range_length its
  simpa using this
 rw[this]
theorem Ad {xs:List V}{us:List Value}(r:Vals xs us):Vals xs.reverse us.reverse:=by
 induction r with
 |nil=>exact .nil
 |cons r t ih=>rw[List.reverse_cons,List.reverse_cons];exact Vals.append ih (.cons r .nil)
section
variable {X:Cx}{c:Ct}{e st:Expr}{k:Kd}{te:TE}{ts:TO}{f g:FE}{pos p2:Pos}{lo hi:Option Expr}{l u:FO}
theorem Gr {α:Type}{o:Option Expr}{t:α->TO}(h: ∀z,PO X o (t z)):PO X o (λσ H Q=> ∃z,t z σ H Q):=λae s σ H Q I ⟨z,q⟩=>h z ae s σ H Q I q
theorem xF(he:PE X e te)(hst:PO X (some st) ts)(hno: ∀(v:Value) (sl:Addr),subscripted (.Slice none none (some st) p2) false v (.ref sl)=operate [v,.ref sl] (getItem v (.ref sl)):=by intro _ _;with_unfolding_all rfl):
 PE X (.Subscript e (.Slice none none (some st) p2) pos) (λσ H Q=>te σ H λx H1=>ts σ H1 λo H2=>o=some (-1)/\ ∃a xs,x=.ref a/\SqL X.K H2 a xs/\ ∀p,H2 p=none->Q (.ref p) (bN H2 p (.lst xs.reverse))):=by
 intro ae s σ H Q I h;refine Subscript_ (bD (he ae s σ H _ I h) λv s1 hq_=>?_)
 obtain⟨x,H1,I1,r1,q1⟩:=hq_
 refine wpAny_Slice ?_
 rw[evalPart_none];refine wpAny_pure (wpAny_pure (bD (hst ae s1 σ H1 _ I1 q1) λvs s2 hq_=>?_))
 obtain⟨o,H2,I2,po,e0,a,xs,e1,hx,q⟩:=hq_
 subst e0 e1;cases r1
 have I4:Inv X ae σ H2 {s2 with heap:=s2.heap.push {cls:=.type "slice",data:=.fields #[.none,.none,vs]}}:=I2.kept (t':=s2.toks) λb ob q=>Heap.get?_push_of_some _ q
 obtain⟨its,r,ht,hz⟩:=I4.list hx
 have hlen:=r.length
 show wpAny (model X.prog X.w) X.A (subscriptTail e (.Slice none none (some st) p2) (.ref a) (.ref s2.heap.objs.size)) (EP X ae σ Q) X.xe {s2 with heap:=s2.heap.push {cls:=.type "slice",data:=.fields #[.none,.none,vs]}}
 refine tail_any (ops:=[.ref a,.ref s2.heap.objs.size]) ht.isList.typeIs slot_list_getitem.lookup ?_ (hno _ _)
 refine wpAny_getItem_list_slice ht.isList (Heap.IsSliceOf.new ..) .none .none po (by simp) ?_ (by rw[List.size_toArray]<;>omega)
 rw[yo];refine⟨.ref _,_,I4.laid (t':=s2.toks) (o:=.lst xs.reverse) (λb ob q=>Heap.get?_push_of_some _ q) (Nat.le_refl _) ?_,rfl,q _ (I4.hok.fresh (Nat.le_refl _))⟩
 exact⟨by rw[List.length_reverse];exact hz,_,0,Ad r,Heap.get?_push_size _ rfl⟩
def o0(f:FE)(o:FO):FE:=λρ=>(f ρ).bind λd=>match d with
 | .lst ds=>(o ρ).bind λz=>if z=some (-1) then some (.lst ds.reverse) else none
 |_=>none
theorem uH {o:FO}(he:DP X c k e f)(hs:DO X c (some st) o)(hno: ∀(v:Value) (sl:Addr),subscripted (.Slice none none (some st) p2) false v (.ref sl)=operate [v,.ref sl] (getItem v (.ref sl)):=by intro _ _;with_unfolding_all rfl):
 DP X c .n (.Subscript e (.Slice none none (some st) p2) pos) (o0 f o):=λhid ρ=>PE.imp (xF (he hid ρ) (hs hid ρ) hno) λσ H Q hq_=>by
 obtain⟨sr,d,hd,q⟩:=hq_
 unfold o0 at hd;obtain⟨z,e1,hd⟩:=Option.bind_eq_some_iff.mp hd
 split at hd
 ·obtain⟨w,e2,hd⟩:=Option.bind_eq_some_iff.mp hd
  split at hd
  ·rename_i ew
   subst ew;cases hd
   refine⟨sr,_,e1,λv H1 s1 r1=>⟨sr.ext s1,_,e2,λH2 s2=>⟨rfl,?_⟩⟩⟩
   obtain⟨a,xs,rfl,h1,h2⟩:=((RK.b k r1 λa n=>sr.fresh n).ext s2).lst
   exact⟨a,xs,rfl,h1,λp hp=>q _ _ ((s1.trans s2).trans (aX hp _)) (gv hp (s1.trans s2) h2.reverse)⟩
  ·cases hd
 ·cases hd
def yO(f:GE)(l u:FO):GE:=λρ=>(f ρ).bind λz=>match z.1 with
 | .lst ds=>(l z.2).bind λlo=>(u z.2).map λhi=>(.lst (iz ds lo hi),z.2)
 |_=>none
theorem EZ {f:GE}(he:DE X c .s e f)(hl:DO X c lo l)(hu:DO X c hi u):DE X c .n (.Subscript e (.Slice lo hi none p2) pos) (yO f l u):=λhid ρ=>
 PE.imp (nC vV (he hid ρ) (Gr λρ'=>hl hid ρ') (Gr λρ'=>hu hid ρ')) λσ H Q hq_=>by
  obtain⟨sr,d,ρ',hd,q⟩:=hq_
  unfold yO at hd;obtain⟨⟨z,ρ1⟩,e1,hd⟩:=Option.bind_eq_some_iff.mp hd
  dsimp only at hd;split at hd
  ·obtain⟨o1,e2,hd⟩:=Option.bind_eq_some_iff.mp hd
   obtain⟨o2,e3,hd⟩:=Option.map_eq_some_iff.mp hd
   cases hd
   refine⟨sr,_,_,e1,λv H1 ⟨k1,s1,r1⟩=>⟨_,s1,o1,e2,λH2 s2=>⟨_,s1.ext s2,o2,e3,λH3 s3=>?_⟩⟩⟩
   obtain⟨a,xs,rfl,h1,h2⟩:=(Rep1.ext (.inl r1) (s2.trans s3)).lst
   have sr3:=s1.ext (s2.trans s3)
   exact⟨a,xs,rfl,h1,λp hp=>q _ _ (PostE.left k1 (s1.post ((s2.trans s3).trans (aX hp _)) (gv hp (s2.trans s3) (oi h2 o1 o2)) (by decide)))⟩
  ·cases hd
end
def rZ(i:Nat)(ρ:aF):Option (List ((List bS)×D)):=match ρ[i]? with
 |some (.ob (.dT kvs))=>some kvs
 |_=>none
theorem jU {i:Nat}{ρ:aF}{kvs:List ((List bS)×D)}(h:rZ i ρ=some kvs):ρ[i]? =some (.ob (.dT kvs)):=by
 unfold rZ at h;split at h
 ·cases h;assumption
 ·cases h
def fM(kvs:List ((List bS)×D))(k:List bS):Option D:=(kvs.find? λkv=>decide (kv.1=k)).map (·.2)
def oS(kvs:List ((List bS)×D))(k:List bS)(d:D):List ((List bS)×D):=
 if(kvs.any λkv=>decide (kv.1=k))=true then kvs.map (λkv=>if kv.1=k then(kv.1,d) else kv) else kvs++[(k,d)]
def KRt(K:W.Frag)(F:Hp)(us:List ((List bS)×V))(kvs:List ((List bS)×D)):Prop:=us.map (·.1)=kvs.map (·.1)/\Reps K F (us.map (·.2)) (kvs.map (·.2))
theorem KRt.inv {K:W.Frag}{F:Hp}: ∀ {us:List ((List bS)×V)} {kvs:List ((List bS)×D)},KRt K F us kvs->(us=[]/\kvs=[])\/ ∃k v us' d kvs',us=(k,v)::us'/\kvs=(k,d)::kvs'/\Rep K F v d/\KRt K F us' kvs'
 | [],[],_=>.inl ⟨rfl,rfl⟩
 | [],_::_,h=>by cases h.1
 |_::_,[],h=>by cases h.1
 |(k,v)::us,(k',d)::kvs,h=>by
  obtain⟨h1,h2⟩:=h
  rw[List.map_cons,List.map_cons] at h1 h2;injection h1 with e1 e2
  cases h2 with
  |cons r rs=>
   have e1:k=k':=e1
   subst e1;exact .inr ⟨k,v,us,d,kvs,rfl,rfl,r,e2,rs⟩
theorem KRt.val {K:W.Frag}{F:Hp}(k:List bS): ∀ {us:List ((List bS)×V)} {kvs:List ((List bS)×D)},KRt K F us kvs->(jh us k=none/\fM kvs k=none)\/ ∃v d,jh us k=some v/\fM kvs k=some d/\Rep K F v d:=by
 intro us
 induction us with
 |nil=>
  intro kvs h;rcases h.inv with⟨_,rfl⟩|⟨_,_,_,_,_,e,_⟩
  ·exact .inl ⟨rfl,rfl⟩
  ·cases e
 |cons p us ih=>
  intro kvs h;rcases h.inv with⟨e,_⟩|⟨k',v,us',d,kvs',e,rfl,r,rs⟩
  ·cases e
  ·cases e
   by_cases ek:k'=k
   ·exact .inr ⟨v,d,kY ek,by simp[fM,List.find?_cons,ek],r⟩
   ·have e1:jh ((k',v)::us) k=jh us k:=lI ek
    have e2:fM ((k',d)::kvs') k=fM kvs' k:=by simp[fM,List.find?_cons,ek]
    rw[e1,e2];exact ih rs
theorem KRt.any {K:W.Frag}{F:Hp}(k:List bS){us:List ((List bS)×V)}{kvs:List ((List bS)×D)}(h:KRt K F us kvs):(us.any λkv=>decide (kv.1=k))=kvs.any λkv=>decide (kv.1=k):=by
 have e1:(us.any λkv=>decide (kv.1=k))=(us.map (·.1)).any λx=>decide (x=k):=by rw[List.any_map];rfl
 have e2:(kvs.any λkv=>decide (kv.1=k))=(kvs.map (·.1)).any λx=>decide (x=k):=by rw[List.any_map];rfl
 rw[e1,e2,h.1]
theorem KRt.cons {K:W.Frag}{F:Hp}{k:List bS}{v:V}{d:D}{us:List ((List bS)×V)}{kvs:List ((List bS)×D)}(r:Rep K F v d)(h:KRt K F us kvs):KRt K F ((k,v)::us) ((k,d)::kvs):=⟨by rw[List.map_cons,List.map_cons,h.1],.cons r h.2⟩
theorem KRt.repl {K:W.Frag}{F:Hp}(k:List bS){v:V}{d:D}(r:Rep K F v d): ∀ {us:List ((List bS)×V)} {kvs:List ((List bS)×D)},KRt K F us kvs->KRt K F (us.map (λkv=>if kv.1=k then(kv.1,v) else kv)) (kvs.map (λkv=>if kv.1=k then(kv.1,d) else kv)):=by
 intro us
 induction us with
 |nil=>
  intro kvs h;rcases h.inv with⟨_,rfl⟩|⟨_,_,_,_,_,e,_⟩
  ·exact h
  ·cases e
 |cons p us ih=>
  intro kvs h;rcases h.inv with⟨e,_⟩|⟨k',v',us',d',kvs',e,rfl,r',rs⟩
  ·cases e
  ·cases e
   rw[List.map_cons,List.map_cons]
   by_cases ek:k'=k
   ·rw[if_pos ek,if_pos ek];exact KRt.cons r (ih rs)
   ·rw[if_neg ek,if_neg ek];exact KRt.cons r' (ih rs)
theorem KRt.put {K:W.Frag}{F:Hp}(k:List bS){v:V}{d:D}(r:Rep K F v d){us:List ((List bS)×V)}{kvs:List ((List bS)×D)}(h:KRt K F us kvs):KRt K F (mt us k v) (oS kvs k d):=by
 unfold mt oS;rw[h.any k];split
 ·exact h.repl k r
 ·refine⟨by rw[List.map_append,List.map_append,h.1];rfl,?_⟩
  rw[List.map_append,List.map_append];exact h.2.append (.cons r .nil)
theorem KRt.len {K:W.Frag}{F:Hp}{us:List ((List bS)×V)}{kvs:List ((List bS)×D)}(h:KRt K F us kvs):us.length=kvs.length:=by
 have:=congrArg List.length h.1
 simpa using this
section
variable {K:W.Frag}{c:Ct}{hid:bK}{ρ:aF}{σ:St}{H:Hp}{a:Addr}
theorem SR.dictT(h:SR K c hid ρ σ H){i:Nat}{kvs:List ((List bS)×D)}(e:rZ i ρ=some kvs): ∃a us,σ[i]? =some (some (.ref a))/\hid a=true/\c.H₀ a=none/\H a=some (.dT us)/\KRt K (vw H hid) us kvs:=by
 obtain⟨a,h1,⟨h2,h3⟩,us,h4,h5,h6⟩:=h.sl i _ (jU e)
 exact⟨a,us,h1,h2,h3,h4,h5,h6⟩
theorem SR.putDT {i:Nat}{kvs kvs':List ((List bS)×D)}{us':List ((List bS)×V)}(h:SR K c hid ρ σ H)(hg:rZ i ρ=some kvs)(ha:σ[i]? =some (some (.ref a)))(r:KRt K (vw H hid) us' kvs'):SR K c hid (ρ.set i (.ob (.dT kvs'))) σ (bN H a (.dT us')):=by
 obtain⟨a1,us,h1,h2,h3,h4,h5⟩:=h.dictT hg
 rw[ha] at h1;cases h1;have lt:i<ρ.length:=(List.getElem?_eq_some_iff.mp (jU hg)).1
 have vv:vw (bN H a (.dT us')) hid=vw H hid:=eE h2
 have tr': ∀b o,H b=some o-> ∃o2,(bN H a (.dT us')) b=some o2:=λb o q=>by
  by_cases e:b=a
  ·subst e;exact⟨_,aL⟩
  ·exact⟨o,by rw[aH e];exact q⟩
 have owi:Ow ρ[i]? :=by rw[jU hg];trivial
 have ne: ∀(j:Nat) (s:Sl) (a':Addr),j≠i->ρ[j]? =some s->Ow (some s)->σ[j]? =some (some (.ref a'))->a'≠a:=λj s a' n e o q w=>by
  subst w;exact h.ap j i a' n (by rw[e];exact o) owi q ha
 have ows: ∀j:Nat,Ow (ρ.set i (.ob (.dT kvs')))[j]? ->Ow ρ[j]? :=λj o=>by
  by_cases e:j=i
  ·subst e;exact owi
  ·rw[List.getElem?_set_ne (Ne.symm e)] at o;exact o
 refine⟨λb hb=>let⟨o,q⟩:=h.tr b hb;tr' b o q,λb xs hb q=>by
  by_cases e:b=a
  ·subst e;rw[aL] at q;cases q
  ·rw[aH e] at q;exact h.ht b xs hb q,h.h0,λb o q m=>?_,λb o q=>let⟨o2,q2⟩:=h.t0 b o q;tr' b o2 q2,h.c0,h.m0,by simp[h.len],λj s e=>?_,λj l z n o1 o2=>h.ap j l z n (ows j o1) (ows l o2)⟩
 ·rw[aH (be q h3)];exact h.kp b o q m
 ·by_cases ej:j=i
  ·subst ej
   rw[List.getElem?_set_self lt] at e;cases e
   exact⟨a,ha,⟨h2,h3⟩,us',aL,r.1,by rw[vv];exact r.2⟩
  ·rw[List.getElem?_set_ne (Ne.symm ej)] at e
   have z:=h.sl j s e
   cases s with
   |no=>trivial
   |v d=>obtain⟨x,h1,h2⟩:=z;exact⟨x,h1,by rw[vv];exact h2⟩
   |own ds=>obtain⟨a',xs,h1,h2,h3,h4,h5⟩:=z;exact⟨a',xs,h1,by rw[aH (ne j _ a' ej e trivial h1)];exact h2,h3,h4,by rw[vv];exact h5⟩
   |arg ds=>obtain⟨a',xs,h1,h2,h3,h4,h5⟩:=z;exact⟨a',xs,h1,by rw[aH (ne j _ a' ej e trivial h1)];exact h2,h3,h4,by rw[vv];exact h5⟩
   |ob b=>obtain⟨a',h1,h2⟩:=z;exact⟨a',h1,h2.mono (λow o q=>by rw[aH (ne j _ a' ej e ow h1)];exact q) (by rw[vv];exact Same.refl _) λ_ q=>q⟩
end
def rV:D->Option (List Int)
 | .tup ds=>gP ds
 |_=>none
theorem jP {d:D}{ns:List Int}(h:rV d=some ns):d=.tup (ns.map D.int):=by
 unfold rV at h;split at h
 ·rw[iB h]
 ·cases h
theorem nZ {K:W.Frag}{F:Hp}: ∀ {xs:List V} {ns:List Int},Reps K F xs (ns.map D.int)->xs=(ns.map Sum.inl).map kV
 |_,[],h=>by cases h;rfl
 |_,n::ns,h=>by
  cases h with
  |cons r rs=>cases r;rw[nZ rs];rfl
section
variable {X:Cx}{ae:List (Addr×Obj)}{σ:St}{H:Hp}{s:Shared}{a b:Addr}{A:Around}{E:Value->Shared->Prop}
theorem ER {ks:List bS}(I:Inv X ae σ H s)(h:SqT X.K H b (ks.map kV)):(tupleKind (ce X.prog X.w)).is s.heap ks b:=by
 obtain⟨its,r,⟨o,h1,h2,n,h3⟩,_⟩:=I.tuple h
 exact⟨o,its.toArray,n,h1,h2,h3,by simpa using lX r⟩
end
section
variable {X:Cx}{c:Ct}{k k1 k2:Kd}{e f ev:Expr}{es:List Expr}{fe ff fk fv:FE}{fs:FA}{pos pos' py apos cpos p:Pos}{x y:Str}{x1:_}
def iK(ns:List Int):List bS:=ns.map Sum.inl
def Dl(i:Nat):FS:=λρ=>.nx (ρ.set i (.ob (.dT [])))
theorem zk(i:Nat)(hn:X.N.Nodup)(hi:X.N[i]? =some x:=by rfl)(hx:yd X.env.scope x:=by first|exact Or.inl rfl|exact Or.inr rfl)(hs:swapsWith (.Dict [] [] p) (some (.Name x pos')) pos.line X.env=pure false:=by rfl)
 (hf:X.fn x=true\/X.env.scope.names.lookup x=some .local:=by first|exact .inl rfl|exact .inr rfl|assumption):DS X c k (.Assign [.Name x pos'] (.Dict [] [] p) pos) (Dl i):=λρ=>PS.imp (oz hn hi hx An hs hf) λD σ H hq_=>by
 obtain⟨hid,sr,q⟩:=hq_
 intro a ha;have sm:=aX ha (.dT [])
 have nf:=sr.fresh ha
 refine q _ _ (ba hid a) (SR.setD (a:=a) (b:=.dT []) (sr.hide sm ha aL) ⟨⟨eS,sr.fresh0 ha⟩,[],aL,rfl,.nil⟩ (sr.notOw nf) i) λb o w=>?_
 obtain⟨w1,w2⟩:=vw_some.mp w
 refine vw_some.mpr ⟨?_,sm b o w2⟩
 unfold ba;rw[w1];have:b≠a:=be w2 ha
 simp[this]
theorem rk {hid:bK}{H':Hp}{z:V}{ns:List Int}(h:Rep1 X.K H' (vw H' hid) z (.tup (ns.map D.int))): ∃b,z=.ref b/\SqT X.K H' b ((iK ns).map kV):=by
 obtain⟨b,xs,rfl,_,h2,h3⟩:=h.tup
 refine⟨b,rfl,?_⟩
 rw[<-show xs=(iK ns).map kV from nZ h3];exact h2
end
def RawAt(h:Heap)(d:Addr)(es:Array DictEntry)(ep:Nat):Prop:= ∃o,h.get? d=some o/\o.ExactDict/\o.data=.dict es ep
section
variable {prog:Program}{w:World}{A:Around}{E:Value->Shared->Prop}{s:Shared}{d it:Addr}{es:Array DictEntry}{ep i:Nat}
theorem RawAt.ty(h:RawAt s.heap d es ep):s.TypeIs (.ref d) "dict":=let⟨o,h1,h2,_⟩:=h;⟨o,h1,h2.1⟩
theorem AC {Q:Value->Shared->Prop}(lo:(d==sysModules)=false)(x:RawAt s.heap d es ep)
 (q:Q (.ref s.heap.objs.size) {s with heap:=s.heap.push {cls:=.type "dict_keyiterator",data:=.fields #[.ref d,.int 0 0,.int es.size 0,.int ep 0]}}):wpAny (model prog w) A (pyIter (.ref d)) Q E s:=by
 have ty:=x.ty
 obtain⟨o,g1,g2,g3⟩:=x
 refine wpAny_pyIter_slot ty F.slot_dict_iter (wpAny_call_entry F.slot_dict_iter ty F.entry_dict_iter ?_ (F.args_dict_iter_1 _))
 unfold Builtin.«dict.__iter__»;refine wpAny_bind ?_
 unfold Builtin.Dict.dictSlotNone;refine wpAny_bind (wpAny_notOrdered_dict ty ?_)
 show wpAny _ _ (pure (Value.ref d)) _ _ s;refine wpAny_pure ?_
 show wpAny _ _ (Builtin.Dict.showsAll d>>=_) _ _ s;unfold Builtin.Dict.showsAll;rw[if_neg (by rw[lo];exact Bool.false_ne_true)]
 refine wpAny_bind (wpAny_pure (wpAny_bind (wpAny_dictEntries g1 g3 (wpAny_bind (wpAny_dictEpoch g1 g3 ?_)))))
 refine wpAny_bind (wpAny_newObj_type (wpAny_pure ⟨_,rfl,"dict_keyiterator",_,⟨_,Heap.get?_push_size _ rfl,rfl⟩,F.slot_dict_keyiterator_next.lookup,?_⟩))
 simpa [rawInt] using q
theorem yk {Q:Option Value->Shared->Prop}(hit:s.heap.IsKeyIter it d i es.size ep)(x:RawAt s.heap d es ep)(hi:i<es.size)
 (q: ∀h',h'.IsKeyIter it d (i+1) es.size ep->Heap.SameBut it s.heap h'->Q (some es[i].key) {s with heap:=h'}):wpAny (model prog w) A (pyNext (.ref it)) Q E s:=by
 obtain⟨o,k1,k2,k3⟩:=id hit
 obtain⟨od,g1,g2,g3⟩:=id x
 unfold pyNext;refine wpAny_bind (wpAny_attempt (wpAny_callSpecial?_slot (name:=Str.ofString "__next__") hit.typeIs F.slot_dict_keyiterator_next (wpAny_call_entry F.slot_dict_keyiterator_next hit.typeIs F.entry_dict_keyiterator_next ?_ (F.args_dict_keyiterator_next_1 _))))
 refine wpAny_bind (wpAny_pure (wpAny_bind (wpAny_bind ?_)))
 first|refine wpAny_bind (wpAny_typeNameOfWhole_keyiter hit.typeIs (wpAny_pure (wpAny_bind (wpAny_fieldsOf k1 k3 ?_))))|refine wpAny_bind (wpAny_typeNameOf_keyiter hit.typeIs (wpAny_pure (wpAny_bind (wpAny_fieldsOf k1 k3 ?_))))
 simp only[show Builtin.Dict_items.ownsTuple "dict_keyiterator"=false by decide,Bool.false_eq_true,if_false]
 show wpAny _ _ (if(Value.ref d==Value.none)=true then _ else _) _ _ s;rw[if_neg (show¬((Value.ref d==Value.none)=true) from Bool.false_ne_true)]
 refine wpAny_bind (wpAny_pure (wpAny_bind (wpAny_dictEntries g1 g3 ?_)))
 rw[if_neg (by simp)]
 refine wpAny_bind (wpAny_pure (wpAny_bind (wpAny_dictEpoch g1 g3 ?_)))
 rw[if_neg (by simp)]
 refine wpAny_pure ?_
 simp only[show¬((i:Int)<0) from by omega,if_false,Int.toNat_natCast,Array.getElem?_eq_getElem hi]
 refine wpAny_bind ?_
 first|refine wpAny_bind (wpAny_typeNameOfWhole_keyiter hit.typeIs (wpAny_pure (wpAny_bind (wpAny_isOneOf_keyiter hit.typeIs ?_))))|refine wpAny_bind (wpAny_typeNameOf_keyiter hit.typeIs (wpAny_pure (wpAny_bind (wpAny_isOneOf_keyiter hit.typeIs ?_))))
 show wpAny _ _ (setField (.ref it) 1 (rawInt ((i:Int)+1))>>=_) _ _ s;refine wpAny_bind (wpAny_setField k1 k3 (by simp) ?_)
 have nx:(s.heap.update it (Obj.mapFields (·.setIfInBounds 1 (rawInt ((i:Int)+1))))).IsKeyIter it d (i+1) es.size ep:=⟨_,Heap.get?_update_self _ k1 (Obj.isFreed_of_fields (Obj.data_mapFields k3 _)),(Obj.cls_mapFields ..).trans k2,by rw[Obj.data_mapFields k3];simp[rawInt]⟩
 refine wpAny_bind (wpAny_holding (wpAny_bind (wpAny_isOneOf_keyiter (s:={s with heap:=s.heap.update it (Obj.mapFields (·.setIfInBounds 1 (rawInt ((i:Int)+1))))}) nx.typeIs ?_)))
 show wpAny _ _ (pure es[i].key) _ _ _;exact wpAny_pure (wpAny_pure ⟨_,rfl,wpAny_pure (q _ nx (Heap.SameBut.update ..))⟩)
theorem CM {Q:Option Value->Shared->Prop}(calm:A.handled=none)(hit:s.heap.IsKeyIter it d es.size es.size ep)(x:RawAt s.heap d es ep)
 (q: ∀h',Heap.ExtBut it s.heap h'->Q none {s with heap:=h'}):wpAny (model prog w) A (pyNext (.ref it)) Q E s:=by
 obtain⟨o,k1,k2,k3⟩:=id hit
 obtain⟨od,g1,g2,g3⟩:=id x
 unfold pyNext;refine wpAny_bind (wpAny_attempt (wpAny_callSpecial?_slot (name:=Str.ofString "__next__") hit.typeIs F.slot_dict_keyiterator_next (wpAny_call_entry F.slot_dict_keyiterator_next hit.typeIs F.entry_dict_keyiterator_next ?_ (F.args_dict_keyiterator_next_1 _))))
 refine wpAny_bind (wpAny_pure (wpAny_bind (wpAny_bind ?_)))
 first|refine wpAny_bind (wpAny_typeNameOfWhole_keyiter hit.typeIs (wpAny_pure (wpAny_bind (wpAny_fieldsOf k1 k3 ?_))))|refine wpAny_bind (wpAny_typeNameOf_keyiter hit.typeIs (wpAny_pure (wpAny_bind (wpAny_fieldsOf k1 k3 ?_))))
 simp only[show Builtin.Dict_items.ownsTuple "dict_keyiterator"=false by decide,Bool.false_eq_true,if_false]
 show wpAny _ _ (if(Value.ref d==Value.none)=true then _ else _) _ _ s;rw[if_neg (show¬((Value.ref d==Value.none)=true) from Bool.false_ne_true)]
 refine wpAny_bind (wpAny_pure (wpAny_bind (wpAny_dictEntries g1 g3 ?_)))
 rw[if_neg (by simp)]
 refine wpAny_bind (wpAny_pure (wpAny_bind (wpAny_dictEpoch g1 g3 ?_)))
 rw[if_neg (by simp)]
 refine wpAny_pure ?_
 simp only[show¬((es.size:Int)<0) from by omega,if_false,Int.toNat_natCast,Array.getElem?_eq_none (Nat.le_refl es.size)]
 refine wpAny_bind ?_
 first|refine wpAny_bind (wpAny_typeNameOfWhole_keyiter hit.typeIs (wpAny_pure ?_))|refine wpAny_bind (wpAny_typeNameOf_keyiter hit.typeIs (wpAny_pure ?_))
 show wpAny _ _ (setField (.ref it) 0 .none>>=_) _ _ s;refine wpAny_bind (wpAny_setField k1 k3 (by simp) ?_)
 show wpAny _ _ (newExc (.type "StopIteration") []>>=_) _ _ _;refine wpAny_bind ?_
 simp only[newExc,newTuple];refine wpAny_bind (wpAny_newObj_type (wpAny_bind (m:=firstArgMember _ _) (wpAny_of_eq (a:=Value.none) (by first|rfl|(simp only[firstArgMember];rfl)) (wpAny_newObj_type ?_ (by size_fits)))) (by size_fits))
 simp only[raiseNew];refine wpAny_bind (wpAny_handled ?_)
 rw[show A.in1.handled=none from calm];refine wpAny_bind (wpAny_pure (wpAny_throw ?_));refine wpAny_bind (wpAny_isInstance (T:="StopIteration") (b:=true) ⟨_,Heap.get?_push_size _ rfl,rfl⟩ isSubtype_stop ?_)
 exact wpAny_pure (q _ (((Heap.SameBut.update ..).extBut.push _).push _))
theorem uf {T:String}{r:Addr}{us:List Value}{P:Nat->Value->Prop}{OK:Heap->Prop}{Q:Value->Shared->Prop}{G:List Nat->Prop}(src:KdlSrc prog w T r d us.length P OK)(hP: ∀i v,i<us.length->P i v->us[i]? =some v)(calm:A.handled=none)(good:OK s.heap)(hz:us.length<64)
 (few:us.length<2->G (List.range us.length))
 (many:2<=us.length-> ∀(g:Heap) (tk:Nat),(∀c o,s.heap.get? c=some o->g.get? c=some o)->wpAny (model prog w) A.in1.in1 (keyKind' us.toArray) (λκ t=>t={s with heap:=g,toks:=tk}/\
   (kas_sort us.length).kasWp (kas_ask prog w A.in1.in1 κ us) (λp t'=>t'=t/\G p.toList) t) (λ_ _=>False) {s with heap:=g,toks:=tk})
 (fin: ∀(g:Heap) (tk a e:Nat) (ix:List Nat),(∀c o,s.heap.get? c=some o->g.get? c=some o)->s.heap.objs.size<=a->G ix->g.get? a=some (seqObj "list" (List.toArray (ix.map λi=>us.getD i Value.none)) e)->Q (.ref a) {s with heap:=g,toks:=tk}):
 wpAny (model prog w) A (call (.builtin "sorted") [.ref r]) Q E s:=by
 refine Calls.call_function_entry kind_sorted plain_sorted entry_sorted (args_sorted1 _) ?_
 unfold Builtin.«sorted»;refine wpAny_bind (m:=checkCount "sorted" 1 1 _) (wpAny_pure (wpAny_bind (vk (A:=A.in1) src calm good (by rw[sizeLine_eq];omega) λg tk acc kg sg0 hacc=>?_)))
 have hus:acc.toList=us:=List.ext_getElem? λi=>by
  by_cases hi:i<us.length
  ·have h1:i<acc.size:=by rw[hacc.1];exact hi
   have e3:acc[i]? =some acc[i]:=Array.getElem?_eq_getElem h1
   rw[Array.getElem?_toList,e3,hP i _ hi (hacc.2 i _ e3)]
  ·have h1: ¬i<acc.toList.length:=by rw[Array.length_toList,hacc.1];exact hi
   rw[List.getElem?_eq_none (by omega),List.getElem?_eq_none (by omega)]
 rw[hus];have sg:s.heap.objs.size<=g.objs.size:=Nat.le_of_lt sg0
 refine wpAny_bind (wpAny_newList ?_ (by rw[sizeLine_eq];omega))
 have hL:(g.push (seqObj "list" us.toArray 0)).get? g.objs.size=some (seqObj "list" us.toArray 0):=Heap.get?_push_size _ rfl
 show wpAny _ _ _ _ _ {s with heap:=g.push (seqObj "list" us.toArray 0),toks:=tk}
 have end_: ∀ix:List Nat,G ix->Q (.ref g.objs.size) {s with heap:=sortedHeap (g.push (seqObj "list" us.toArray 0)) g.objs.size us (List.toArray (ix.map λi=>us.getD i Value.none)),toks:=tk}:=λix hG=>by
  obtain⟨e,he⟩:=sortedHeap_at (out:=List.toArray (ix.map λi=>us.getD i Value.none)) hL
  refine fin _ tk g.objs.size e ix (λc u hu=>?_) sg hG he
  have lt:=Heap.lt_size (kg c u hu)
  rw[sortedHeap_old (Nat.ne_of_lt lt) (by rw[size_push'];exact Nat.lt_succ_of_lt lt)]
  exact Heap.get?_push_of_some _ (kg c u hu)
 refine wpAny_bind (wpAny_holding (wpAny_call_entry slot_list_sort ⟨_,hL,rfl⟩ entry_list_sort (om (P:=λf t=> ∃v,f=.done (.ret v)/\wpAny (model prog w) A.in1 (pure (PySem.Fin.done (.ret (Value.ref g.objs.size)))) (λf t=> ∃v,f=.done (.ret v)/\Q v t) E t) hL (by omega) (λh=>?_) (λh g' kg'=>?_)) (args_list_sort _)))
 ·have e:=end_ (List.range us.length) (few h)
  rw[show(List.range us.length).map (λi=>us.getD i Value.none)=us from List.ext_getElem? λi=>by
   by_cases hi:i<us.length
   ·simp[hi]
   ·simp[hi]] at e
  exact⟨_,rfl,wpAny_pure ⟨_,rfl,e⟩⟩
 ·refine wpAny_mono (many h g' tk λc u hu=>kg' c u (Nat.ne_of_lt (Heap.lt_size (kg c u hu))) (Heap.get?_push_of_some _ (kg c u hu))) (λκ t ⟨et,ht⟩=>⟨et,?_⟩) λ_ _ x=>x
  rw[kat_ask_eq rfl] at ht⊢;exact kas_wp_mono ht λp t' ⟨e1,hG⟩=>⟨e1,_,rfl,wpAny_pure ⟨_,rfl,end_ _ hG⟩⟩
end
abbrev IK(H:Hp):List V->List (List Int)->Prop:=Paired λy ks=> ∃b,y=.ref b/\H b=some (.tup (ks.map V.int))
theorem zL {H:Hp}: ∀ {us:List (List bS×V)} {xs:List (List bS×Addr×Value)} {kss:List (List Int)},KTd H us xs->us.map (·.1)=kss.map iK->IK H (xs.map λx=>V.ref x.2.1) kss
 |_,_,[],r,e=>by
  cases r with
  |nil=>exact .nil
  |cons _ _=>cases e
 |_,_,ks::kss,r,e=>by
  cases r with
  |nil=>cases e
  | @cons p q ps qs h t=>
    rw[List.map_cons,List.map_cons] at e;injection e with e1 e2
    refine .cons ⟨q.2.1,rfl,?_⟩ (zL t e2)
    rw[h.2.1,e1];unfold iK;rw[List.map_map];rfl
theorem vz: ∀xs:List (List bS×Addr×Value),Vals (xs.map λx=>V.ref x.2.1) (xs.map λx=>Value.ref x.2.1)
 | []=>.nil
 |_::xs=>.cons rfl (vz xs)
theorem Dh: ∀ {ns:List Int} {us:List Value},Vals (ns.map V.int) us->qG us ns
 | [],_,h=>by cases h;exact .nil
 |_::_,_,h=>by cases h with|cons h1 h2=>exact .cons h1 (Dh h2)
section
variable {X:Cx}
def intKs:List (List bS×D)->Option (List (List Int))
 | []=>some []
 |(k,_)::r=>(intK k).bind λns=>(intKs r).map (ns:: ·)
where intK:List bS->Option (List Int)
 | []=>some []
 | .inl i::r=>(intK r).map (i:: ·)
 |_=>none
theorem wq: ∀ {k:List bS} {ns:List Int},intKs.intK k=some ns->k=iK ns
 | [],_,h=>by cases h;rfl
 | .inl i::r,ns,h=>by
   have h:(intKs.intK r).map (i:: ·)=some ns:=h
   obtain⟨t,e,rfl⟩:=Option.map_eq_some_iff.mp h
   rw[wq e];rfl
 | .inr _::_,_,h=>by cases h
theorem tP: ∀ {kvs:List (List bS×D)} {kss:List (List Int)},intKs kvs=some kss->kvs.map (·.1)=kss.map iK
 | [],_,h=>by cases h;rfl
 |(k,d)::r,kss,h=>by
  have h:((intKs.intK k).bind λns=>(intKs r).map (ns:: ·))=some kss:=h
  obtain⟨ns,e1,h⟩:=Option.bind_eq_some_iff.mp h
  obtain⟨t,e,rfl⟩:=Option.map_eq_some_iff.mp h
  rw[List.map_cons,List.map_cons,tP e,<-wq e1]
theorem sQ {K:W.Frag}{H:Hp}{hid:bK}(ht: ∀b xs,hid b=true->H b≠some (.tup xs)): ∀ {ys:List V} {kss:List (List Int)},IK H ys kss->Reps K (vw H hid) ys (kss.map cW)
 |_,[],h=>by cases h;exact .nil
 |_,ks::kss,h=>by
  cases h with
  |cons h1 h2=>
   obtain⟨b,rfl,hb⟩:=h1
   refine .cons (.tup (.inl (.inl (vw_some.mpr ⟨?_,hb⟩))) (pr ks)) (sQ ht h2)
   cases e:hid b with
   |false=>rfl
   |true=>exact absurd hb (ht b _ e)
end
abbrev rG:=List (List bS×D)
theorem wx {α:Type}(next:Nat->Nat): ∀(fuel k:Nat) (left:List α) (out:Array α),fuel=left.length->(pickOrder.go next fuel k left out).toList.Perm (out.toList++left)
 |0,k,left,out,h=>by
  obtain rfl:left=[]:=List.eq_nil_of_length_eq_zero h.symm
  rw[List.append_nil];exact List.Perm.refl _
 |fuel+1,k,left,out,h=>by
  have lt:next k % left.length<left.length:=Nat.mod_lt _ (by omega)
  have e:left[next k % left.length]? =some left[next k % left.length]:=List.getElem?_eq_getElem lt
  unfold pickOrder.go;rw[e];dsimp only;refine(wx next fuel (k+1) _ _ (by rw[List.length_eraseIdx,if_pos lt];omega)).trans ?_
  rw[Array.toList_push,List.append_assoc];refine List.Perm.append_left _ ?_
  have e2:left=left.take (next k % left.length)++left[next k % left.length]::left.drop (next k % left.length+1):=by
   conv=>lhs;rw[<-List.take_append_drop (next k % left.length) left,List.drop_eq_getElem_cons lt]
  rw[List.eraseIdx_eq_take_drop_succ]
  conv=>rhs;rw[e2]
  exact(List.perm_middle (l₁:=left.take (next k % left.length))).symm
theorem vj {α:Type}(next:Nat->Nat)(xs:Array α):(pickOrder next xs).toList.Perm xs.toList:=by
 have:=wx next xs.size 0 xs.toList #[] (by simp)
 unfold pickOrder;simpa using this
theorem yx {xs:Array Nat}(r:Ris xs){j p:Nat}(b:Bel xs j p):SetTable.below xs j=p:=by
 have b':=Gy r j
 rcases Nat.lt_trichotomy (SetTable.below xs j) p with c|c|c
 ·have lt:SetTable.below xs j<xs.size:=by have:=b.le;omega
  have e:xs[SetTable.below xs j]? =some xs[SetTable.below xs j]:=Array.getElem?_eq_getElem lt
  have h1:=b.lo _ _ c e
  have h2:=b'.hi _ _ (Nat.le_refl _) e
  omega
 ·exact c
 ·have lt:p<xs.size:=by have:=b'.le;omega
  have e:xs[p]? =some xs[p]:=Array.getElem?_eq_getElem lt
  have h1:=b'.lo _ _ c e
  have h2:=b.hi _ _ (Nat.le_refl _) e
  omega
theorem yh {xs:Array Nat}(r:Ris xs){i:Nat}(hi:i<=xs.size):SetTable.below xs (if i=0 then 0 else xs.getD (i-1) 0+1)=i:=by
 refine yx r ⟨hi,λx a hx ha=>?_,λx a hx ha=>?_⟩
 ·rw[if_neg (by omega)]
  have lt:i-1<xs.size:=by omega
  have e:xs[i-1]? =some xs[i-1]:=Array.getElem?_eq_getElem lt
  have eg:xs.getD (i-1) 0=xs[i-1]:=by simp[Array.getD,lt]
  rw[eg]
  by_cases c:x=i-1
  ·subst c;rw[e] at ha;cases ha;omega
  ·have:=r.lt (show x<i-1 by omega) ha e;omega
 ·by_cases c:i=0
  ·rw[if_pos c];omega
  ·rw[if_neg c]
   have lt:i-1<xs.size:=by omega
   have e:xs[i-1]? =some xs[i-1]:=Array.getElem?_eq_getElem lt
   have eg:xs.getD (i-1) 0=xs[i-1]:=by simp[Array.getD,lt]
   rw[eg];exact r.lt (show i-1<x by omega) e ha
def iY(w:World):Bool:=w.params.followText "set-order"
def iZ(w:World)(a:Addr)(ep:Nat)(es:Array (Int×Value)):Array (Int×Value):=if iY w=true then pickOrder (w.params.setOrder a ep) es else es
theorem pL(w:World)(a:Addr)(ep:Nat)(es:Array (Int×Value)):(iZ w a ep es).toList.Perm es.toList:=by
 unfold iZ;split
 ·exact vj _ _
 ·exact List.Perm.refl _
theorem jV(w:World)(a:Addr)(ep:Nat)(es:Array (Int×Value)):(iZ w a ep es).size=es.size:=by
 have:=(pL w a ep es).length_eq
 simpa using this
def rQ(w:World)(t:SetTable)(i:Nat):Nat:=if iY w=true then 0 else if i=0 then 0 else t.place.getD (i-1) 0+1
def RawSet(w:World)(h:Heap)(d:Addr)(es:Array (Int×Value))(ep:Nat)(t:SetTable):Prop:= ∃o xs,h.get? d=some o/\SetAt w o es ep t xs
def IsSetIter(w:World)(t:SetTable)(h:Heap)(it d:Addr)(i n ep:Nat):Prop:= ∃o,h.get? it=some o/\o.cls=.type "set_iterator"/\o.data=.fields #[.int (rQ w t i) 0,.int i 0,.ref d,.int n 0,.int ep 0]
theorem slot_si_next:Slot "set_iterator" "__next__" "set_iterator.__next__":=.of (owner:="set_iterator") (n:="__next__") (by rw[typeLookup_type,builtinLookup_eq_fast];kernel_rfl) (by decide+kernel) (by decide+kernel) (by decide+kernel) (by first|exact .inl (by decide+kernel)|exact .inr (by decide+kernel)) (by rw[isSubtype_type];kernel_rfl)
theorem ki:entryFor table "set_iterator.__next__"=some Builtin.«set_iterator.__next__»:=entryFor_of_tree (by kernel_rfl)
theorem so:Manifest.owners.lookup (String.ofList ['r','o','t','a','r','e','t','i','_','t','e','s'].reverse)=some Manifest.sig_set_iterator:=by kernel_rfl
theorem kN(a:Value):argsOk "set_iterator.__next__" ⟨[a],[]⟩:=by unfold argsOk;rw[signature?_of (id:="set_iterator.__next__") (n:=['_','_','t','x','e','n','_','_']) (o:=['r','o','t','a','r','e','t','i','_','t','e','s']) (by kernel_rfl) so];kernel_rfl
theorem kM:Slot "set_iterator" "__iter__" "set_iterator.__iter__":=.of (owner:="set_iterator") (n:="__iter__") (by rw[typeLookup_type,builtinLookup_eq_fast];kernel_rfl) (by decide+kernel) (by decide+kernel) (by decide+kernel) (by first|exact .inl (by decide+kernel)|exact .inr (by decide+kernel)) (by rw[isSubtype_type];kernel_rfl)
theorem oR:entryFor table "set_iterator.__iter__"=some Builtin.«dict_keyiterator.__iter__»:=entryFor_alias (id':="dict_keyiterator.__iter__") (by kernel_rfl) rfl (by decide+kernel) (by kernel_rfl)
theorem p9(a:Value):argsOk "set_iterator.__iter__" ⟨[a],[]⟩:=by unfold argsOk;rw[signature?_of (id:="set_iterator.__iter__") (n:=['_','_','r','e','t','i','_','_']) (o:=['r','o','t','a','r','e','t','i','_','t','e','s']) (by kernel_rfl) so];kernel_rfl
section
variable {prog:Program}{w:World}{A:Around}{E:Value->Shared->Prop}{s:Shared}{d it:Addr}{es:Array (Int×Value)}{ep i:Nat}{t:SetTable}
theorem RawSet.ty(h:RawSet w s.heap d es ep t):s.TypeIs (.ref d) "set":=let⟨o,_,h1,h2⟩:=h;⟨o,h1,h2.ex.1⟩
theorem RawSet.lt {h:Heap}(x:RawSet w h d es ep t):d<h.objs.size:=let⟨_,_,h1,_⟩:=x;Heap.lt_size h1
theorem RawSet.to {h h':Heap}(x:RawSet w h d es ep t)(k: ∀o,h.get? d=some o->h'.get? d=some o):RawSet w h' d es ep t:=let⟨o,xs,h1,r⟩:=x;⟨o,xs,k o h1,r⟩
theorem IsSetIter.ty {n:Nat}(h:IsSetIter w t s.heap it d i n ep):s.TypeIs (.ref it) "set_iterator":=let⟨o,h1,h2,_⟩:=h;⟨o,h1,h2⟩
theorem mZ:entryFor table "set.__iter__"=some Builtin.«frozenset.__iter__»:=entryFor_alias (id':="frozenset.__iter__") (by kernel_rfl) rfl (by decide+kernel) (by kernel_rfl)
theorem gZ {Q:Bool->Shared->Prop}(h:Q (iY w) s):wpAny (model prog w) A setsByText Q E s:=by
 unfold setsByText;exact wpAny_bind (wpAny_askSetting (wpAny_pure h))
theorem Ap {Q:Value->Shared->Prop}(x:RawSet w s.heap d es ep t)(q:Q (.ref s.heap.objs.size) {s with heap:=s.heap.push {cls:=.type "set_iterator",data:=.fields #[.int (rQ w t 0) 0,.int 0 0,.ref d,.int es.size 0,.int ep 0]}}):wpAny (model prog w) A (pyIter (.ref d)) Q E s:=by
 have ty:=x.ty
 obtain⟨o,xs,g1,S⟩:=x
 refine wpAny_pyIter_slot ty F.slot_set_iter (wpAny_call_entry F.slot_set_iter ty mZ ?_ (F.args_set_iter_1 _))
 unfold Builtin.«frozenset.__iter__»;unfold Builtin.Frozenset.slot0 slotArgs;simp only[List.isEmpty_nil,Bool.not_true,Bool.false_eq_true, ↓reduceIte,bind_assoc,List.length_nil,bne_self_eq_false];unfold Builtin.Frozenset.addrOf Builtin.Frozenset.sizeOf setDrawn setEntries;refine wpAny_bind (wpAny_pure ?_)
 try dsimp only
 refine wpAny_bind (wpAny_pure ?_)
 refine wpAny_bind (wpAny_bind (wpAny_bind (wpAny_setState_of g1 S.hd S.fits (wpAny_pure (wpAny_pure ?_)))))
 refine wpAny_bind (wpAny_bind (wpAny_setState_of g1 S.hd S.fits ?_))
 dsimp only;refine wpAny_bind (gZ (wpAny_pure ?_))
 have e0:(!iY w&&(!t.plain&&decide (es.size>1)))=false:=by rw[S.pl];simp
 refine wpAny_ite_split (λhab=>absurd (show(!iY w&&(!t.plain&&decide (es.size>1)))=true from hab) (by rw[e0];decide)) λ_=>?_
 refine wpAny_bind (wpAny_pure (wpAny_bind (wpAny_setEpoch_of g1 S.hd S.fits ?_)))
 refine wpAny_bind (wpAny_newObj_type (wpAny_pure ⟨_,rfl,"set_iterator",_,⟨_,Heap.get?_push_size _ rfl,rfl⟩,slot_si_next.lookup,?_⟩))
 have:rQ w t 0=0:=by unfold rQ;split<;>rfl
 rw[this] at q;simpa [rawInt] using q
theorem A4 {Q:Array (Int×Value)->Shared->Prop}{o:Obj}{xs:lE}(g1:s.heap.get? d=some o)(S:SetAt w o es ep t xs)(h:Q (iZ w d ep es) s):wpAny (model prog w) A (setWalk d) Q E s:=by
 unfold setWalk;refine wpAny_bind (wpAny_setState_of g1 S.hd S.fits ?_)
 dsimp only;refine wpAny_bind (gZ ?_)
 unfold iZ at h
 by_cases c:iY w=true
 ·rw[if_pos c]
  rw[if_pos c] at h;exact wpAny_bind (wpAny_askSetting (wpAny_pure h))
 ·rw[if_neg c]
  rw[if_neg c] at h;have e0:(!t.plain&&decide (es.size>1))=false:=by rw[S.pl];rfl
  refine wpAny_ite_split (λhab=>absurd (show(!t.plain&&decide (es.size>1))=true from hab) (by rw[e0];decide)) λ_=>?_
  have e1:(!t.led&&decide (es.size>1))=false:=by
   have:=S.led
   unfold iY at c;rw[this,eq_false_of_ne_true c];rfl
  refine wpAny_bind ?_
  show wpAny _ _ (if(!t.led&&decide (es.size>1))=true then unsupported _ else pure PUnit.unit) _ _ _
  rw[if_neg (by rw[e1];decide)]
  exact wpAny_pure (wpAny_pure h)
theorem wg {Q:Option (Value×Nat)->Shared->Prop}{o:Obj}{xs:lE}(g1:s.heap.get? d=some o)(S:SetAt w o es ep t xs)(hi:i<=es.size)(h:Q (((iZ w d ep es)[i]?).map λe=>(e.2,rQ w t (i+1))) s):wpAny (model prog w) A (setNext d (rQ w t i) i ep) Q E s:=by
 unfold setNext;refine wpAny_bind (wpAny_setState_of g1 S.hd S.fits ?_)
 dsimp only;refine wpAny_bind (gZ ?_)
 by_cases c:iY w=true
 ·rw[if_pos c,bne_self_eq_false]
  simp only[Bool.false_eq_true,if_false];refine wpAny_bind (A4 g1 S (wpAny_pure ?_))
  have e: ∀i,rQ w t i=0:=λi=>by unfold rQ;rw[if_pos c]
  rw[e] at h⊢;exact h
 ·rw[if_neg c]
  have e0:(!t.plain&&decide (es.size>1))=false:=by rw[S.pl];rfl
  refine wpAny_ite_split (λhab=>absurd (show(!t.plain&&decide (es.size>1))=true from hab) (by rw[e0];decide)) λ_=>?_
  have e1:(!t.led&& !es.isEmpty)=false:=by
   have:=S.led
   unfold iY at c;rw[this,eq_false_of_ne_true c];rfl
  refine wpAny_bind ?_
  show wpAny _ _ (if(!t.led&& !es.isEmpty)=true then unsupported _ else pure PUnit.unit) _ _ _
  rw[if_neg (by rw[e1];decide)]
  refine wpAny_pure ?_
  have zz:=S.T.sz
  unfold sL at zz;rw[List.length_map,<-S.size] at zz;have sl:rQ w t i=if i=0 then 0 else t.place.getD (i-1) 0+1:=by unfold rQ;rw[if_neg c]
  have sl':rQ w t (i+1)=t.place.getD i 0+1:=by unfold rQ;rw[if_neg c,if_neg (by omega)];rfl
  rw[sl,yh S.T.sp (by omega)]
  refine wpAny_pure ?_
  have ew:iZ w d ep es=es:=by unfold iZ;rw[if_neg c]
  rw[ew,sl'] at h
  by_cases ci:i<es.size
  ·have p1:t.place[i]? =some (t.place[i]'(by omega)):=Array.getElem?_eq_getElem (by omega)
   have p2:t.place.getD i 0=t.place[i]'(by omega):=by simp[Array.getD,show i<t.place.size by omega]
   rw[p1];rw[p2] at h;cases ee:es[i]? with
   |none=>rw[Array.getElem?_eq_getElem ci] at ee;cases ee
   |some e=>rw[ee] at h;exact h
  ·rw[Array.getElem?_eq_none (by omega)] at h⊢
   exact h
theorem Ax {Q:Option Value->Shared->Prop}(hit:IsSetIter w t s.heap it d i es.size ep)(x:RawSet w s.heap d es ep t)(hi:i<es.size)
 (q: ∀h',IsSetIter w t h' it d (i+1) es.size ep->Heap.SameBut it s.heap h'->Q (some ((iZ w d ep es)[i]'(by rw[jV];exact hi)).2) {s with heap:=h'}):wpAny (model prog w) A (pyNext (.ref it)) Q E s:=by
 have ty:=hit.ty
 obtain⟨o,k1,k2,k3⟩:=id hit
 obtain⟨od,xs,g1,S⟩:=id x
 unfold pyNext;refine wpAny_bind (wpAny_attempt (wpAny_callSpecial?_slot (name:=Str.ofString "__next__") ty slot_si_next (wpAny_call_entry slot_si_next ty ki ?_ (kN _))))
 unfold Builtin.«set_iterator.__next__» slotArgs;simp only[List.isEmpty_nil,Bool.not_true,Bool.false_eq_true, ↓reduceIte,bind_assoc,List.length_nil,bne_self_eq_false];refine wpAny_bind (wpAny_pure ?_)
 refine wpAny_bind (wpAny_fieldsOf k1 k3 ?_)
 dsimp only;refine wpAny_bind (wpAny_setEntries_of g1 S.hd S.fits ?_)
 rw[bne_self_eq_false];simp only[Bool.false_eq_true,if_false,Int.toNat_natCast];refine wpAny_bind (wg g1 S (Nat.le_of_lt hi) ?_)
 have lt:i<(iZ w d ep es).size:=by rw[jV];exact hi
 rw[Array.getElem?_eq_getElem lt];dsimp only[Option.map_some];refine wpAny_bind (wpAny_setField k1 k3 (by simp) ?_)
 have g2:(s.heap.update it (Obj.mapFields (·.setIfInBounds 0 (rawInt (rQ w t (i+1):Nat))))).get? it=some _:=Heap.get?_update_self _ k1 (Obj.isFreed_of_fields (Obj.data_mapFields k3 _))
 refine wpAny_bind (wpAny_setField (s:={s with heap:=s.heap.update it (Obj.mapFields (·.setIfInBounds 0 (rawInt (rQ w t (i+1):Nat))))}) g2 (Obj.data_mapFields k3 _) (by simp) ?_)
 have e4:(Obj.mapFields (·.setIfInBounds 1 (rawInt ((i:Int)+1))) (Obj.mapFields (·.setIfInBounds 0 (rawInt (rQ w t (i+1):Nat))) o)).data=.fields #[.int (rQ w t (i+1)) 0,.int ((i+1:Nat):Int) 0,.ref d,.int es.size 0,.int ep 0]:=by
  rw[Obj.data_mapFields (Obj.data_mapFields k3 _)];simp[rawInt]
 have nx:IsSetIter w t ((s.heap.update it (Obj.mapFields (·.setIfInBounds 0 (rawInt (rQ w t (i+1):Nat))))).update it (Obj.mapFields (·.setIfInBounds 1 (rawInt ((i:Int)+1))))) it d (i+1) es.size ep:=
  ⟨_,Heap.get?_update_self _ g2 (Obj.isFreed_of_fields e4),(Obj.cls_mapFields ..).trans ((Obj.cls_mapFields ..).trans k2),e4⟩
 exact wpAny_pure ⟨_,rfl,wpAny_pure (q _ nx ((Heap.SameBut.update ..).trans (Heap.SameBut.update ..)))⟩
theorem Cm {Q:Option Value->Shared->Prop}(calm:A.handled=none)(hit:IsSetIter w t s.heap it d es.size es.size ep)(x:RawSet w s.heap d es ep t)
 (q: ∀h',Heap.ExtBut it s.heap h'->Q none {s with heap:=h'}):wpAny (model prog w) A (pyNext (.ref it)) Q E s:=by
 have ty:=hit.ty
 obtain⟨o,k1,k2,k3⟩:=id hit
 obtain⟨od,xs,g1,S⟩:=id x
 unfold pyNext;refine wpAny_bind (wpAny_attempt (wpAny_callSpecial?_slot (name:=Str.ofString "__next__") ty slot_si_next (wpAny_call_entry slot_si_next ty ki ?_ (kN _))))
 unfold Builtin.«set_iterator.__next__» slotArgs;simp only[List.isEmpty_nil,Bool.not_true,Bool.false_eq_true, ↓reduceIte,bind_assoc,List.length_nil,bne_self_eq_false];refine wpAny_bind (wpAny_pure ?_)
 refine wpAny_bind (wpAny_fieldsOf k1 k3 ?_)
 dsimp only;refine wpAny_bind (wpAny_setEntries_of g1 S.hd S.fits ?_)
 rw[bne_self_eq_false];simp only[Bool.false_eq_true,if_false,Int.toNat_natCast];refine wpAny_bind (wg g1 S (Nat.le_refl _) ?_)
 rw[Array.getElem?_eq_none (by rw[jV];exact Nat.le_refl _)]
 dsimp only[Option.map_none];refine wpAny_bind (wpAny_setField k1 k3 (by simp) ?_)
 show wpAny _ _ (newExc (.type "StopIteration") []>>=_) _ _ _;refine wpAny_bind ?_
 simp only[newExc,newTuple];refine wpAny_bind (wpAny_newObj_type (wpAny_bind (m:=firstArgMember _ _) (wpAny_of_eq (a:=Value.none) (by first|rfl|(simp only[firstArgMember];rfl)) (wpAny_newObj_type ?_ (by size_fits)))) (by size_fits))
 simp only[raiseNew];refine wpAny_bind (wpAny_handled ?_)
 rw[show A.in1.handled=none from calm];refine wpAny_bind (wpAny_pure (wpAny_throw ?_));refine wpAny_bind (wpAny_isInstance (T:="StopIteration") (b:=true) ⟨_,Heap.get?_push_size _ rfl,rfl⟩ isSubtype_stop ?_)
 exact wpAny_pure (q _ (((Heap.SameBut.update ..).extBut.push _).push _))
theorem IsSetIter.to {h h':Heap}{n:Nat}(x:IsSetIter w t h it d i n ep)(k: ∀o,h.get? it=some o->h'.get? it=some o):IsSetIter w t h' it d i n ep:=let⟨o,h1,r⟩:=x;⟨o,k o h1,r⟩
theorem yC {n:Nat}{Q:Value->Shared->Prop}(hit:IsSetIter w t s.heap it d i n ep)(h:Q (.ref it) s):wpAny (model prog w) A (pyIter (.ref it)) Q E s:=by
 have ty:=hit.ty
 refine wpAny_pyIter_slot ty kM (wpAny_call_entry kM ty oR ?_ (p9 _));show wpAny _ _ (ret (.ref it)) _ _ s
 exact wpAny_pure ⟨_,rfl,"set_iterator",_,ty,slot_si_next.lookup,h⟩
theorem xK(calm:A.handled=none)(I:Addr)(ne:d≠I):Walks prog w A I [I,d] [I] es.size (λi v=> ∃e,(iZ w d ep es)[i]? =some e/\v=e.2) (λi h=>IsSetIter w t h I d i es.size ep/\RawSet w h d es ep t) where
 sub:=λb hb=>by simp at hb;simp[hb]
 frame:=λ_ _ _ st hk=>⟨st.1.to λo e=>hk I (by simp) o e,st.2.to λo e=>hk d (by simp) o e⟩
 item:=λi s Q E hi st hQ=>Ax st.1 st.2 hi λh' it' sb=>hQ _ h' s.toks ⟨_,Array.getElem?_eq_getElem (by rw[jV];exact hi),rfl⟩ ⟨it',st.2.to λo e=>sb.extBut d o ne e⟩ λb o hb e=>sb.extBut b o (λh=>hb (by simp[h])) e
 done:=λs Q E st hQ=>Cm calm st.1 st.2 λh' he'=>hQ h' s.toks λb o hb e=>he' b o (λh=>hb (by simp[h])) e
 self:=λ_ _ _ _ st hQ=>yC st.1 hQ
theorem yf {r:Addr}{Q:Bool->Shared->Prop}(hT:s.TypeIs (.ref r) "set")(h:Q false s):wpAny (model prog w) A (Builtin.List.listLengthHint (.ref r)) Q E s:=by
 unfold Builtin.List.listLengthHint;refine wpAny_bind (wpAny_specialOf hT PySem.F.slot_set_len.lookup ?_)
 generalize hid:("set.__len__":String)=id0;wp_delta
 rw[show splitId id0=some ("set","__len__") from by subst hid;decide+kernel];subst hid
 refine wpAny_bind (wpAny_isInstance (T:="set") (b:=true) hT (by rw[isSubtype_type];kernel_rfl) ?_)
 refine wpAny_ite_split (λhab=>absurd hab (by decide)) (λ_=>?_)
 refine wpAny_ite_split (λ_=>?_) (λhab=>absurd (by decide+kernel) hab)
 refine wpAny_bind (wpAny_typeOf hT ?_)
 exact wpAny_pure h
theorem Ci:KdlSrc prog w "set" d d es.size (λi v=> ∃e,(iZ w d ep es)[i]? =some e/\v=e.2) (λh=>RawSet w h d es ep t) where
 type:=λ_ h=>h.ty
 there:=λ_ h=>⟨h.lt,h.lt⟩
 keep:=λ_ _ h hk=>h.to λo e=>hk d (.inl rfl) o e
 notList:=by decide
 notTuple:=by decide
 hint:=λ_ _ _ _ h hq=>yf h.ty hq
 iter:=λ_ _ hh h=>⟨_,_,λ_ _ hq=>Ap h hq,xK hh _ (Nat.ne_of_lt h.lt),⟨_,Heap.get?_push_size _ rfl,rfl,rfl⟩,h.to λo e=>Heap.get?_push_of_some _ e⟩
end
set_option maxHeartbeats 4000000
def fQ(w:World):Obj:={cls:=.type "set",dict:=none,data:=.set #[] 0 (.fresh 0 0 (!iY w))}
theorem xI(f m:Nat)(l:Bool):TOk (.fresh f m l) [] where
 pw:=⟨3,by omega,by omega,rfl⟩
 sz:=rfl
 sp:=List.Pairwise.nil
 sd:=List.Pairwise.nil
 lp:=λj h=>by cases h
 ld:=λj h=>by cases h
 dj:=λj h=>by cases h
 fl:=by show 0<=7;omega
 rc:=λx h=>by cases h
theorem yR(w:World):SetOk w (fQ w) #[] 0 (.fresh 0 0 (!iY w)) []:=⟨⟨⟨rfl,rfl,rfl⟩,rfl,rfl,xI _ _ _,rfl,rfl,List.nodup_nil⟩,by show 0*5<7*3;omega⟩
section
variable {prog:Program}{w:World}{A:Around}{E:Value->Shared->Prop}{s:Shared}{a b:Addr}{o:Obj}{es:Array (Int×Value)}{ep:Nat}{t:SetTable}{xs:lE}{k:List Int}
theorem AQ {as:List Value}(hc:checkBuiltinCall "set.__new__" ⟨.type "set"::as,[]⟩=pure ()){Q₁:Value->Shared->Prop}(h:Q₁ (.ref s.heap.objs.size) {s with heap:=s.heap.push (fQ w)}):codeAny (model prog w) A (.call (.builtin "set.__new__") ⟨.type "set"::as,[]⟩) (wants Q₁ E) s:=by
 refine codeAny_of_tree ?_;show wpAny _ A.in1 (do checkBuiltinCall "set.__new__" ⟨.type "set"::as,[]⟩;again (.builtin "set.__new__" ⟨.type "set"::as,[]⟩)) _ _ s
 refine wpAny_bind (wpAny_of_eq hc (wpAny_pure ⟨plainId_quiet F.plain_set_new _,codeAny_builtin F.entry_set_new ?_⟩));rw[Around.under_plainId F.plain_set_new _]
 unfold Builtin.«set.__new__» Builtin.Frozenset.newClass;have hsub:=sub_set_self
 obtain⟨hp,g,d,tk,os⟩:=s
 dsimp only
 wp_walk;refine wpAny_askSetting (wpAny_pure ?_)
 dsimp only;simp only[newObj];refine wpAny_bind (wpAny_alloc (wpAny_pure ?_))
 exact wpAny_pure h
theorem uX {Q:Value->Shared->Prop}(h:Q (.ref s.heap.objs.size) {s with heap:=s.heap.push (fQ w)}):wpAny (model prog w) A (call (.type "set") []) Q E s:=by
 obtain⟨c,tl,hmro⟩:=F.called_set.mro
 have hmade:=F.called_set.made
 have hsub:=F.called_set.sub
 refine wpAny_call (codeAny_of_tree ?_);show wpAny _ _ (callAny (.type "set") _) _ _ _
 refine wpAny_pure ⟨Code.quiet_builtin _ (by decide+kernel),codeAny_builtin F.entry_type_call ?_⟩;rw[Around.under_plain (weight_type_call_type "set" [] []) rfl]
 have h1:=F.called_set.notType
 have h2:=F.called_set.canCreate
 have hct:=F.typeCall_set_0
 repeat (any_goals (first|assumption|wp_step))
 refine codeAny_mono (AQ (E:=E) F.newCall_set_0 (Q₁:=λobj s₁=>obj=.ref s.heap.objs.size/\s₁={s with heap:=s.heap.push (fQ w)}) ⟨rfl,rfl⟩) λr s₁ hr=>?_
 cases r with
 |error e=>exact hr
 |ok fl=>
  cases fl with
  |ret obj=>
   obtain⟨rfl,rfl⟩:=hr
   have hS:(s.heap.push (fQ w)).get? s.heap.objs.size=some (fQ w):=Heap.get?_push_size _ rfl
   have hS:(s.heap.push (fQ w)).get? s.heap.objs.size=some {cls:=.type "set",dict:=none,data:=.set #[] 0 (.fresh 0 0 (!iY w))}:=hS
   have hT:Shared.TypeIs {s with heap:=s.heap.push (fQ w)} (.ref s.heap.objs.size) "set":=⟨_,hS,rfl⟩
   have hli:=F.called_set.init.lookup
   have hbi:=F.called_set.init.bind (.ref s.heap.objs.size)
   repeat (any_goals (first|assumption|wp_step))
   refine codeAny_mono (codeAny_call_builtin (R:=wants (λr s₂=>r=.none/\Q (.ref s.heap.objs.size) s₂) E) F.called_set.init.plain F.entry_set_init (check_set_init hT ?_)) λr₂ s₂ hr₂=>?_
   ·unfold Builtin.«set.__init__» noKeywords
    wp_walk
    exact⟨rfl,h⟩
   ·cases r₂ with
    |error e=>exact hr₂
    |ok fl₂=>
     cases fl₂ with
     |ret r=>
      obtain⟨rfl,hq⟩:=hr₂
      repeat (any_goals (first|assumption|wp_step))
     |_=>exact hr₂.elim
  |_=>exact hr.elim
theorem SetAt.ty(ho:s.heap.get? a=some o)(S:SetAt w o es ep t xs):s.TypeIs (.ref a) "set":=⟨o,ho,S.ex.1⟩
theorem B9(ho:s.heap.get? a=some o)(S:SetAt w o es ep t xs)(hE:BB prog w s.heap xs)(hu:A.units+1<cLine)(hk:(KI prog w).is s.heap k b){Q:Value->Shared->Prop}
 (h:Q (.bool (decide (k∈xs.map (·.1)))) {s with toks:=s.toks+(KI prog w).draws k}):wpAny (model prog w) A (compareOp .In (.ref b) (.ref a)) Q E s:=by
 have hT:=SetAt.ty ho S
 show wpAny _ _ (do return .bool (<-contains (.ref a) (.ref b))) Q E s
 refine wpAny_bind ?_
 unfold contains
 try with_reducible refine wpAny_holding ?_
 refine wpAny_bind (wpAny_specialOf hT F.slot_set_contains.lookup ?_);show wpAny _ _ (if(some (Value.builtin "set.__contains__")==some Value.none)=true then _ else _) _ E s
 rw[if_neg (by rw[beq_builtin_none];exact Bool.false_ne_true)];refine wpAny_bind (wpAny_callSpecialUnlessNone?_slot (name:=Str.ofString "__contains__") hT F.slot_set_contains (wpAny_call_entry F.slot_set_contains hT entry_set_contains ?_ (F.args_set_contains_2 _ _)))
 unfold Builtin.«frozenset.__contains__» Builtin.Frozenset.oneOther;simp only[List.isEmpty_nil,bind_assoc];unfold Builtin.Frozenset.addrOf Builtin.Frozenset.withSetAsKey setContains;refine wpAny_bind (wpAny_pure ?_)
 try dsimp only
 refine wpAny_bind (wpAny_pure ?_)
 try dsimp only
 refine wpAny_bind (wpAny_tryCatch ?_)
 refine wpAny_holding ?_
 have hu1:(KI prog w).room A.in1:=tupleKind_room_in1 hu
 refine wpAny_bind ((KI prog w).pyHash hu1 hk ?_)
 rw[zH];refine wpAny_bind (tJ (s:={s with toks:=s.toks+(KI prog w).draws k}) ho S hE hu1 hk (λi c hi=>?_) λnk=>?_)
 ·rw[decide_eq_true (List.mem_map.mpr ⟨(k,c),List.mem_of_getElem? hi,rfl⟩)] at h
  refine wpAny_pure ?_
  exact wpAny_pure ⟨_,rfl,wpAny_truthy_bool (wpAny_pure h)⟩
 ·rw[decide_eq_false nk] at h
  refine wpAny_pure ?_
  exact wpAny_pure ⟨_,rfl,wpAny_truthy_bool (wpAny_pure h)⟩
theorem yQ(ho:s.heap.get? a=some o)(S:SetOk w o es ep t xs)(hE:BB prog w s.heap xs)(hu:A.units+1<cLine)(hk:(KI prog w).is s.heap k b)(hlen:xs.length<=1000){Q:Value->Shared->Prop}
 (h: ∀h' o' es' ep' t' xs',Heap.SameBut a s.heap h'->h'.get? a=some o'->SetOk w o' es' ep' t' xs'->((k∈xs.map (·.1)/\xs'=xs)\/(k∉xs.map (·.1)/\xs'.Perm (xs++[(k,b)])))->Q .none {s with heap:=h',toks:=s.toks+(KI prog w).draws k}):
 wpAny (model prog w) A (call (.builtin "set.add") [.ref a,.ref b]) Q E s:=by
 have hT:=SetAt.ty ho S.toSetAt
 have hu1:(KI prog w).room A.in1:=tupleKind_room_in1 hu
 refine wpAny_call_entry F.slot_set_add hT F.entry_set_add ?_ (F.args_set_add_2 _ _)
 unfold Builtin.«set.add» Builtin.Frozenset.oneOther;simp only[List.isEmpty_nil,bind_assoc];unfold Builtin.Frozenset.addrOf setAdd;refine wpAny_bind (wpAny_pure ?_)
 try dsimp only
 refine wpAny_bind (wpAny_pure ?_)
 try dsimp only
 refine wpAny_bind ?_
 refine wpAny_holding (wpAny_bind ((KI prog w).pyHash hu1 hk ?_))
 rw[zH];refine Bj (s:={s with toks:=s.toks+(KI prog w).draws k}) ho S hE hu1 hk hlen (λhm=>?_) λnm h' o' es' ep' t' xs' g1 g2 g3 g4=>?_
 ·exact wpAny_pure ⟨_,rfl,h s.heap o es ep t xs (Heap.SameBut.refl a s.heap) ho S (.inl ⟨hm,rfl⟩)⟩
 ·exact wpAny_pure ⟨_,rfl,h h' o' es' ep' t' xs' g1 g2 g3 (.inr ⟨nm,g4⟩)⟩
theorem qT(ho:s.heap.get? a=some o)(S:SetOk w o es ep t xs)(hE:BB prog w s.heap xs)(hu:A.units+1<cLine)(hk:(KI prog w).is s.heap k b)(hlen:xs.length<=1000){Q:Value->Shared->Prop}
 (h: ∀h' o' es' ep' t' xs',Heap.SameBut a s.heap h'->h'.get? a=some o'->SetOk w o' es' ep' t' xs'->((k∉xs.map (·.1)/\xs'=xs)\/(∃i c,xs[i]? =some (k,c)/\xs'=xs.eraseIdx i))->Q .none {s with heap:=h',toks:=s.toks+(KI prog w).draws k}):
 wpAny (model prog w) A (call (.builtin "set.discard") [.ref a,.ref b]) Q E s:=by
 have hT:=SetAt.ty ho S.toSetAt
 have hu1:(KI prog w).room A.in1:=tupleKind_room_in1 hu
 refine wpAny_call_entry F.slot_set_discard hT F.entry_set_discard ?_ (F.args_set_discard_2 _ _)
 unfold Builtin.«set.discard» Builtin.Frozenset.oneOther;simp only[List.isEmpty_nil,bind_assoc];unfold Builtin.Frozenset.addrOf Builtin.Frozenset.withSetAsKey setDiscard;refine wpAny_bind (wpAny_pure ?_)
 try dsimp only
 refine wpAny_bind (wpAny_pure ?_)
 try dsimp only
 refine wpAny_bind (wpAny_tryCatch ?_)
 refine wpAny_holding (wpAny_bind ((KI prog w).pyHash hu1 hk ?_))
 rw[zH];refine ss (s:={s with toks:=s.toks+(KI prog w).draws k}) ho S hE hu1 hk hlen (λnm=>?_) λhm h' o' es' ep' t' xs' g1 g2 g3 g4=>?_
 ·exact wpAny_pure ⟨_,rfl,h s.heap o es ep t xs (Heap.SameBut.refl a s.heap) ho S (.inl ⟨nm,rfl⟩)⟩
 ·exact wpAny_pure ⟨_,rfl,h h' o' es' ep' t' xs' g1 g2 g3 (.inr g4)⟩
end
def rS(i:Nat)(ρ:aF):Option (List (List Int)):=match ρ[i]? with
 |some (.ob (.tset ks))=>some ks
 |_=>none
theorem lN {i:Nat}{ρ:aF}{ks:List (List Int)}(h:rS i ρ=some ks):ρ[i]? =some (.ob (.tset ks)):=by
 unfold rS at h;split at h
 ·cases h;assumption
 ·cases h
abbrev m7(xs:lE):List V:=xs.map λx=>V.ref x.2
abbrev Ao(xs:lE):List D:=xs.map λx=>D.tup (x.1.map D.int)
section
variable {K:W.Frag}{c:Ct}{hid:bK}{ρ:aF}{σ:St}{H:Hp}{a:Addr}
theorem SR.setT(h:SR K c hid ρ σ H){i:Nat}{ks:List (List Int)}(e:rS i ρ=some ks): ∃a xs,σ[i]? =some (some (.ref a))/\hid a=true/\c.H₀ a=none/\H a=some (.tst xs)/\(xs.map (·.1)).Perm ks/\Reps K (vw H hid) (m7 xs) (Ao xs):=by
 obtain⟨a,h1,⟨h2,h3⟩,us,h4,h5,h6⟩:=h.sl i _ (lN e)
 exact⟨a,us,h1,h2,h3,h4,h5,h6⟩
theorem SR.putS {i:Nat}{ks ks':List (List Int)}{xs':lE}(h:SR K c hid ρ σ H)(hg:rS i ρ=some ks)(ha:σ[i]? =some (some (.ref a)))(p:(xs'.map (·.1)).Perm ks')(r:Reps K (vw H hid) (m7 xs') (Ao xs')):SR K c hid (ρ.set i (.ob (.tset ks'))) σ (bN H a (.tst xs')):=by
 obtain⟨a1,us,h1,h2,h3,h4,h5,h6⟩:=h.setT hg
 rw[ha] at h1;cases h1;have lt:i<ρ.length:=(List.getElem?_eq_some_iff.mp (lN hg)).1
 have vv:vw (bN H a (.tst xs')) hid=vw H hid:=eE h2
 have tr': ∀b o,H b=some o-> ∃o2,(bN H a (.tst xs')) b=some o2:=λb o q=>by
  by_cases e:b=a
  ·subst e;exact⟨_,aL⟩
  ·exact⟨o,by rw[aH e];exact q⟩
 have owi:Ow ρ[i]? :=by rw[lN hg];trivial
 have ne: ∀(j:Nat) (s:Sl) (a':Addr),j≠i->ρ[j]? =some s->Ow (some s)->σ[j]? =some (some (.ref a'))->a'≠a:=λj s a' n e o q w=>by
  subst w;exact h.ap j i a' n (by rw[e];exact o) owi q ha
 have ows: ∀j:Nat,Ow (ρ.set i (.ob (.tset ks')))[j]? ->Ow ρ[j]? :=λj o=>by
  by_cases e:j=i
  ·subst e;exact owi
  ·rw[List.getElem?_set_ne (Ne.symm e)] at o;exact o
 refine⟨λb hb=>let⟨o,q⟩:=h.tr b hb;tr' b o q,λb xs hb q=>by
  by_cases e:b=a
  ·subst e;rw[aL] at q;cases q
  ·rw[aH e] at q;exact h.ht b xs hb q,h.h0,λb o q m=>?_,λb o q=>let⟨o2,q2⟩:=h.t0 b o q;tr' b o2 q2,h.c0,h.m0,by simp[h.len],λj s e=>?_,λj l z n o1 o2=>h.ap j l z n (ows j o1) (ows l o2)⟩
 ·rw[aH (be q h3)];exact h.kp b o q m
 ·by_cases ej:j=i
  ·subst ej
   rw[List.getElem?_set_self lt] at e;cases e
   exact⟨a,ha,⟨h2,h3⟩,xs',aL,p,by rw[vv];exact r⟩
  ·rw[List.getElem?_set_ne (Ne.symm ej)] at e
   have z:=h.sl j s e
   cases s with
   |no=>trivial
   |v d=>obtain⟨x,h1,h2⟩:=z;exact⟨x,h1,by rw[vv];exact h2⟩
   |own ds=>obtain⟨a',xs,h1,h2,h3,h4,h5⟩:=z;exact⟨a',xs,h1,by rw[aH (ne j _ a' ej e trivial h1)];exact h2,h3,h4,by rw[vv];exact h5⟩
   |arg ds=>obtain⟨a',xs,h1,h2,h3,h4,h5⟩:=z;exact⟨a',xs,h1,by rw[aH (ne j _ a' ej e trivial h1)];exact h2,h3,h4,by rw[vv];exact h5⟩
   |ob b=>obtain⟨a',h1,h2⟩:=z;exact⟨a',h1,h2.mono (λow o q=>by rw[aH (ne j _ a' ej e ow h1)];exact q) (by rw[vv];exact Same.refl _) λ_ q=>q⟩
end
theorem items_int {prog:Program}{w:World}: ∀ {ns:List Int} {us:List Value},Vals (ns.map V.int) us->PySem.ItemsAre (intKind prog w) ns us
 | [],_,h=>by cases h;exact .nil
 |n::ns,_,h=>by
  cases h with
  |cons r rs=>
   obtain⟨t,rfl⟩:=r
   exact .cons (intKind_is _ _ _ _) (items_int rs)
section
variable {X:Cx}{ae:List (Addr×Obj)}{σ:St}{H:Hp}{s:Shared}{a b:Addr}{A:Around}{E:Value->Shared->Prop}
theorem nv {ks:List Int}(I:Inv X ae σ H s)(h:SqT X.K H b (ks.map V.int)):(KI X.prog X.w).is s.heap ks b:=by
 obtain⟨its,r,⟨o,h1,h2,n,h3⟩,_⟩:=I.tuple h
 exact⟨o,its.toArray,n,h1,h2,h3,by simpa using items_int r⟩
theorem uD {xs:lE}(I:Inv X ae σ H s)(h: ∀x∈xs,SqT X.K H x.2 (x.1.map V.int)):BB X.prog X.w s.heap xs:=λx hx=>nv I (h x hx)
def GI:List V->Hp->VK->Prop:=λxs H Q=>xs=[]/\ ∀a,H a=none->Q (.ref a) (bN H a (.tst []))
theorem uW:dQ X (.type "set") GI:=by
 intro ae s σ H xs us Q I r h;obtain⟨rfl,q⟩:=h
 cases r
 refine uX ?_
 exact⟨.ref s.heap.objs.size,_,I.laid (t':=s.toks) (λb o e=>Heap.get?_push_of_some _ e) (Nat.le_refl _) (show ObjOk X.prog X.w _ _ _ (.tst []) from⟨_,_,_,_,Heap.get?_push_size _ rfl,yR _⟩),rfl,q _ (I.hok.fresh (Nat.le_refl _))⟩
def GC(zs:lE)(k:List Int)(b:Addr)(zs':lE):Prop:=(k∈zs.map (·.1)/\zs'=zs)\/(k∉zs.map (·.1)/\zs'.Perm (zs++[(k,b)]))
def GN(zs:lE)(k:List Int)(zs':lE):Prop:=(zs.map (·.1)).Nodup/\((k∉zs.map (·.1)/\zs'=zs)\/(∃(i:Nat) (c:Addr),zs[i]? =some (k,c)/\zs'=zs.eraseIdx i))
def GP(K:W.Frag):V->List V->Hp->VK->Prop:=λx xs H Q=> ∃a b zs k,x=.ref a/\xs=[.ref b]/\H a=some (.tst zs)/\SqT K H b (k.map V.int)/\(∀z∈zs,SqT K H z.2 (z.1.map V.int))/\zs.length<=1000/\ ∀zs',GC zs k b zs'->Q .non (bN H a (.tst zs'))
def Gh(K:W.Frag):V->List V->Hp->VK->Prop:=λx xs H Q=> ∃a b zs k,x=.ref a/\xs=[.ref b]/\H a=some (.tst zs)/\SqT K H b (k.map V.int)/\(∀z∈zs,SqT K H z.2 (z.1.map V.int))/\zs.length<=1000/\ ∀zs',GN zs k zs'->Q .non (bN H a (.tst zs'))
theorem v0 {h':Heap}{t':Nat}{o':Obj}{es':Array (Int×Value)}{ep':Nat}{tb':SetTable}{xs zs':lE}(I:Inv X ae σ H s)(e:H a=some (.tst xs))(hs:Heap.SameBut a s.heap h')(hg:h'.get? a=some o')(S:SetOk X.w o' es' ep' tb' zs'):
 Inv X ae σ (bN H a (.tst zs')) {s with heap:=h',toks:=t'}:=I.write (x:=a) (e:=a) (by rw[e];trivial) (.inl rfl) (λb u hb hu=>(hs.2 b hb).trans hu) ⟨_,hg⟩ ⟨_,_,_,_,hg,S⟩
theorem BJ(hu:X.A.units+1<cLine):Iu X "set.add" (GP X.K):=by
 intro ae s σ H x xs v us Q I rx rv h;obtain⟨a,b,zs,k,rfl,rfl,hH,hb,hz,hl,q⟩:=h
 cases rx
 obtain⟨u,rfl,ru⟩:=rv.one
 cases ru
 obtain⟨o,es,ep,t,ho,S⟩:=(show ObjOk X.prog X.w H s.heap a (.tst zs) from I.hok a _ hH)
 refine yQ ho S (uD I hz) hu (nv I hb) hl λh' o' es' ep' t' xs' g1 g2 g3 g4=>?_
 exact⟨.non,_,v0 I hH g1 g2 g3,rfl,q _ g4⟩
theorem CI(hu:X.A.units+1<cLine):Iu X "set.discard" (Gh X.K):=by
 intro ae s σ H x xs v us Q I rx rv h;obtain⟨a,b,zs,k,rfl,rfl,hH,hb,hz,hl,q⟩:=h
 cases rx
 obtain⟨u,rfl,ru⟩:=rv.one
 cases ru
 obtain⟨o,es,ep,t,ho,S⟩:=(show ObjOk X.prog X.w H s.heap a (.tst zs) from I.hok a _ hH)
 refine qT ho S (uD I hz) hu (nv I hb) hl λh' o' es' ep' t' xs' g1 g2 g3 g4=>?_
 exact⟨.non,_,v0 I hH g1 g2 g3,rfl,q _ ⟨S.nd,g4⟩⟩
end
section
variable {X:Cx}{o i:Expr}{pos:Pos}{td ty:TE}
def Ig(K:W.Frag)(ty td:TE):TE:=λσ H Q=>ty σ H λy H1=>td σ H1 λx H2=> ∃a b zs k,x=.ref a/\y=.ref b/\H2 a=some (.tst zs)/\SqT K H2 b (k.map V.int)/\(∀z∈zs,SqT K H2 z.2 (z.1.map V.int))/\Q (.bl (decide (k∈zs.map (·.1)))) H2
theorem DN(hu:X.A.units+1<cLine)(hi:PE X i ty)(ho:PE X o td):PC X .In i o (Ig X.K ty td):=by
 intro ae s σ H Q I h;refine bD (hi ae s σ H _ I h) λiv s1 ⟨y,H1,I1,ry,q1⟩=>bD (ho ae s1 σ H1 _ I1 q1) λu s2 hq_=>?_
 obtain⟨x,H2,I2,rx,a,b,zs,k,ex,ey,g1,g2,g3,q2⟩:=hq_
 subst ex ey;obtain rfl:u=Value.ref a:=rx
 obtain rfl:iv=Value.ref b:=ry
 obtain⟨o,es,ep,t,ho,S⟩:=(show ObjOk X.prog X.w H2 s2.heap a (.tst zs) from I2.hok a _ g1)
 refine B9 ho S.toSetAt (uD I2 g3) hu (nv I2 g2) ?_
 have q2:Q (.bl (decide (k∈List.map (λx:List Int×Addr=>x.1) zs))) H2:=q2
 generalize decide (k∈List.map (λx:List Int×Addr=>x.1) zs)=bb at q2⊢
 exact⟨.bl bb,H2,I2.tok _,rfl,q2⟩
end
abbrev IC(K:W.Frag)(H:Hp):List V->List (List Int)->Prop:=Paired λy ks=> ∃b,y=.ref b/\SqT K H b (ks.map V.int)
theorem zQ {K:W.Frag}{H:Hp}: ∀ {zs:lE},(∀z∈zs,SqT K H z.2 (z.1.map V.int))->IC K H (m7 zs) (zs.map (·.1))
 | [],_=>.nil
 |z::zs,h=>.cons ⟨z.2,rfl,h z List.mem_cons_self⟩ (zQ λy hy=>h y (List.mem_cons_of_mem _ hy))
theorem wy {K:W.Frag}{H:Hp}: ∀ {ys:List V} {kss:List (List Int)} {i:Nat},IC K H ys kss->i<kss.length-> ∃b,ys.getD i .non=.ref b/\SqT K H b ((kss.getD i []).map V.int)
 |_,_,_,.nil,e=>by simp at e
 |_,_,0,.cons h _,e=>by obtain⟨b,h1,h2⟩:=h;exact⟨b,by simpa using h1,by simpa using h2⟩
 |_,_,i+1,.cons _ r,e=>by
  obtain⟨b,h1,h2⟩:=wy (i:=i) r (by simpa using e)
  exact⟨b,by simpa using h1,by simpa using h2⟩
theorem sK: ∀zs:lE,Vals (m7 zs) (zs.map λx=>Value.ref x.2)
 | []=>.nil
 |_::zs=>.cons rfl (sK zs)
theorem nH {α β:Type}(f:α->β){l m:List β}(p:l.Perm m): ∀zs:List α,m=zs.map f-> ∃zs':List α,zs'.Perm zs/\l=zs'.map f:=by
 induction p with
 |nil=>intro zs e;exact⟨zs,List.Perm.refl _,e⟩
 |cons x p ih=>
  intro zs e;cases zs with
  |nil=>cases e
  |cons z zs=>
   rw[List.map_cons] at e;injection e with e1 e2
   obtain⟨zs',h1,h2⟩:=ih zs e2
   exact⟨z::zs',h1.cons z,by rw[e1,h2];rfl⟩
 |swap x y l=>
  intro zs e;cases zs with
  |nil=>cases e
  |cons z zs=>
   cases zs with
   |nil=>cases e
   |cons z2 zs=>
    rw[List.map_cons,List.map_cons] at e;injection e with e1 e2
    injection e2 with e2 e3
    exact⟨z2::z::zs,List.Perm.swap z z2 zs,by rw[e1,e2,e3];rfl⟩
 |trans p1 p2 ih1 ih2=>
  intro zs e;obtain⟨zs1,h1,h2⟩:=ih2 zs e
  obtain⟨zs2,h3,h4⟩:=ih1 zs1 h2
  exact⟨zs2,h3.trans h1,h4⟩
theorem mB {k l:List (List Int)}(h:k.Perm l):bR cm k=bR cm l:=mM xE ((dv k).trans h) (jT xE k)
section
variable {X:Cx}
open PySem.W
theorem rD(hc:X.calm=true):dQ X (.builtin "sorted") (λxs H Q=> ∃a zs,xs=[.ref a]/\H a=some (.tst zs)/\(∀z∈zs,SqT X.K H z.2 (z.1.map V.int))/\zs.length<64/\(∀z∈zs,z.1≠[])/\
 ∀l (zs':lE),H l=none->(∀z∈zs',z∈zs)->zs'.map (·.1)=bR cm (zs.map (·.1))->Q (.ref l) (bN H l (.lst (m7 zs')))):=by
 intro ae s σ H xs vs Q I r h;obtain⟨a,zs0,rfl,ha,hsq0,hz0,hne0,q⟩:=h
 obtain⟨u,rfl,rx⟩:=kh r
 cases rx
 obtain⟨o,es,ep,t,ho,S⟩:=(show ObjOk X.prog X.w H s.heap a (.tst zs0) from I.hok a _ ha)
 obtain⟨zs,pz,ez⟩:=nH BL (pL X.w a ep es) zs0 S.he
 have hsq: ∀z∈zs,SqT X.K H z.2 (z.1.map V.int):=λz hz=>hsq0 z (pz.mem_iff.mp hz)
 have hne: ∀k∈zs.map (·.1),k≠[]:=λk hk=>by
  obtain⟨z,hz,rfl⟩:=List.mem_map.mp hk
  exact hne0 z (pz.mem_iff.mp hz)
 have hz:zs.length<64:=by rw[pz.length_eq];exact hz0
 have ky:=zQ hsq
 obtain⟨kss,hkss⟩: ∃kss,kss=zs.map (·.1):=⟨_,rfl⟩
 rw[<-hkss] at ky hne;have lk:kss.length=zs.length:=by rw[hkss,List.length_map]
 obtain⟨its,hits⟩: ∃its,its=zs.map λx=>Value.ref x.2:=⟨_,rfl⟩
 have li:its.length=kss.length:=by rw[hits,List.length_map,lk]
 have rv:Vals (m7 zs) its:=by rw[hits];exact sK zs
 have sz:es.size=its.length:=by rw[S.toSetAt.size,<-pz.length_eq,li,lk]
 have raw:RawSet X.w s.heap a es ep t:=⟨o,zs0,ho,S.toSetAt⟩
 have gi: ∀i,i<kss.length-> ∃(b:Addr) (o:Obj) (ts:List Value) (n:Nat),its.getD i Value.none=.ref b/\s.heap.get? b=some o/\o.cls=.type "tuple"/\o.data=.seq ts.toArray n/\qG ts (kss.getD i []):=λi hi=>by
  obtain⟨b,h1,h2⟩:=wy ky hi
  have r1:=mF rv i
  rw[h1] at r1;obtain⟨ts,r',⟨o,ho,hc,n,hd⟩,_⟩:=I.tuple h2
  exact⟨b,o,ts,n,r1,ho,hc,hd,Dh r'⟩
 have kt: ∀(g:Heap),(∀c o,s.heap.get? c=some o->g.get? c=some o)-> ∀(l:List Value) (ms:List (List Int)),l.length=ms.length->(∀i,i<ms.length-> ∃(b:Addr) (o:Obj) (ts:List Value) (n:Nat),l.getD i Value.none=.ref b/\s.heap.get? b=some o/\o.cls=.type "tuple"/\o.data=.seq ts.toArray n/\qG ts (ms.getD i []))->(∀k∈ms,k≠[])->
  ∃fs,KatTups g l fs/\fs.length=l.length/\ ∀v∈fs,∃i t,v=Value.int i t:=by
  intro g kg l
  induction l with
  |nil=>intro ms _ _ _;exact⟨[],.nil,rfl,λ_ h=>nomatch h⟩
  |cons v l ih=>
   intro ms hl hg hk;cases ms with
   |nil=>cases hl
   |cons m ms=>
    obtain⟨fs,f1,f2,f3⟩:=ih ms (by simpa using hl) (λi hi=>by simpa using hg (i+1) (by simpa using hi)) λk hk'=>hk k (by simp[hk'])
    obtain⟨b,o,ts,n,g1,g2,g3,g4,g5⟩:=hg 0 (by simp)
    simp[List.getD] at g1 g5;subst g1;cases m with
    |nil=>exact absurd rfl (hk [] (by simp))
    |cons x xs=>
     cases g5 with
     |cons y1 y2=>
      obtain⟨t,rfl⟩:=y1
      refine⟨_,KatTups.cons (kg _ _ g2) g3 g4 (by simp;rfl) f1,by simp[f2],λv hv=>?_⟩
      rcases List.mem_cons.mp hv with rfl|hv
      ·exact⟨_,_,rfl⟩
      ·exact f3 v hv
 refine uf (us:=its) (G:=λix=>(∀i∈ix,i<kss.length)/\ix.map (λi=>kss.getD i [])=bR cm kss) (sz▸Ci (es:=es) (ep:=ep) (t:=t)) (λi v hi hv=>?_) (I.ok.hd hc) raw (by omega) (λfew=>⟨λi hi=>?_,?_⟩) (λh2 g tk kg=>?_) (λg tk p e ix kg hp hG hg=>?_)
 ·obtain⟨e,h1,rfl⟩:=hv
  rw[<-Array.getElem?_toList,ez,List.getElem?_map] at h1;obtain⟨x,h2,rfl⟩:=Option.map_eq_some_iff.mp h1
  rw[hits,List.getElem?_map,h2];rfl
 ·rw[List.mem_range] at hi;omega
 ·rw[li,kw,iS (by omega)]
 ·obtain⟨fs,f1,f2,f3⟩:=kt g kg its kss li gi hne
  refine kat_kind (T:=.type "int") f1 (by omega) (λv hv=>?_) (by rfl) ⟨rfl,?_⟩
  ·obtain⟨i,t,rfl⟩:=f3 v hv;exact Looks.now
  ·rw[li]
   refine qu (b:=λi j=>cm (kss.getD i []) (kss.getD j [])) (Aj xE _) (by omega) (λi j C hi hj hC=>?_) λp P S=>⟨rfl,?_,?_⟩
   ·obtain⟨b1,o1,ts1,n1,x1,x2,x3,x4,x5⟩:=gi i hi
    obtain⟨b2,o2,ts2,n2,y1,y2,y3,y4,y5⟩:=gi j hj
    unfold kas_ask;rw[x1,y1];refine kat_lt (kg _ _ x2) x4 (kg _ _ y2) y4 ?_
    refine rE 0 x5 y5 ?_ hC
    have z1:=Paired.length x5
    have z2:=Paired.length y5
    simp[z1,z2]
   ·intro i hi
    have:=P.perm.mem_iff.mp (Array.mem_toList_iff.mp hi)
    simpa using this
   ·exact jp xE P S
 ·have lt: ∀i∈ix,i<zs.length:=λi hi=>by have:=hG.1 i hi;omega
  have e1:(ix.map λi=>zs.getD i ([],0)).map (·.1)=bR cm (zs0.map (·.1)):=by
   rw[<-mB (pz.map (·.1)),<-hkss,<-hG.2,List.map_map]
   refine List.map_congr_left λi hi=>?_
   have:=lt i hi
   rw[hkss];simp[List.getD,this]
  have e2:m7 (ix.map λi=>zs.getD i ([],0))=ix.map λi=>(m7 zs).getD i .non:=by
   show(ix.map λi=>zs.getD i ([],0)).map (λx=>V.ref x.2)=_
   rw[List.map_map];refine List.map_congr_left λi hi=>?_
   have:=lt i hi
   simp[m7,List.getD,this]
  have ll:ix.length=zs0.length:=by
   have:=congrArg List.length e1
   rw[List.length_map,List.length_map,(dv (lt:=cm) (zs0.map (·.1))).length_eq,List.length_map] at this
   exact this
  have qq:=q p (ix.map λi=>zs.getD i ([],0)) (I.hok.fresh hp) (λz hz=>by
   obtain⟨i,hi,rfl⟩:=List.mem_map.mp hz
   have:=lt i hi
   refine pz.mem_iff.mp ?_
   simp[List.getD,this]) e1
  rw[e2] at qq;refine⟨.ref p,_,I.laid (t':=tk) kg hp (show ObjOk X.prog X.w _ g _ (.lst (ix.map λi=>(m7 zs).getD i .non)) from⟨?_,_,e,mi rv ix,hg⟩),rfl,qq⟩
  rw[List.length_map,ll,sizeLine_eq];omega
end
theorem fL {K:W.Frag}{F:Hp}: ∀ {xs:lE},Reps K F (m7 xs) (Ao xs)-> ∀x∈xs,Rep K F (.ref x.2) (.tup (x.1.map D.int))
 | [],_,x,h=>by cases h
 |y::xs,r,x,h=>by
  cases r with
  |cons r rs=>
   rcases List.mem_cons.mp h with rfl|h
   ·exact r
   ·exact fL rs x h
theorem kQ {K:W.Frag}{F:Hp}: ∀ {xs:lE},(∀x∈xs,Rep K F (.ref x.2) (.tup (x.1.map D.int)))->Reps K F (m7 xs) (Ao xs)
 | [],_=>.nil
 |x::xs,h=>.cons (h x List.mem_cons_self) (kQ λy hy=>h y (List.mem_cons_of_mem _ hy))
theorem p8 {K:W.Frag}{H:Hp}{hid:bK}{b:Addr}{ns:List Int}(h:Rep K (vw H hid) (.ref b) (.tup (ns.map D.int))):SqT K H b (ns.map V.int):=by
 obtain⟨b',z,e,_,h2,h3⟩:=(show Rep1 K H (vw H hid) (.ref b) (.tup (ns.map D.int)) from .inl h).tup
 cases e
 rw[nZ h3,List.map_map] at h2;exact h2
section
variable {X:Cx}{c:Ct}{k k1 k2:Kd}{e f ev:Expr}{es:List Expr}{fe ff fk fv:FE}{fs:FA}{pos pos' py apos cpos p:Pos}{x y:Str}{x1:_}
def yH(i:Nat):FS:=λρ=>.nx (ρ.set i (.ob (.tset [])))
theorem Cd(i:Nat)(hn:X.N.Nodup)(hm:X.mg "set"=none)(hi:X.N[i]? =some x:=by rfl)(hx:yd X.env.scope x:=by first|exact Or.inl rfl|exact Or.inr rfl)(hs:swapsWith (.Call (.Name "set" p) [] [] cpos) (some (.Name x pos')) pos.line X.env=pure false:=by rfl)
 (hf:X.fn x=true\/X.env.scope.names.lookup x=some .local:=by first|exact .inl rfl|exact .inr rfl|assumption) (hg:Gl X "set":=by rfl) (hv:bootBuiltins "set"=some (.type "set"):=by kernel_rfl):DS X c k (.Assign [.Name x pos'] (.Call (.Name "set" p) [] [] cpos) pos) (yH i):=λρ=>PS.imp (oz hn hi hx (uG uW hg hm hv) hs hf) λD σ H hq_=>by
 obtain⟨hid,sr,q⟩:=hq_
 refine⟨rfl,λa ha=>?_⟩
 have sm:=aX ha (.tst [])
 have nf:=sr.fresh ha
 refine q _ _ (ba hid a) (SR.setD (a:=a) (b:=.tset []) (sr.hide sm ha aL) ⟨⟨eS,sr.fresh0 ha⟩,[],aL,List.Perm.refl _,.nil⟩ (sr.notOw nf) i) λb o w=>?_
 obtain⟨w1,w2⟩:=vw_some.mp w
 refine vw_some.mpr ⟨?_,sm b o w2⟩
 unfold ba;rw[w1];have:b≠a:=be w2 ha
 simp[this]
def wN(i:Nat)(fk:FE):FT:=λρ=>(rS i ρ).bind λks=>((fk ρ).bind rV).map λk=>decide (k∈ks)
theorem CH(i:Nat)(hu:X.A.units+1<cLine)(he:DP X c k1 e fe)(hN:X.N[i]? =some y:=by rfl)(hv':qB X.env.scope y:=by first|exact Or.inl rfl|exact Or.inr (Or.inl rfl)|exact Or.inr (Or.inr rfl))(hd:(y==("__debug__":Str))=false:=by decide)
 (hcd:(y==("__classdict__":Str))=false:=by decide) (hm:behindInMarks .In (.Name y py)=false:=by rfl):DT X c (.Compare e [.In] [.Name y py] pos) (wN i fe):=λhid ρ=>
 PT.imp (Et (DN hu (he hid ρ) (pv i hN hv' hd hcd)) hm) λσ H Q hq_=>by
  obtain⟨sr,d,hd,q⟩:=hq_
  obtain⟨ks,e0,hd⟩:=Option.bind_eq_some_iff.mp hd
  obtain⟨kk,e1,rfl⟩:=Option.map_eq_some_iff.mp hd
  obtain⟨dk,e3,e4⟩:=Option.bind_eq_some_iff.mp e1
  have e5:=jP e4
  subst e5;obtain⟨a,xs,a1,a2,a3,a4,a5,a6⟩:=sr.setT e0
  refine⟨sr,_,e3,λz H2 s2 r2=>⟨.ref a,a1,?_⟩⟩
  obtain⟨b,rfl,hb⟩:=rk (RK.b k1 r2 λa n=>sr.fresh n)
  have hb:SqT X.K H2 b (kk.map V.int):=by unfold iK at hb;rw[List.map_map] at hb;exact hb
  refine⟨a,b,xs,kk,rfl,rfl,s2 _ _ a4,hb,λz hz=>p8 ((fL a6 z hz).mono (aR s2)),_,rfl,?_⟩
  rw[show decide (kk∈xs.map (·.1))=decide (kk∈ks) from decide_eq_decide.mpr a5.mem_iff]
  exact q H2 s2
def kb(ks:List (List Int))(k:List Int):List (List Int):=if k∈ks then ks else ks++[k]
def ly(ks:List (List Int))(k:List Int):List (List Int):=ks.filter λx=>decide (x≠k)
def oQ(op:List (List Int)->List Int->List (List Int))(i:Nat)(fk:FE):GE:=λρ=>(rS i ρ).bind λks=>((fk ρ).bind rV).bind λk=>if ks.length<=1000 then some (.non,ρ.set i (.ob (.tset (op ks k)))) else none
theorem yT {zs zs':lE}{ks:List (List Int)}{k:List Int}{b:Addr}(h:GC zs k b zs')(p:(zs.map (·.1)).Perm ks):(zs'.map (·.1)).Perm (kb ks k)/\ ∀z∈zs',z∈zs\/z=(k,b):=by
 unfold kb;rcases h with⟨h1,rfl⟩|⟨h1,h2⟩
 ·rw[if_pos (p.mem_iff.mp h1)]
  exact⟨p,λz hz=>.inl hz⟩
 ·rw[if_neg λw=>h1 (p.mem_iff.mpr w)]
  refine⟨(h2.map (·.1)).trans ?_,λz hz=>?_⟩
  ·rw[List.map_append]
   exact p.append (List.Perm.refl _)
  ·rcases List.mem_append.mp (h2.mem_iff.mp hz) with q|q
   ·exact .inl q
   ·exact .inr (by simpa using q)
theorem A2 {zs zs':lE}{ks:List (List Int)}{k:List Int}(h:GN zs k zs')(p:(zs.map (·.1)).Perm ks):(zs'.map (·.1)).Perm (ly ks k)/\ ∀z∈zs',z∈zs:=by
 obtain⟨nd,h⟩:=h
 unfold ly;have pf:=p.filter λx=>decide (x≠k)
 rcases h with⟨h1,rfl⟩|⟨i,c,h1,rfl⟩
 ·refine⟨?_,λz hz=>hz⟩
  have:(zs'.map (·.1)).filter (λx=>decide (x≠k))=zs'.map (·.1):=List.filter_eq_self.mpr λx hx=>decide_eq_true λw=>h1 (w▸hx)
  rw[this] at pf;exact pf
 ·refine⟨?_,λz hz=>List.mem_of_mem_eraseIdx hz⟩
  refine List.Perm.trans ?_ pf
  have e1:(zs.map (·.1))[i]? =some k:=by rw[List.getElem?_map,h1];rfl
  rw[<-oh]
  generalize zs.map (·.1)=l at e1 nd
  refine(List.perm_ext_iff_of_nodup (List.Nodup.sublist (List.eraseIdx_sublist _ _) nd) (List.Nodup.sublist List.filter_sublist nd)).mpr λx=>?_
  rw[List.mem_eraseIdx_iff_getElem?,List.mem_filter,decide_eq_true_eq];constructor
  ·rintro⟨j,ne,e⟩
   refine⟨List.mem_of_getElem? e,λw=>ne ?_⟩
   subst w;exact(List.getElem?_inj (List.getElem?_eq_some_iff.mp e).1 nd).mp (e.trans e1.symm)
  ·rintro⟨h,ne⟩
   obtain⟨j,hj⟩:=List.mem_iff_getElem?.mp h
   exact⟨j,λw=>by subst w;rw[e1] at hj;cases hj;exact ne rfl,hj⟩
theorem CA(i:Nat)(hu:X.A.units+1<cLine)(he:DP X c .s e fe)
 (hN:X.N[i]? =some y:=by rfl) (hv:qB X.env.scope y:=by first|exact Or.inl rfl|exact Or.inr (Or.inl rfl)|exact Or.inr (Or.inr rfl)) (hd:(y==("__debug__":Str))=false:=by decide) (hcd:(y==("__classdict__":Str))=false:=by decide)
 (hbase:attributeBase (.Name y py) "add" X.env (eval (.Name y py) X.env)=eval (.Name y py) X.env:=by rfl)
 (hfew:((backTo pos (starEach [e] X.env)).all (λx=> !x.1)&&(backToKw pos (keywordEach [] X.env)).all (λx=>x.1.isSome)&&decide ([e].length+([]:List Keyword).length+(if([]:List Keyword).isEmpty then 0 else 1)<30))=true:=by rfl)
 (hline:(apos.endLine==pos.line)=true:=by rfl) (hs:starEach [e] X.env=(false,eval e X.env)::starEach [] X.env:=by rfl) (hplain:(backTo pos (starEach [] X.env)).any (·.1)=false:=by rfl):
 DE X c .s (.Call (.Attribute (.Name y py) "add" apos) [e] [] pos) (oQ kb i fe):=λhid ρ=>
 PE.imp (zZ PySem.F.plainAttrs_set PySem.F.slot_set_add PySem.F.type_set_add (BJ hu) (pv i hN hv hd hcd) (eA (he hid ρ) iF hs) hbase hfew hline hs hplain) λσ H Q hq_=>by
  obtain⟨sr,d,ρ',hd',q⟩:=hq_
  obtain⟨ks,e0,hd'⟩:=Option.bind_eq_some_iff.mp hd'
  obtain⟨kk,e1,hd'⟩:=Option.bind_eq_some_iff.mp hd'
  obtain⟨dk,e3,e4⟩:=Option.bind_eq_some_iff.mp e1
  split at hd'
  ·rename_i hz
   cases hd'
   have e5:=jP e4
   subst e5;obtain⟨a,xs,a1,a2,a3,a4,a5,a6⟩:=sr.setT e0
   refine⟨.ref a,a1,.inr (.inr (.inr (.inr ⟨rfl,xs,a4⟩))),sr,_,e3,λz H2 s2 r2=>?_⟩
   have r2:Rep X.K (vw H2 hid) z (.tup (kk.map D.int)):=r2
   obtain⟨b,rfl,hb⟩:=rk (.inl r2)
   have hb:=p8 r2
   refine⟨a,b,xs,kk,rfl,rfl,s2 _ _ a4,hb,λz hz=>p8 ((fL a6 z hz).mono (aR s2)),by have:=a5.length_eq;rw[List.length_map] at this;omega,λzs' hzs=>?_⟩
   obtain⟨g1,g2⟩:=yT hzs a5
   refine q _ _ ⟨λb' o w hb'=>?_,(sr.ext s2).putS e0 a1 g1 (kQ λz hz=>?_),.non⟩
   ·rw[aH λw'=>by subst w';rw[a2] at hb';cases hb'];exact s2 _ _ w
   ·rcases g2 z hz with h|rfl
    ·exact(fL a6 z h).mono (aR s2)
    ·exact r2
  ·cases hd'
theorem CY(i:Nat)(hu:X.A.units+1<cLine)(he:DP X c .s e fe)
 (hN:X.N[i]? =some y:=by rfl) (hv:qB X.env.scope y:=by first|exact Or.inl rfl|exact Or.inr (Or.inl rfl)|exact Or.inr (Or.inr rfl)) (hd:(y==("__debug__":Str))=false:=by decide) (hcd:(y==("__classdict__":Str))=false:=by decide)
 (hbase:attributeBase (.Name y py) "discard" X.env (eval (.Name y py) X.env)=eval (.Name y py) X.env:=by rfl)
 (hfew:((backTo pos (starEach [e] X.env)).all (λx=> !x.1)&&(backToKw pos (keywordEach [] X.env)).all (λx=>x.1.isSome)&&decide ([e].length+([]:List Keyword).length+(if([]:List Keyword).isEmpty then 0 else 1)<30))=true:=by rfl)
 (hline:(apos.endLine==pos.line)=true:=by rfl) (hs:starEach [e] X.env=(false,eval e X.env)::starEach [] X.env:=by rfl) (hplain:(backTo pos (starEach [] X.env)).any (·.1)=false:=by rfl):
 DE X c .s (.Call (.Attribute (.Name y py) "discard" apos) [e] [] pos) (oQ ly i fe):=λhid ρ=>
 PE.imp (zZ PySem.F.plainAttrs_set PySem.F.slot_set_discard PySem.F.type_set_discard (CI hu) (pv i hN hv hd hcd) (eA (he hid ρ) iF hs) hbase hfew hline hs hplain) λσ H Q hq_=>by
  obtain⟨sr,d,ρ',hd',q⟩:=hq_
  obtain⟨ks,e0,hd'⟩:=Option.bind_eq_some_iff.mp hd'
  obtain⟨kk,e1,hd'⟩:=Option.bind_eq_some_iff.mp hd'
  obtain⟨dk,e3,e4⟩:=Option.bind_eq_some_iff.mp e1
  split at hd'
  ·rename_i hz
   cases hd'
   have e5:=jP e4
   subst e5;obtain⟨a,xs,a1,a2,a3,a4,a5,a6⟩:=sr.setT e0
   refine⟨.ref a,a1,.inr (.inr (.inr (.inr ⟨rfl,xs,a4⟩))),sr,_,e3,λz H2 s2 r2=>?_⟩
   have r2:Rep X.K (vw H2 hid) z (.tup (kk.map D.int)):=r2
   obtain⟨b,rfl,hb⟩:=rk (.inl r2)
   have hb:=p8 r2
   refine⟨a,b,xs,kk,rfl,rfl,s2 _ _ a4,hb,λz hz=>p8 ((fL a6 z hz).mono (aR s2)),by have:=a5.length_eq;rw[List.length_map] at this;omega,λzs' hzs=>?_⟩
   obtain⟨g1,g2⟩:=A2 hzs a5
   refine q _ _ ⟨λb' o w hb'=>?_,(sr.ext s2).putS e0 a1 g1 (kQ λz hz=>?_),.non⟩
   ·rw[aH λw'=>by subst w';rw[a2] at hb';cases hb'];exact s2 _ _ w
   ·exact(fL a6 z (g2 z hz)).mono (aR s2)
  ·cases hd'
def vX(i:Nat):FE:=λρ=>(rS i ρ).bind λks=>if ks.length<64/\ ∀k∈ks,k≠[] then some (.lst ((bR cm ks).map cW)) else none
theorem Cf(i:Nat)(hcm:X.calm=true)(hm:X.mg "sorted"=none)(hN:X.N[i]? =some y:=by rfl)(hv':qB X.env.scope y:=by first|exact Or.inl rfl|exact Or.inr (Or.inl rfl)|exact Or.inr (Or.inr rfl))(hd:(y==("__debug__":Str))=false:=by decide)
 (hcd:(y==("__classdict__":Str))=false:=by decide) (hg:Gl X "sorted":=by rfl) (hv:bootBuiltins "sorted"=some (.builtin "sorted"):=by kernel_rfl)
 (he:starEach [.Name y py] X.env=(false,eval (.Name y py) X.env)::starEach [] X.env:=by rfl) (hpl:(backTo pos (starEach [] X.env)).any (·.1)=false:=by rfl):DP X c .n (.Call (.Name "sorted" p) [.Name y py] [] pos) (vX i):=λhid ρ=>
 PE.imp (lA (rD hcm) hg hm hv (eA (pv i hN hv' hd hcd) iF he) (by decide) (by decide) he hpl) λσ H Q hq_=>by
  obtain⟨sr,d,hd,q⟩:=hq_
  obtain⟨ks,e0,hd⟩:=Option.bind_eq_some_iff.mp hd
  split at hd
  ·rename_i hz
   cases hd
   obtain⟨a,xs,a1,a2,a3,a4,a5,a6⟩:=sr.setT e0
   have ll:=a5.length_eq
   rw[List.length_map] at ll;refine⟨.ref a,a1,a,xs,rfl,a4,λz hz=>p8 (fL a6 z hz),by omega,λz hz'=>hz.2 _ (a5.mem_iff.mp (List.mem_map_of_mem hz')),λl zs' hl hm hk=>q _ _ (aX hl _) (gv hl (Same.refl _) ?_)⟩
   have:(bR cm ks).map cW=Ao zs':=by
    rw[<-mB a5,<-hk,List.map_map];rfl
   rw[this];exact kQ λz hz=>fL a6 z (hm z hz)
  ·cases hd
end
theorem SR.putO {K:W.Frag}{c:Ct}{hid:bK}{ρ:aF}{σ:St}{H:Hp}{a:Addr}{i:Nat}{b b':Ob}{o':HO}(h:SR K c hid ρ σ H)(hg:ρ[i]? =some (.ob b))(ow:wM b)(ow':wM b')(ha:σ[i]? =some (some (.ref a)))(h2:hid a=true)(h3:c.H₀ a=none)
 (nt: ∀xs,o'≠ .tup xs) (new:ObOk K c hid (bN H a o') a b'):SR K c hid (ρ.set i (.ob b')) σ (bN H a o'):=by
 have lt:i<ρ.length:=(List.getElem?_eq_some_iff.mp hg).1
 have vv:vw (bN H a o') hid=vw H hid:=eE h2
 have tr': ∀b o,H b=some o-> ∃o2,(bN H a o') b=some o2:=λb o q=>by
  by_cases e:b=a
  ·subst e;exact⟨_,aL⟩
  ·exact⟨o,by rw[aH e];exact q⟩
 have owi:Ow ρ[i]? :=by rw[hg];exact ow
 have ne: ∀(j:Nat) (s:Sl) (a':Addr),j≠i->ρ[j]? =some s->Ow (some s)->σ[j]? =some (some (.ref a'))->a'≠a:=λj s a' n e o q w=>by
  subst w;exact h.ap j i a' n (by rw[e];exact o) owi q ha
 have ows: ∀j:Nat,Ow (ρ.set i (.ob b'))[j]? ->Ow ρ[j]? :=λj o=>by
  by_cases e:j=i
  ·subst e;exact owi
  ·rw[List.getElem?_set_ne (Ne.symm e)] at o;exact o
 refine⟨λb hb=>let⟨o,q⟩:=h.tr b hb;tr' b o q,λb xs hb q=>by
  by_cases e:b=a
  ·subst e;rw[aL] at q;exact nt xs (Option.some.inj q)
  ·rw[aH e] at q;exact h.ht b xs hb q,h.h0,λb o q m=>?_,λb o q=>let⟨o2,q2⟩:=h.t0 b o q;tr' b o2 q2,h.c0,h.m0,by simp[h.len],λj s e=>?_,λj l z n o1 o2=>h.ap j l z n (ows j o1) (ows l o2)⟩
 ·rw[aH (be q h3)];exact h.kp b o q m
 ·by_cases ej:j=i
  ·subst ej
   rw[List.getElem?_set_self lt] at e;cases e
   exact⟨a,ha,new⟩
  ·rw[List.getElem?_set_ne (Ne.symm ej)] at e
   have z:=h.sl j s e
   cases s with
   |no=>trivial
   |v d=>obtain⟨x,h1,h2⟩:=z;exact⟨x,h1,by rw[vv];exact h2⟩
   |own ds=>obtain⟨a',xs,h1,h2,h3,h4,h5⟩:=z;exact⟨a',xs,h1,by rw[aH (ne j _ a' ej e trivial h1)];exact h2,h3,h4,by rw[vv];exact h5⟩
   |arg ds=>obtain⟨a',xs,h1,h2,h3,h4,h5⟩:=z;exact⟨a',xs,h1,by rw[aH (ne j _ a' ej e trivial h1)];exact h2,h3,h4,by rw[vv];exact h5⟩
   |ob b=>obtain⟨a',h1,h2⟩:=z;exact⟨a',h1,h2.mono (λow o q=>by rw[aH (ne j _ a' ej e ow h1)];exact q) (by rw[vv];exact Same.refl _) λ_ q=>q⟩
def zj(i:Nat)(ρ:aF):Option rG:=match ρ[i]? with
 |some (.ob (.dF kvs))=>some kvs
 |_=>none
theorem xw {i:Nat}{ρ:aF}{kvs:rG}(h:zj i ρ=some kvs):ρ[i]? =some (.ob (.dF kvs)):=by
 unfold zj at h;split at h
 ·cases h;assumption
 ·cases h
theorem SR.dictF {K:W.Frag}{c:Ct}{hid:bK}{ρ:aF}{σ:St}{H:Hp}(h:SR K c hid ρ σ H){i:Nat}{kvs:rG}(e:zj i ρ=some kvs): ∃a o us,σ[i]? =some (some (.ref a))/\hid a=true/\c.H₀ a=none/\H a=some (.frz o (.dT us))/\KRt K (vw H hid) us kvs:=by
 obtain⟨a,h1,⟨h2,h3⟩,o,us,h4,h5,h6⟩:=h.sl i _ (xw e)
 exact⟨a,o,us,h1,h2,h3,h4,h5,h6⟩
def Bv(i:Nat)(ρ:aF):aF:=match rZ i ρ with
 |some kvs=>ρ.set i (.ob (.dF kvs))
 |none=>ρ
section
variable {X:Cx}{c:Ct}{k k1 k2:Kd}{st:Stmt}{t:FS}
theorem Bn(i:Nat)(h:DS X c k st t):DS X c k st (λρ=>t (Bv i ρ)):=λρ ae s σ H D I hq_=>by
 obtain⟨hid,sr,q⟩:=hq_
 have q:EndOk X.K c k D (vw H hid) (t (Bv i ρ)):=q
 unfold Bv at q;split at q
 ·rename_i kvs e
  obtain⟨a,us,a1,a2,a3,a4,a5⟩:=sr.dictT e
  obtain⟨z,y,xs,r,o,es,ep,g1,g2⟩:=(show ObjOk X.prog X.w H s.heap a (.dT us) from I.hok a _ a4)
  have na: ∀b xs,H b=some (.tup xs)->b≠a:=λb xs w e=>by subst e;rw[a4] at w;cases w
  have new:ObjOk X.prog X.w (bN H a (.frz o (.dT us))) s.heap a (.frz o (.dT us)):=⟨g1,z,y,xs,Paired.mapP r λp q z=>⟨z.1,by rw[aH (na _ _ z.2.1)];exact z.2.1,z.2.2⟩,o,es,ep,g1,g2⟩
  have I2:Inv X ae σ (bN H a (.frz o (.dT us))) {s with heap:=s.heap,toks:=s.toks}:=I.write (x:=a) (e:=a) (by rw[a4];trivial) (.inl rfl) (λb u _ hu=>hu) ⟨o,g1⟩ new
  have vv:vw (bN H a (.frz o (.dT us))) hid=vw H hid:=eE a2
  refine h (ρ.set i (.ob (.dF kvs))) ae s σ (bN H a (.frz o (.dT us))) D I2 ⟨hid,sr.putO (jU e) trivial trivial a1 a2 a3 (λ_ e=>by cases e) ⟨⟨a2,a3⟩,o,us,aL,a5.1,by rw[vv];exact a5.2⟩,?_⟩
  rw[vv];exact q
 ·exact h ρ ae s σ H D I ⟨hid,sr,q⟩
end
def IA(a:Addr)(o:Obj)(us:List (List bS×V))(ys:List V):It:=⟨λi H=>H a=some (.frz o (.dT us))/\i<ys.length,λi H x H'=>H'=H/\ys[i]? =some x,λi H=>H a=some (.frz o (.dT us))/\i=ys.length⟩
theorem wY {P:Program}{w:World}{K:W.Frag}{tg:Expr}(a it:Addr){o:Obj}{us:List (List bS×V)}{es:Array DictEntry}{ep:Nat}{ys:List V}(hex:o.ExactDict)(hd:o.data=.dict es ep)(rv:Vals ys (es.toList.map (·.key))):
 Turn P w K tg (IA a o us ys) [it] it (λi h=>h.IsKeyIter it a i es.size ep) where
 mem:=by simp
 obj:=λi h st b hb=>by
  have e:b=it:=by simpa using hb
  subst e;obtain⟨o,e,c,d⟩:=st
  exact⟨o,e,λv z=>by rw[d] at z;cases z⟩
 keep:=λi h h' st k=>st.at λo e=>k it (by simp) o e
 item:=by
  intro X hP hw hK hc i ae s σ H E I hf st hg;subst hP hw hK;obtain⟨hH,hlt⟩:=hg
  have hl:=rv.length
  rw[List.length_map,Array.length_toList (xs:=es)] at hl;have hi:i<es.size:=by omega
  obtain⟨ho,_⟩:=(show ObjOk X.prog X.w H s.heap a (.frz o (.dT us)) from I.hok a _ hH)
  obtain⟨f0,f1,f2,f3,f4,f5⟩:=hf it (by simp)
  obtain⟨u,hu,ru⟩:=rv.get (i:=i) (x:=ys[i]) (List.getElem?_eq_getElem hlt)
  have hu':u=es[i].key:=by
   rw[List.getElem?_map,Array.getElem?_toList,Array.getElem?_eq_getElem hi] at hu;exact(Option.some.inj hu).symm
  refine yk st ⟨o,ho,hex,hd⟩ hi λh' st' sb=>?_
  have I1:Inv X ae σ H {s with heap:=h'}:=I.turned (t':=s.toks) (λb o hb e=>(sb.2 b hb).trans e) f0 f1 f3 f4 f5
  obtain⟨o',e,c,d⟩:=id st'
  exact⟨_,rfl,vK (s:={s with heap:=h'}) e c d (by decide) ⟨ys[i],H,I1,by rw[<-hu'];exact ru,⟨rfl,List.getElem?_eq_getElem hlt⟩,st',λb hb=>(hf b hb).1⟩⟩
 done:=by
  intro X hP hw hK hc i ae s σ H E I hf st hg;subst hP hw hK;obtain⟨hH,rfl⟩:=hg
  obtain⟨ho,_⟩:=(show ObjOk X.prog X.w H s.heap a (.frz o (.dT us)) from I.hok a _ hH)
  obtain⟨f0,f1,f2,f3,f4,f5⟩:=hf it (by simp)
  have hl:=rv.length
  rw[List.length_map,Array.length_toList (xs:=es)] at hl;rw[hl] at st;exact CM (I.ok.hd hc) st ⟨o,ho,hex,hd⟩ λh' eb=>⟨rfl,I.turned (t':=s.toks) (λb o hb e=>eb b o hb e) f0 f1 f3 f4 f5⟩
 self:=λ_ _ _ _ _ st h=>wpAny_pyIter_keyiter st h
def Ia(td:TE):TI:=λσ H R=>td σ H λx H1=> ∃a o us,x=.ref a/\H1 a=some (.frz o (.dT us))/\ ∀xs,KTd H1 us xs->R (IA a o us (xs.map λx=>V.ref x.2.1)) H1
theorem DV {X:Cx}{tg l:Expr}{tl:TE}(hl:PE X l tl):PI X tg l (Ia tl):=by
 intro ae s σ H R I h;refine bD (hl ae s σ H _ I h) λv s1 hq_=>?_
 obtain⟨x,H1,I1,r1,q1⟩:=hq_
 obtain⟨a,o,us,e,hq,q⟩:=q1
 subst e;cases r1
 obtain⟨g0,z,lo,xs,r,o',es,ep,g1,g2,g3,g4,g5⟩:=(show ObjOk X.prog X.w H1 s1.heap a (.frz o (.dT us)) from I1.hok a _ hq)
 rw[g0] at g1;cases g1
 have rv:Vals (xs.map λx=>V.ref x.2.1) (es.toList.map (·.key)):=by
  rw[g4,List.map_map];exact vz xs
 refine AC lo ⟨o,g0,g2,g3⟩ ?_
 refine⟨s1.heap.objs.size,[s1.heap.objs.size],_,_,H1,rfl,I1.kept (t':=s1.toks) λb o e=>Heap.get?_push_of_some _ e,wY a _ g2 g3 rv,⟨_,Heap.get?_push_size _ rfl,rfl,rfl⟩,λb hb=>?_,q xs r⟩
 have e:b=s1.heap.objs.size:=by simpa using hb
 subst e;exact I1.fpOk (Nat.le_refl _) (I1.hok.fresh (Nat.le_refl _))
def wl(i:Nat):FA:=λρ=>(zj i ρ).bind λkvs=>(intKs kvs).map λkss=>kss.map cW
section
variable {X:Cx}{c:Ct}{k k1 k2:Kd}{e f ev:Expr}{es:List Expr}{fe ff fk fv:FE}{fs:FA}{pos pos' py apos cpos p:Pos}{x y:Str}{x1:_}{tg:Expr}
theorem BA(i:Nat)(hN:X.N[i]? =some y:=by rfl)(hv':qB X.env.scope y:=by first|exact Or.inl rfl|exact Or.inr (Or.inl rfl)|exact Or.inr (Or.inr rfl))(hd:(y==("__debug__":Str))=false:=by decide)(hcd:(y==("__classdict__":Str))=false:=by decide):
 Es X c tg (.Name y py) (wl i):=λhid ρ=>PI.imp (DV (pv i hN hv' hd hcd)) λσ H R hq_=>by
 obtain⟨sr,ds,e,q⟩:=hq_
 obtain⟨kvs,e0,e⟩:=Option.bind_eq_some_iff.mp e
 obtain⟨kss,e1,rfl⟩:=Option.map_eq_some_iff.mp e
 obtain⟨a,o,us,a1,a2,a3,a4,a5⟩:=sr.dictF e0
 refine⟨.ref a,a1,a,o,us,rfl,a4,λxs kt=>?_⟩
 have ky:=zL kt (by rw[a5.1];exact tP e1)
 have rr:=sQ (K:=X.K) sr.ht ky
 have ll:=rr.length
 refine q _ H (Same.refl _) ⟨λj d H2 hj s w=>?_,λH2 s w=>⟨s _ _ a4,ll.symm⟩⟩
 obtain⟨v,h1,h2⟩:=rr.get hj
 have hlt:j<(xs.map λx=>V.ref x.2.1).length:=(List.getElem?_eq_some_iff.mp h1).1
 refine⟨⟨s _ _ a4,hlt⟩,λx H' ⟨g1,g2⟩=>?_⟩
 subst g1;rw[h1] at g2;cases g2;exact⟨Same.refl _,λhid' _ sw=>h2.mono sw⟩
end
section
variable {X:Cx}{ae:List (Addr×Obj)}{σ:St}{H:Hp}{s:Shared}{a b:Addr}{A:Around}{E:Value->Shared->Prop}
theorem En {kvs:List (List bS×V)}{k:List bS}{v:V}{Q:Value->Shared->Prop}(hu:A.units+1<cLine)(I:Inv X ae σ H s)(e:Rd H a (.dT kvs))(eb:SqT X.K H b (k.map kV))(l:jh kvs k=some v)
 (h: ∀w' s',Inv X ae σ H s'->RelV v w'->Q w' s'):wpAny (model X.prog X.w) A (getItem (.ref a) (.ref b)) Q E s:=by
 obtain⟨z,hd,xs,rel,dd⟩:=tE I.hok e
 obtain⟨w',hw,rw'⟩:=RelO.some_of (v:=v) (o:=(atKey xs k).map (·.2)) (by rw[<-l];exact rel.val k)
 obtain⟨p,hp,hp2⟩:=Option.map_eq_some_iff.mp hw
 refine wpAny_getItem_heap (tupleKind_room_in1 hu) (ER I eb) dd hp ?_
 rw[hp2];exact h w' _ (I.tok _) rw'
end
section
variable {X:Cx}{o i:Expr}{pos:Pos}{td ty:TE}
def Ho(K:W.Frag)(td ty:TE):TE:=λσ H Q=>td σ H λx H1=>ty σ H1 λy H2=> ∃a b kvs k v,x=.ref a/\y=.ref b/\Rd H2 a (.dT kvs)/\SqT K H2 b (k.map kV)/\jh kvs k=some v/\Q v H2
theorem Ea(hu:X.A.units+1<cLine)(ho:PE X o td)(hi:PE X i ty)(hs:DD i):PE X (.Subscript o i pos) (Ho X.K td ty):=by
 intro ae s σ H Q I h;refine CL PySem.F.slot_dict_getitem.lookup hs (bD (ho ae s σ H _ I h) λu s1 ⟨x,H1,I1,rx,q1⟩=>bD (hi ae s1 σ H1 _ I1 q1) λiv s2 hq_=>?_)
 obtain⟨y,H2,I2,ry,a,b,kvs,k,v,ex,ey,g1,g2,g3,q2⟩:=hq_
 subst ex ey;obtain rfl:u=Value.ref a:=rx
 obtain rfl:iv=Value.ref b:=ry
 refine⟨?_,En hu I2 g1 g2 g3 λw' s3 I3 rw'=>⟨v,H2,I3,rw',q2⟩⟩
 obtain⟨_,_,xs,_,dd⟩:=tE I2.hok g1
 exact dd.typeIs
end
section
variable {X:Cx}{c:Ct}{k k1 k2:Kd}{e f ev:Expr}{es:List Expr}{fe ff fk fv:FE}{fs:FA}{pos pos' py apos cpos p:Pos}{x y:Str}{x1:_}{tg:Expr}
def C1(i:Nat)(fk:FE):FE:=λρ=>(zj i ρ).bind λkvs=>((fk ρ).bind rV).bind λk=>fM kvs (iK k)
theorem B8(i:Nat)(hu:X.A.units+1<cLine)(he:DP X c k1 e fe)(hs:DD e)(hN:X.N[i]? =some y:=by rfl)(hv':qB X.env.scope y:=by first|exact Or.inl rfl|exact Or.inr (Or.inl rfl)|exact Or.inr (Or.inr rfl))(hd:(y==("__debug__":Str))=false:=by decide)
 (hcd:(y==("__classdict__":Str))=false:=by decide):DP X c .s (.Subscript (.Name y py) e pos) (C1 i fe):=λhid ρ=>
 PE.imp (Ea hu (pv i hN hv' hd hcd) (he hid ρ) hs) λσ H Q hq_=>by
  obtain⟨sr,d,hd,q⟩:=hq_
  obtain⟨kvs,e0,hd⟩:=Option.bind_eq_some_iff.mp hd
  obtain⟨kk,e1,hd⟩:=Option.bind_eq_some_iff.mp hd
  obtain⟨dk,e3,e4⟩:=Option.bind_eq_some_iff.mp e1
  have e5:=jP e4
  subst e5;obtain⟨a,o,us,a1,a2,a3,a4,a5⟩:=sr.dictF e0
  refine⟨.ref a,a1,sr,_,e3,λz H2 s2 r2=>?_⟩
  obtain⟨b,rfl,hb⟩:=rk (RK.b k1 r2 λa n=>sr.fresh n)
  have hh:Rd H2 a (.dT us):=.inr ⟨o,s2 _ _ a4⟩
  have rr:KRt X.K (vw H2 hid) us kvs:=⟨a5.1,a5.2.mono (aR s2)⟩
  rcases rr.val (iK kk) with⟨v1,v2⟩|⟨v,d',v1,v2,v3⟩
  ·rw[v2] at hd;cases hd
  ·rw[v2] at hd;cases hd
   exact⟨a,b,us,iK kk,v,rfl,rfl,hh,hb,v1,q _ H2 s2 v3⟩
def IW(K:W.Frag)(c:Ct)(hid:bK)(fk:aF->Option (List Int))(ρ:aF):TE:=λσ H Q=>SR K c hid ρ σ H/\ ∃ns,fk ρ=some ns/\ ∀b H',Same H H'->H' b=some (.tup (ns.map V.int))->Q (.ref b) H'
def DK(X:Cx)(c:Ct)(e:Expr)(fk:aF->Option (List Int)):Prop:= ∀hid ρ,PE X e (IW X.K c hid fk ρ)
theorem wf {K:W.Frag}{F:Hp}: ∀ {xs:List V} {ns:List Int},Reps K F xs (ns.map D.int)->xs=ns.map V.int
 |_,[],h=>by cases h;rfl
 |_,n::ns,h=>by
  cases h with
  |cons r rs=>cases r;rw[wf rs];rfl
def g9(f:FE):aF->Option (List Int):=λρ=>(f ρ).bind λd=>match d with
 | .lst ds=>gP ds
 |_=>none
theorem rT(he:DP X c k1 e fe)(hm:X.mg "tuple"=none)(hg:Gl X "tuple":=by rfl)(hv:bootBuiltins "tuple"=some (.type "tuple"):=by kernel_rfl)
 (hs:starEach [e] X.env=(false,eval e X.env)::starEach [] X.env:=by rfl) (hpl:(backTo pos (starEach [] X.env)).any (·.1)=false:=by rfl):DK X c (.Call (.Name "tuple" p) [e] [] pos) (g9 fe):=λhid ρ=>
 PE.imp (ig cR hg hm hv (eA (he hid ρ) iF hs) (by decide) (by decide) hs hpl) λσ H Q hq_=>by
  obtain⟨sr,ns,e,q⟩:=hq_
  obtain⟨d,e1,e⟩:=Option.bind_eq_some_iff.mp e
  cases d with
  |lst ds=>
   have e5:=iB e
   subst e5;refine⟨sr,_,e1,λv H2 s2 r2=>?_⟩
   obtain⟨a,xs,rfl,h1,h2⟩:=Rep1.lst (RK.b k1 r2 λa n=>sr.fresh n)
   rw[wf h2] at h1;exact⟨a,_,rfl,.inl ⟨h1,λl hl=>q l _ (s2.trans (aX hl _)) aL⟩⟩
  |_=>cases e
def ph(i:Nat)(fk:aF->Option (List Int))(fv:FE):FS:=λρ=>match rZ i ρ with
 |some kvs=>(match fv ρ with
  |some d=>(match fk ρ with
   |some ns=>if kvs.length<=1000 then .nx (ρ.set i (.ob (.dT (oS kvs (iK ns) d)))) else .no
   |none=>.no)
  |none=>.no)
 |none=>.no
theorem zC(i:Nat)(hu:X.A.units+1<cLine){fk:aF->Option (List Int)}(hk:DK X c e fk)(hv:DP X c .s ev fv)(hN:X.N[i]? =some y:=by rfl)(hv':qB X.env.scope y:=by first|exact Or.inl rfl|exact Or.inr (Or.inl rfl)|exact Or.inr (Or.inr rfl))(hd:(y==("__debug__":Str))=false:=by decide)
 (hcd:(y==("__classdict__":Str))=false:=by decide) (hs:swapsWith ev (some (.Subscript (.Name y py) e pos')) pos.line X.env=pure false:=by rfl):
 DS X c k (.Assign [.Subscript (.Name y py) e pos'] ev pos) (ph i fk fv):=λρ=>PS.imp (BR hu (pv i hN hv' hd hcd) (oy λhid=>hk hid ρ) (oy λhid=>hv hid ρ) hs) λD σ H hq_=>by
 obtain⟨hid,sr,q⟩:=hq_
 unfold ph at q;split at q
 ·rename_i kvs e0
  split at q
  ·rename_i d e1
   split at q
   ·rename_i ns e2
    split at q
    ·rename_i hz
     obtain⟨a,us,a1,a2,a3,a4,a5⟩:=sr.dictT e0
     refine⟨hid,sr,d,e1,λv H1 s1 r1=>⟨.ref a,a1,hid,sr.ext s1,ns,e2,λb H2 s2 hb=>?_⟩⟩
     have s13:=s1.trans s2
     have hb':H2 b=some (.tup ((iK ns).map kV)):=by rw[hb];unfold iK;rw[List.map_map];rfl
     refine⟨a,_,rfl,DPut.t (k:=iK ns) (s13 _ _ a4) hb' (by rw[a5.len];exact Nat.lt_of_le_of_lt hz (by decide)),?_⟩
     have r1':Rep X.K (vw H1 hid) v d:=r1
     refine q _ _ hid ((sr.ext s13).putDT e0 a1 (KRt.put (iK ns) (r1'.mono (aR s2)) ⟨a5.1,a5.2.mono (aR s13)⟩)) ?_
     rw[eE a2];exact aR s13
    ·exact q.elim
   ·exact q.elim
  ·exact q.elim
 ·exact q.elim
def oa(i:Nat)(fk:aF->Option (List Int))(fd:FE):FE:=λρ=>(rZ i ρ).bind λkvs=>(fk ρ).bind λns=>(fd ρ).map λd=>(fM kvs (iK ns)).getD d
theorem Ab(i:Nat)(hu:X.A.units+1<cLine){fk:aF->Option (List Int)}(he:DK X c e fk)(hf:DP X c .s f ff)(m:M2 X (.Name y py) "get" apos e f cpos)(hN:X.N[i]? =some y:=by rfl)(hv':qB X.env.scope y:=by first|exact Or.inl rfl|exact Or.inr (Or.inl rfl)|exact Or.inr (Or.inr rfl))(hd:(y==("__debug__":Str))=false:=by decide)
 (hcd:(y==("__classdict__":Str))=false:=by decide):DP X c .s (.Call (.Attribute (.Name y py) "get" apos) [e,f] [] cpos) (oa i fk ff):=λhid ρ=>
 PE.imp (Af hu (pv i hN hv' hd hcd) (he hid ρ) (hf hid ρ) m) λσ H Q hq_=>by
  obtain⟨sr,d,hd,q⟩:=hq_
  obtain⟨kvs,e0,hd⟩:=Option.bind_eq_some_iff.mp hd
  obtain⟨ns,e1,hd⟩:=Option.bind_eq_some_iff.mp hd
  obtain⟨dd,e2,rfl⟩:=Option.map_eq_some_iff.mp hd
  obtain⟨a,us,a1,a2,a3,a4,a5⟩:=sr.dictT e0
  refine⟨.ref a,a1,a,rfl,.inr ⟨us,.inl a4⟩,sr,ns,e1,λb H2 s2 hb=>⟨sr.ext s2,_,e2,λw H3 s3 r3=>?_⟩⟩
  have s23:=s2.trans s3
  have rr:KRt X.K (vw H3 hid) us kvs:=⟨a5.1,a5.2.mono (aR s23)⟩
  have hb':H3 b=some (.tup ((iK ns).map kV)):=by rw[s3 _ _ hb];unfold iK;rw[List.map_map];rfl
  refine⟨_,DGet.t (k:=iK ns) (s23 _ _ a4) hb',q _ H3 s23 ?_⟩
  rcases rr.val (iK ns) with⟨v1,v2⟩|⟨v,d,v1,v2,v3⟩
  ·rw[v1,v2];exact r3
  ·rw[v1,v2];exact v3
end
def zo:FS:=λ_=>.no
theorem yD {X:Cx}{c:Ct}{k:Kd}{st:Stmt}:DS X c k st zo:=λρ ae s σ H D I ⟨hid,sr,q⟩=>q.elim
def kI(i:Nat):Stmt:=PySem.Challenge.pw_rookborders_k49_tied_crowds.main.body.getD i (.Pass ⟨0,0,0,0⟩)
structure Bt(mg:Str->Option Value):Prop where
 b_abs:mg "abs"=none
 b_all:mg "all"=none
 b_any:mg "any"=none
 b_isinstance:mg "isinstance"=none
 b_len:mg "len"=none
 b_list:mg "list"=none
 b_max:mg "max"=none
 b_min:mg "min"=none
 b_range:mg "range"=none
 b_set:mg "set"=none
 b_sorted:mg "sorted"=none
 b_tuple:mg "tuple"=none
theorem HB:(["size","start","end","further"]:List Str).Nodup:=by decide+kernel
theorem Hu:(["stand","a","b","bars","heights","bar"]:List Str).Nodup:=by decide+kernel
theorem Hn:(["square","c","rings","crosses","one","other","between","row"]:List Str).Nodup:=by decide+kernel
theorem G3:(["square","columns","rows","column","row"]:List Str).Nodup:=by decide+kernel
theorem Hv:(["square","stand","a","b","column","bend","sides","turns","rows","straight","row"]:List Str).Nodup:=by decide+kernel
theorem HR:(["square","stand","a","b","column","bend","sides","turns","rows","straight","other"]:List Str).Nodup:=by decide+kernel
theorem Fz:(["square","c","crowd","other","p","q","sides","right","left","stand","end"]:List Str).Nodup:=by decide+kernel
theorem HV:(["_law_bag_here","_law_n","_law_c","_law_ways","_law_four","_law_pairs_of_rows","_law_left","_law_right_here","_law_rest_rings","_law_rest_crosses","?_law_k","_law_d","_law_rings","_law_crosses","_law_k"]:List Str).Nodup:=by decide+kernel
theorem FM:(["_law_bag_here","_law_n","_law_c","_law_ways","_law_four","_law_pairs_of_rows","_law_left","_law_right_here","_law_rest_rings","_law_rest_crosses","_law_k","_law_d","_law_rings","_law_crosses","_law_row"]:List Str).Nodup:=by decide+kernel
theorem Hq:(["_law_square","_law_c","_law_crowd_here","_law_other","_law_odd","?_law_stand","_law_j","_law_a","_law_b","_law_heights","_law_stand"]:List Str).Nodup:=by decide+kernel
theorem FC:(["_law_square","_law_c","_law_crowd_here","_law_handed","_law_due_here","_law_found","_law_stand"]:List Str).Nodup:=by decide+kernel
section
variable {P:Program}{w:World}{K:W.Frag}{mg:Str->Option Value}{base:Heap}
abbrev bu:Stmt:=kI 1
abbrev cf:Stmt:=kI 3
abbrev cL:Stmt:=kI 4
abbrev fG:Stmt:=kI 5
abbrev gr:Stmt:=kI 6
abbrev fE:Stmt:=kI 7
abbrev cj:Stmt:=kI 9
abbrev bY:Stmt:=kI 14
abbrev cB:Stmt:=kI 16
abbrev bx:Stmt:=kI 17
abbrev fF:Stmt:=kI 19
abbrev eK:Stmt:=kI 20
abbrev bP:Stmt:=kI 21
abbrev cG:Stmt:=kI 22
abbrev fx:Stmt:=kI 23
abbrev dw:Stmt:=kI 24
abbrev kx:Stmt:=kI 25
abbrev eC:Stmt:=kI 27
abbrev fA:Stmt:=kI 28
abbrev eD:Stmt:=kI 29
abbrev dA:Stmt:=kI 30
abbrev bH:Stmt:=kI 31
abbrev di:Stmt:=kI 32
abbrev ck:Stmt:=kI 33
abbrev eF:Stmt:=kI 34
abbrev cH:Stmt:=kI 35
abbrev df:Stmt:=kI 36
abbrev fB:Stmt:=kI 37
abbrev dm:Stmt:=kI 38
abbrev j5:Stmt:=kI 39
theorem sc_order_exchanged:FnScope ["order","one","other","numbers"] ["order","one","other"] (am bu):=⟨rfl,rfl,rfl,by decide+kernel,rfl,by decide+kernel,by decide+kernel⟩
def lw:FS:=
 aB (fX 3 (ao mT (aa (ah 0) (ai))))
 (aB (cv (gT 2 (eU (bX 3 (ah 1)) (eU (bX 3 (ah 2)) (jI)))) (pu (cw (aa (ak aP (ah 0) (ah 2)) (aa (ak aP (ah 0) (ah 1)) (ai))))))
 (aY (ao gV (aa (cU 3) (ai)))))
def bv:List D->Option D:=gE .s 4 lw
theorem lH(B:Bt mg)(F:Df K mg "order_exchanged" bu ["order","one","other"]):Cl P w K mg base 1 "order_exchanged" ["order","one","other"] (dX K .s 3 bv):=by
 refine bo (k:=0) F sc_order_exchanged (by decide) rfl λ_ cdv A outer s H hid E hr=>?_
 exact(aj (gj 3 sc_order_exchanged.nd (fD iU qo B.b_list (aZ (af 0) bB) (hv:=by kernel_rfl)))
  (aj (lO (DP.ef (cS (ag (aJ aD aI (af 0) (af 2) (λ_ _=>rfl)) (ag (aJ aD aI (af 0) (af 1) (λ_ _=>rfl)) aw)))) (qi (n:=2) rfl (iq (gc 3 (af 1)) (iq (gc 3 (af 2)) qW))))
  (az (aW (fD cR jr B.b_tuple (aZ (cY 3) bB) (hv:=by kernel_rfl))))))
theorem nX:FnScope ["size","start","end"] ["size","start","end"] (am cf):=⟨rfl,rfl,rfl,by decide+kernel,rfl,by decide+kernel,by decide+kernel⟩
def pd:FS:=
 aY (cx 1 (cN (aa (ak bj (ak eT (ah 2) (ah 1)) (ah 0)) (ai))) (gN 3) (fq) (ak bj (ak aS (ah 1) (ah 3)) (ah 0)))
def dR:List D->Option D:=gE .n 3 pd
theorem o4(B:Bt mg)(F:Df K mg "places_from" cf ["size","start","end"]):Cl P w K mg base 1 "places_from" ["size","start","end"] (dX K .n 3 dR):=by
 refine bo (k:=0) F nX (by decide) rfl λ_ cdv A outer s H hid E hr=>?_
 exact(az (aW (kL (N':=["size","start","end","further"]) rfl (fj (Nat.le_of_ble_eq_true rfl)) (DIp.b (cC B.b_range (ag (cJ (hJ (af 2) (af 1)) (af 0)) aw))) (λ_ _ _ _=>(aC 3 HB)) (λ_ _ _ _=>gI) (λ_ _ _ _=>(cJ (bF (af 1) (af 3)) (af 0))))))
theorem oY:FnScope ["stand","a","b"] ["stand","a","b"] (am cL):=⟨rfl,rfl,rfl,by decide+kernel,rfl,by decide+kernel,by decide+kernel⟩
def qc:FS:=
 aY (ao (nF 3 dR) (aa (ao cV (aa (ah 0) (ai))) (aa (ah 1) (aa (ah 2) (ai)))))
def dD:List D->Option D:=gE .n 3 qc
theorem qz(B:Bt mg)(F:Df K mg "columns_of" cL ["stand","a","b"])(cQ:Cl P w K mg base 1 "places_from" ["size","start","end"] (dX K .n 3 dR)):Cl P w K mg base 2 "columns_of" ["stand","a","b"] (dX K .n 3 dD):=by
 refine bo (k:=1) F oY (by decide) rfl λ_ cdv A outer s H hid E hr=>?_
 exact(az (aW (bI cQ (hr.mono (by decide)) (ag (bm bz gB B.b_len (aZ (af 0) bB) (hv:=by kernel_rfl)) (ag (af 1) (ag (af 2) aw))))))
theorem uu:FnScope ["stand","a","b"] ["stand","a","b"] (am fG):=⟨rfl,rfl,rfl,by decide+kernel,rfl,by decide+kernel,by decide+kernel⟩
def x9:FS:=
 aY (ao (nF 3 dR) (aa (ao cV (aa (ah 0) (ai))) (aa (ak aP (ah 0) (ah 1)) (aa (ak aP (ah 0) (ah 2)) (ai)))))
def gl:List D->Option D:=gE .n 3 x9
theorem xl(B:Bt mg)(F:Df K mg "rows_of" fG ["stand","a","b"])(cQ:Cl P w K mg base 1 "places_from" ["size","start","end"] (dX K .n 3 dR)):Cl P w K mg base 2 "rows_of" ["stand","a","b"] (dX K .n 3 gl):=by
 refine bo (k:=1) F uu (by decide) rfl λ_ cdv A outer s H hid E hr=>?_
 exact(az (aW (bI cQ (hr.mono (by decide)) (ag (bm bz gB B.b_len (aZ (af 0) bB) (hv:=by kernel_rfl)) (ag (aJ aD aI (af 0) (af 1) (λ_ _=>rfl)) (ag (aJ aD aI (af 0) (af 2) (λ_ _=>rfl)) aw))))))
theorem wS:FnScope ["stand","a","b"] ["stand","a","b"] (am gr):=⟨rfl,rfl,rfl,by decide+kernel,rfl,by decide+kernel,by decide+kernel⟩
def yZ:FS:=
 aY (ao (nF 3 bv) (aa (ah 0) (aa (ah 1) (aa (ah 2) (ai)))))
def dS:List D->Option D:=gE .s 3 yZ
theorem AT(B:Bt mg)(F:Df K mg "behind" gr ["stand","a","b"])(bA:Cl P w K mg base 1 "order_exchanged" ["order","one","other"] (dX K .s 3 bv)):Cl P w K mg base 2 "behind" ["stand","a","b"] (dX K .s 3 dS):=by
 refine bo (k:=1) F wS (by decide) rfl λ_ cdv A outer s H hid E hr=>?_
 exact(az (aW (bI bA (hr.mono (by decide)) (ag (af 0) (ag (af 1) (ag (af 2) aw))))))
theorem sc_is_bare:FnScope ["stand","a","b","bars","heights"] ["stand","a","b"] (am fE):=⟨rfl,rfl,rfl,by decide+kernel,rfl,by decide+kernel,by decide+kernel⟩
def xT:FS:=
 aB (aQ 3 (fu (ao (nF 3 dD) (aa (ah 0) (aa (ah 1) (aa (ah 2) (ai))))) (gF (aA (.int 1))) jd))
 (aB (aQ 4 (fu (ao (nF 3 gl) (aa (ah 0) (aa (ah 1) (aa (ah 2) (ai))))) (gF (aA (.int 1))) jd))
 (aY (rL (gH (bc (ao xn (aa (cx 1 (nl (ah 3)) (gN 5) (fq) (ak (ga false) (ak aP (ah 0) (ah 5)) (ah 4))) (ai))))))))
def jO:List D->Option D:=gE .s 5 xT
theorem xf(B:Bt mg)(F:Df K mg "is_bare" fE ["stand","a","b"])(dJ:Cl P w K mg base 2 "columns_of" ["stand","a","b"] (dX K .n 3 dD))(gn:Cl P w K mg base 2 "rows_of" ["stand","a","b"] (dX K .n 3 gl)):Cl P w K mg base 3 "is_bare" ["stand","a","b"] (dX K .s 3 jO):=by
 refine bo (k:=2) F sc_is_bare (by decide) rfl λ_ cdv A outer s H hid E hr=>?_
 exact(aj (aO 3 sc_is_bare.nd (DP.toS (gU (bI dJ (hr.mono (by decide)) (ag (af 0) (ag (af 1) (ag (af 2) aw)))) (cn au) dG)))
  (aj (aO 4 sc_is_bare.nd (DP.toS (gU (bI gn (hr.mono (by decide)) (ag (af 0) (ag (af 1) (ag (af 2) aw)))) (cn au) dG)))
  (az (aW (uR (bm (rY rfl) zF B.b_any (aZ (kL (N':=["stand","a","b","bars","heights","bar"]) rfl (fj (Nat.le_of_ble_eq_true rfl)) (DIp.b (sT (af 3))) (λ_ _ _ _=>(aC 5 Hu)) (λ_ _ _ _=>gI) (λ_ _ _ _=>(kz (jB hr.units) (jD false) (aJ aD aI (af 0) (af 5) (λ_ _=>rfl)) (af 4) (by with_unfolding_all rfl)))) bB) (hv:=by kernel_rfl)))))))
theorem sc_oddly_often:FnScope ["stands","odd","stand"] ["stands"] (am cj):=⟨rfl,rfl,rfl,by decide+kernel,rfl,by decide+kernel,by decide+kernel⟩
def oO:FS:=
 aB (yH 1)
 (aB (dn (bL (de (ah 0))) (gN 2) (cM (wN 1 (ah 2)) (ca (oQ ly 1 (ah 2))) (ca (oQ kb 1 (ah 2)))))
 (aY (vX 1)))
def fI:List D->Option D:=gE .n 3 oO
theorem oX(B:Bt mg)(F:Df K mg "oddly_often" cj ["stands"]):Cl P w K mg base 1 "oddly_often" ["stands"] (dX K .n 1 fI):=by
 refine bo (k:=0) F sc_oddly_often (by decide) rfl λ_ cdv A outer s H hid E hr=>?_
 exact(aj (Cd 1 sc_oddly_often.nd B.b_set)
  (aj (eN PassesOwn.never rfl (DIp.e (dL (af 0))) (aC 2 sc_oddly_often.nd) (az (cy (CH 1 (pg hr) (af 2)) (az (gJ (CY 1 (pg hr) (af 2)))) (az (gJ (CA 1 (pg hr) (af 2)))))))
  (az (aW (Cf 1 rfl B.b_sorted)))))
theorem m9:FnScope ["at","one","other"] ["at","one","other"] (am bY):=⟨rfl,rfl,rfl,by decide+kernel,rfl,by decide+kernel,by decide+kernel⟩
def gD:FS:=
 aY (ub rR rR (ao kf (aa (ah 1) (aa (ah 2) (ai)))) (ah 0) (ao r6 (aa (ah 1) (aa (ah 2) (ai)))))
def bV:List D->Option D:=gE .s 3 gD
theorem nB(B:Bt mg)(F:Df K mg "lies_between" bY ["at","one","other"]):Cl P w K mg base 1 "lies_between" ["at","one","other"] (dX K .s 3 bV):=by
 refine bo (k:=0) F m9 (by decide) rfl λ_ cdv A outer s H hid E hr=>?_
 exact(az (aW (GG tq tq iX iX (bm (pE rfl) wF B.b_min (aZ (af 1) (aZ (af 2) bB)) (hv:=by kernel_rfl)) (af 0) (bm (wV rfl) BE B.b_max (aZ (af 1) (aZ (af 2) bB)) (hv:=by kernel_rfl)))))
theorem sc_may_change:FnScope ["square","c","rings","crosses","one","other","between"] ["square","c"] (am cB):=⟨rfl,rfl,rfl,by decide+kernel,rfl,by decide+kernel,by decide+kernel⟩
def qN:FS:=
 aB (cv (gT 2 (eU (gN 2) (eU (gN 3) (jI)))) (pu (ah 0)))
 (aB (cM (gH (bc (ub ye ye (aA (.int 0)) (ah 1) (ak eT (ao cV (aa (ah 2) (ai))) (aA (.int 2)))))) (aY (aA (.bl false))) (skip))
 (aB (aQ 4 (cw (aa (ak aP (ah 2) (ah 1)) (aa (ak aP (ah 3) (ah 1)) (ai)))))
 (aB (aQ 5 (cw (aa (ak aP (ah 2) (ak aS (ah 1) (aA (.int 1)))) (aa (ak aP (ah 3) (ak aS (ah 1) (aA (.int 1)))) (ai)))))
 (aB (cM (rC (bc (ak (ga false) (ak aP (ah 4) (aA (.int 0))) (ah 5))) (bc (ak (ga false) (ak aP (ah 4) (aA (.int 1))) (ah 5)))) (aY (aA (.bl false))) (skip))
 (aB (aQ 6 (cx 1 (de (ah 5)) (gN 7) (dI (ao (nF 3 bV) (aa (ah 7) (aa (ak aP (ah 4) (aA (.int 0))) (aa (ak aP (ah 4) (aA (.int 1))) (ai)))))) (ah 7)))
 (aY (ak lu (ao cV (aa (ah 6) (ai))) (aA (.int 1)))))))))
def ge:List D->Option D:=gE .s 7 qN
theorem qg(B:Bt mg)(F:Df K mg "may_change" cB ["square","c"])(cq:Cl P w K mg base 1 "lies_between" ["at","one","other"] (dX K .s 3 bV)):Cl P w K mg base 2 "may_change" ["square","c"] (dX K .s 2 ge):=by
 refine bo (k:=1) F sc_may_change (by decide) rfl λ_ cdv A outer s H hid E hr=>?_
 exact(aj (g7 (DP.ef (af 0)) (gd (n:=2) rfl (bf (aC 2 sc_may_change.nd) (bf (aC 3 sc_may_change.nd) eX))))
  (aj (cy (n6 (Dg yg yg iX iX au (af 1) (hJ (bm bz gB B.b_len (aZ (af 2) bB) (hv:=by kernel_rfl)) au))) (az (aW iE)) bh)
  (aj (aO 4 sc_may_change.nd (cS (ag (aJ aD aI (af 2) (af 1) (λ_ _=>rfl)) (ag (aJ aD aI (af 3) (af 1) (λ_ _=>rfl)) aw))))
  (aj (aO 5 sc_may_change.nd (cS (ag (aJ aD aI (af 2) (bF (af 1) au) (λ_ _=>rfl)) (ag (aJ aD aI (af 3) (bF (af 1) au) (λ_ _=>rfl)) aw))))
  (aj (cy (DW.dt (sM (bw (jB hr.units) (jD false) (aJ aD aI (af 4) au (λ_ _=>rfl)) (af 5) (by with_unfolding_all rfl)) (qE (bw (jB hr.units) (jD false) (aJ aD aI (af 4) au (λ_ _=>rfl)) (af 5) (by with_unfolding_all rfl))))) (az (aW iE)) bh)
  (aj (vC 6 (N':=["square","c","rings","crosses","one","other","between","row"]) rfl sc_may_change.nd (fj (Nat.le_of_ble_eq_true rfl)) (DIp.b (dL (af 5))) (λ_ _ _ _=>(aC 7 Hn)) (λ_ _ _ _=>(j0 (fZ (bI cq (hr.mono (by decide)) (ag (af 7) (ag (aJ aD aI (af 4) au (λ_ _=>rfl)) (ag (aJ aD aI (af 4) au (λ_ _=>rfl)) aw))))))) (λ_ _ _ _=>(af 7)))
  (az (aW (kz (jC hr.units) mU (bm bz gB B.b_len (aZ (af 6) bB) (hv:=by kernel_rfl)) au (bO _))))))))))
theorem sc_columns_changed:FnScope ["square","c","rings","crosses"] ["square","c"] (am bx):=⟨rfl,rfl,rfl,by decide+kernel,rfl,by decide+kernel,by decide+kernel⟩
def eW:FS:=
 aB (cM (gH (dI (ao (nF 2 ge) (aa (ah 0) (aa (ah 1) (ai)))))) (zo) (skip))
 (aB (cv (gT 2 (eU (gN 2) (eU (gN 3) (jI)))) (pu (ah 0)))
 (aY (cw (aa (ao (nF 3 bv) (aa (ah 2) (aa (ah 1) (aa (ak aS (ah 1) (aA (.int 1))) (ai))))) (aa (ao (nF 3 bv) (aa (ah 3) (aa (ah 1) (aa (ak aS (ah 1) (aA (.int 1))) (ai))))) (ai))))))
def cT:List D->Option D:=gE .s 4 eW
theorem lB(B:Bt mg)(F:Df K mg "columns_changed" bx ["square","c"])(iO:Cl P w K mg base 2 "may_change" ["square","c"] (dX K .s 2 ge))(bA:Cl P w K mg base 1 "order_exchanged" ["order","one","other"] (dX K .s 3 bv)):Cl P w K mg base 3 "columns_changed" ["square","c"] (dX K .s 2 cT):=by
 refine bo (k:=2) F sc_columns_changed (by decide) rfl λ_ cdv A outer s H hid E hr=>?_
 exact(aj (cy (n6 (fZ (bI iO (hr.mono (by decide)) (ag (af 0) (ag (af 1) aw))))) (az yD) bh)
  (aj (g7 (DP.ef (af 0)) (gd (n:=2) rfl (bf (aC 2 sc_columns_changed.nd) (bf (aC 3 sc_columns_changed.nd) eX))))
  (az (aW (cS (ag (bI bA (hr.mono (by decide)) (ag (af 2) (ag (af 1) (ag (bF (af 1) au) aw)))) (ag (bI bA (hr.mono (by decide)) (ag (af 3) (ag (af 1) (ag (bF (af 1) au) aw)))) aw)))))))
theorem sc_turn_of:FnScope ["square","c","rings","crosses","low","high"] ["square","c"] (am fF):=⟨rfl,rfl,rfl,by decide+kernel,rfl,by decide+kernel,by decide+kernel⟩
def lP:FS:=
 aB (cv (gT 2 (eU (gN 2) (eU (gN 3) (jI)))) (pu (ah 0)))
 (aB (cv (gL 2 (eU (gN 4) (eU (gN 5) (jI)))) (pu (ao eB (aa (cw (aa (ak aP (ah 2) (ah 1)) (aa (ak aP (ah 3) (ah 1)) (ai)))) (ai)))))
 (aY (C7 (dI (ao (nF 3 bV) (aa (ak aP (ah 2) (ak aS (ah 1) (aA (.int 1)))) (aa (ah 4) (aa (ah 5) (ai)))))) (ah 4) (ah 5))))
def iA:List D->Option D:=gE .s 6 lP
theorem xM(B:Bt mg)(F:Df K mg "turn_of" fF ["square","c"])(cq:Cl P w K mg base 1 "lies_between" ["at","one","other"] (dX K .s 3 bV)):Cl P w K mg base 2 "turn_of" ["square","c"] (dX K .s 2 iA):=by
 refine bo (k:=1) F sc_turn_of (by decide) rfl λ_ cdv A outer s H hid E hr=>?_
 exact(aj (g7 (DP.ef (af 0)) (gd (n:=2) rfl (bf (aC 2 sc_turn_of.nd) (bf (aC 3 sc_turn_of.nd) eX))))
  (aj (g7 (DE.toS (DP.ef (bm gQ jJ B.b_sorted (aZ (cS (ag (aJ aD aI (af 2) (af 1) (λ_ _=>rfl)) (ag (aJ aD aI (af 3) (af 1) (λ_ _=>rfl)) aw))) bB) (hv:=by kernel_rfl)))) (we (n:=2) rfl (bf (aC 4 sc_turn_of.nd) (bf (aC 5 sc_turn_of.nd) eX))))
  (az (aW (FF (by decide) (fZ (bI cq (hr.mono (by decide)) (ag (aJ aD aI (af 2) (bF (af 1) au) (λ_ _=>rfl)) (ag (af 4) (ag (af 5) aw))))) (af 4) (af 5))))))
theorem sc_has_mark:FnScope ["square","column","row","rings","crosses"] ["square","column","row"] (am eK):=⟨rfl,rfl,rfl,by decide+kernel,rfl,by decide+kernel,by decide+kernel⟩
def kr:FS:=
 aB (cv (gT 2 (eU (gN 3) (eU (gN 4) (jI)))) (pu (ah 0)))
 (aY (ak (ga false) (ah 2) (cw (aa (ak aP (ah 3) (ah 1)) (aa (ak aP (ah 4) (ah 1)) (ai))))))
def cE:List D->Option D:=gE .s 5 kr
theorem vg(B:Bt mg)(F:Df K mg "has_mark" eK ["square","column","row"]):Cl P w K mg base 1 "has_mark" ["square","column","row"] (dX K .s 3 cE):=by
 refine bo (k:=0) F sc_has_mark (by decide) rfl λ_ cdv A outer s H hid E hr=>?_
 exact(aj (g7 (DP.ef (af 0)) (gd (n:=2) rfl (bf (aC 3 sc_has_mark.nd) (bf (aC 4 sc_has_mark.nd) eX))))
  (az (aW (kz (jB hr.units) (jD false) (af 2) (cS (ag (aJ aD aI (af 3) (af 1) (λ_ _=>rfl)) (ag (aJ aD aI (af 4) (af 1) (λ_ _=>rfl)) aw))) (by with_unfolding_all rfl)))))
theorem mw:FnScope ["square","columns","rows"] ["square","columns","rows"] (am bP):=⟨rfl,rfl,rfl,by decide+kernel,rfl,by decide+kernel,by decide+kernel⟩
def fS:FS:=
 aY (rL (gH (bc (ao xn (aa (o6 2 (de (ah 1)) (gN 3) (fq) (de (ah 2)) (gN 4) (fq) (ao (nF 3 cE) (aa (ah 0) (aa (ah 3) (aa (ah 4) (ai)))))) (ai))))))
def cO:List D->Option D:=gE .s 3 fS
theorem mY(B:Bt mg)(F:Df K mg "columns_clear" bP ["square","columns","rows"])(fz:Cl P w K mg base 1 "has_mark" ["square","column","row"] (dX K .s 3 cE)):Cl P w K mg base 2 "columns_clear" ["square","columns","rows"] (dX K .s 3 cO):=by
 refine bo (k:=1) F mw (by decide) rfl λ_ cdv A outer s H hid E hr=>?_
 exact(az (aW (uR (bm (rY rfl) zF B.b_any (aZ (tM (N':=["square","columns","rows","column","row"]) rfl 4 (fj (Nat.le_of_ble_eq_true rfl)) (Gn (Nat.le_of_ble_eq_true rfl)) (fj (Nat.le_of_ble_eq_true rfl)) (DIp.b (dL (af 1))) (λ_ _ _ _=>(aC 3 G3)) (λ_ _ _ _=>gI) (λ_ _ _ _=>(dL (af 2))) (λ_ _ _ _=>(aC 4 G3)) (λ_ _ _ _=>gI) (λ_ _ _ _=>(bI fz (hr.mono (by decide)) (ag (af 0) (ag (af 3) (ag (af 4) aw)))))) bB) (hv:=by kernel_rfl)))))
theorem sc_bend_clear:FnScope ["column","rows","bend","sides","turns","at","row"] ["column","rows","bend"] (am cG):=⟨rfl,rfl,rfl,by decide+kernel,rfl,by decide+kernel,by decide+kernel⟩
def iH:FS:=
 aB (cv (gT 2 (eU (gN 3) (eU (gN 4) (jI)))) (pu (ah 2)))
 (aB (aQ 5 (aA (.int 0)))
 (aB (dn (bL (de (ah 1))) (gN 6) (aB (cM (dI (ao (nF 3 cE) (aa (ak aP (ah 3) (ah 5)) (aa (ah 0) (aa (ah 6) (ai)))))) (aY (aA (.bl false))) (skip))
 (cM (bc (ak (ga false) (ah 6) (ah 4))) (zm aS 5 (aA (.int 1))) (skip))))
 (aY (aA (.bl true)))))
def fh:List D->Option D:=gE .s 7 iH
theorem qv(B:Bt mg)(F:Df K mg "bend_clear" cG ["column","rows","bend"])(fz:Cl P w K mg base 1 "has_mark" ["square","column","row"] (dX K .s 3 cE)):Cl P w K mg base 2 "bend_clear" ["column","rows","bend"] (dX K .s 3 fh):=by
 refine bo (k:=1) F sc_bend_clear (by decide) rfl λ_ cdv A outer s H hid E hr=>?_
 exact(aj (g7 (DP.ef (af 2)) (gd (n:=2) rfl (bf (aC 3 sc_bend_clear.nd) (bf (aC 4 sc_bend_clear.nd) eX))))
  (aj (aO 5 sc_bend_clear.nd au)
  (aj (eN PassesOwn.never rfl (DIp.e (dL (af 1))) (aC 6 sc_bend_clear.nd) (aj (cy (fZ (bI fz (hr.mono (by decide)) (ag (aJ aD aI (af 3) (af 5) (λ_ _=>rfl)) (ag (af 0) (ag (af 6) aw))))) (az (aW iE)) bh)
  (az (cy (bw (jB hr.units) (jD false) (af 6) (af 4) (by with_unfolding_all rfl)) (az (xC 5 sc_bend_clear.nd au EK)) bh))))
  (az (aW iE)))))
theorem sc_is_bent:FnScope ["square","stand","a","b","column","bend","sides","turns","rows","straight"] ["square","stand","a","b","column","bend"] (am fx):=⟨rfl,rfl,rfl,by decide+kernel,rfl,by decide+kernel,by decide+kernel⟩
def lT:FS:=
 aB (cv (gT 2 (eU (gN 6) (eU (gN 7) (jI)))) (pu (ah 5)))
 (aB (aQ 8 (ao (nF 3 gl) (aa (ah 1) (aa (ah 2) (aa (ah 3) (ai))))))
 (aB (cM (rC (bc (ak lu (cx 1 (de (ah 8)) (gN 10) (bc (ak (ga false) (ah 10) (ah 7))) (ah 10)) (ah 7))) (gH (dI (ao (nF 3 jO) (aa (ah 1) (aa (ah 2) (aa (ah 3) (ai)))))))) (aY (aA (.bl false))) (skip))
 (aB (aQ 9 (cx 1 (de (ao (nF 3 dD) (aa (ah 1) (aa (ah 2) (aa (ah 3) (ai)))))) (gN 10) (bc (ak lu (ah 10) (ah 4))) (ah 10)))
 (aY (rL (ft (bc (ao (nF 3 cO) (aa (ah 0) (aa (ah 9) (aa (ah 8) (ai)))))) (bc (ao (nF 3 fh) (aa (ah 4) (aa (ah 8) (aa (ah 5) (ai))))))))))))
def cs:List D->Option D:=gE .s 10 lT
theorem xV(B:Bt mg)(F:Df K mg "is_bent" fx ["square","stand","a","b","column","bend"])(gn:Cl P w K mg base 2 "rows_of" ["stand","a","b"] (dX K .n 3 gl))(fR:Cl P w K mg base 2 "columns_clear" ["square","columns","rows"] (dX K .s 3 cO))(iM:Cl P w K mg base 2 "bend_clear" ["column","rows","bend"] (dX K .s 3 fh))(mo:Cl P w K mg base 3 "is_bare" ["stand","a","b"] (dX K .s 3 jO))(dJ:Cl P w K mg base 2 "columns_of" ["stand","a","b"] (dX K .n 3 dD)):Cl P w K mg base 4 "is_bent" ["square","stand","a","b","column","bend"] (dX K .s 6 cs):=by
 refine bo (k:=3) F sc_is_bent (by decide) rfl λ_ cdv A outer s H hid E hr=>?_
 exact(aj (g7 (DP.ef (af 5)) (gd (n:=2) rfl (bf (aC 6 sc_is_bent.nd) (bf (aC 7 sc_is_bent.nd) eX))))
  (aj (aO 8 sc_is_bent.nd (DP.toS (bI gn (hr.mono (by decide)) (ag (af 1) (ag (af 2) (ag (af 3) aw))))))
  (aj (cy (DW.dt (sM (bw (jC hr.units) mU (kL (N':=["square","stand","a","b","column","bend","sides","turns","rows","straight","row"]) rfl (fj (Nat.le_of_ble_eq_true rfl)) (DIp.b (dL (af 8))) (λ_ _ _ _=>(aC 10 Hv)) (λ_ _ _ _=>(j0 (bw (jB hr.units) (jD false) (af 10) (af 7) (by with_unfolding_all rfl)))) (λ_ _ _ _=>(af 10))) (af 7) (bO _)) (qE (n6 (fZ (bI mo (hr.mono (by decide)) (ag (af 1) (ag (af 2) (ag (af 3) aw))))))))) (az (aW iE)) bh)
  (aj (vC 9 (N':=["square","stand","a","b","column","bend","sides","turns","rows","straight","other"]) rfl sc_is_bent.nd (fj (Nat.le_of_ble_eq_true rfl)) (DIp.b (dL (DP.toS (bI dJ (hr.mono (by decide)) (ag (af 1) (ag (af 2) (ag (af 3) aw))))))) (λ_ _ _ _=>(aC 10 HR)) (λ_ _ _ _=>(j0 (bw (jC hr.units) mU (af 10) (af 4) (bO _)))) (λ_ _ _ _=>(af 10)))
  (az (aW (AE (bI fR (hr.mono (by decide)) (ag (af 0) (ag (af 9) (ag (af 8) aw)))) (uv (bI iM (hr.mono (by decide)) (ag (af 4) (ag (af 8) (ag (af 5) aw))))))))))))
theorem sc_ends_from:FnScope ["square","c","stand","right","left","i","ends","j"] ["square","c","stand","right","left"] (am dw):=⟨rfl,rfl,rfl,by decide+kernel,rfl,by decide+kernel,by decide+kernel⟩
def jy:FS:=
 aB (aQ 5 (ak aS (ah 1) (aA (.int 1))))
 (aB (fX 6 (cg (ai)))
 (aB (dn (bL (cN (aa (ao cV (aa (ah 2) (ai))) (ai)))) (gN 7) (aB (cM (ft (bc (ak lu (ah 7) (ah 5))) (dI (ao (nF 6 cs) (aa (ah 0) (aa (ah 2) (aa (ah 5) (aa (ah 7) (aa (ah 5) (aa (ah 3) (ai)))))))))) (ca (aN 6 1 gG (bL (aa (ao (nF 3 dS) (aa (ah 2) (aa (ah 5) (aa (ah 7) (ai))))) (ai))))) (skip))
 (cM (ft (bc (ak lu (ah 7) (ah 5))) (dI (ao (nF 6 cs) (aa (ah 0) (aa (ah 2) (aa (ah 7) (aa (ah 5) (aa (ah 1) (aa (ah 4) (ai)))))))))) (ca (aN 6 1 gG (bL (aa (ao (nF 3 dS) (aa (ah 2) (aa (ah 7) (aa (ah 5) (ai))))) (ai))))) (skip))))
 (ya 6)))
def eR:List D->Option D:=gE .n 8 jy
theorem tu(B:Bt mg)(F:Df K mg "ends_from" dw ["square","c","stand","right","left"])(jL:Cl P w K mg base 4 "is_bent" ["square","stand","a","b","column","bend"] (dX K .s 6 cs))(lq:Cl P w K mg base 2 "behind" ["stand","a","b"] (dX K .s 3 dS)):Cl P w K mg base 5 "ends_from" ["square","c","stand","right","left"] (dX K .n 5 eR):=by
 refine bo (k:=4) F sc_ends_from (by decide) rfl λ_ cdv A outer s H hid E hr=>?_
 exact(aj (aO 5 sc_ends_from.nd (bF (af 1) au))
  (aj (gj 6 sc_ends_from.nd (cZ aw))
  (aj (eN PassesOwn.never rfl (DIp.e (cC B.b_range (ag (bm bz gB B.b_len (aZ (af 2) bB) (hv:=by kernel_rfl)) aw))) (aC 7 sc_ends_from.nd) (aj (cy (DW.dt (oD (bw (jC hr.units) mU (af 7) (af 5) (bO _)) (kO (fZ (bI jL (hr.mono (by decide)) (ag (af 0) (ag (af 2) (ag (af 5) (ag (af 7) (ag (af 5) (ag (af 3) aw))))))))))) (az (gJ (iQ 6 gk dH PySem.F.slot_list_append PySem.F.type_list_append (DA.gf (ag (bI lq (hr.mono (by decide)) (ag (af 2) (ag (af 5) (ag (af 7) aw)))) aw))))) bh)
  (az (cy (DW.dt (oD (bw (jC hr.units) mU (af 7) (af 5) (bO _)) (kO (fZ (bI jL (hr.mono (by decide)) (ag (af 0) (ag (af 2) (ag (af 7) (ag (af 5) (ag (af 1) (ag (af 4) aw))))))))))) (az (gJ (iQ 6 gk dH PySem.F.slot_list_append PySem.F.type_list_append (DA.gf (ag (bI lq (hr.mono (by decide)) (ag (af 2) (ag (af 7) (ag (af 5) aw)))) aw))))) bh))))
  (az (wu 6)))))
theorem sc_tied:FnScope ["square","c","crowd","other","p","q","sides","right","left"] ["square","c","crowd"] (am kx):=⟨rfl,rfl,rfl,by decide+kernel,rfl,by decide+kernel,by decide+kernel⟩
def uV:FS:=
 aB (aQ 3 (ao (nF 2 cT) (aa (ah 0) (aa (ah 1) (ai)))))
 (aB (vd 4 5 (aa (ao (nF 2 iA) (aa (ah 0) (aa (ah 1) (ai)))) (aa (ao (nF 2 iA) (aa (ah 3) (aa (ah 1) (ai)))) (ai))))
 (aB (aQ 6 (cg (aa (ah 0) (aa (ah 3) (aa (ah 0) (ai))))))
 (aB (cv (gT 2 (eU (gN 7) (eU (gN 8) (jI)))) (pu (cw (aa (cw (aa (ah 6) (aa (cg (aa (ah 4) (aa (ah 5) (ai)))) (ai)))) (aa (cw (aa (ah 6) (aa (cg (aa (ah 5) (aa (ah 4) (ai)))) (ai)))) (ai))))))
 (aY (ao (nF 1 fI) (aa (o6 2 (de (ah 2)) (gN 9) (fq) (de (ao (nF 5 eR) (aa (ah 0) (aa (ah 1) (aa (ah 9) (aa (ah 7) (aa (ah 8) (ai)))))))) (gN 10) (fq) (ah 10)) (ai)))))))
def nG:List D->Option D:=gE .n 9 uV
theorem D3(B:Bt mg)(F:Df K mg "tied" kx ["square","c","crowd"])(eV:Cl P w K mg base 3 "columns_changed" ["square","c"] (dX K .s 2 cT))(gX:Cl P w K mg base 1 "oddly_often" ["stands"] (dX K .n 1 fI))(jZ:Cl P w K mg base 2 "turn_of" ["square","c"] (dX K .s 2 iA))(jt:Cl P w K mg base 5 "ends_from" ["square","c","stand","right","left"] (dX K .n 5 eR)):Cl P w K mg base 6 "tied" ["square","c","crowd"] (dX K .n 3 nG):=by
 refine bo (k:=5) F sc_tied (by decide) rfl λ_ cdv A outer s H hid E hr=>?_
 exact(QSs.to (lc (QS.of (aO 3 sc_tied.nd (bI eV (hr.mono (by decide)) (ag (af 0) (ag (af 1) aw)))))
  (lc (QS.of (yM 4 5 rfl sc_tied.nd (ag (bI jZ (hr.mono (by decide)) (ag (af 0) (ag (af 1) aw))) (ag (bI jZ (hr.mono (by decide)) (ag (af 3) (ag (af 1) aw))) aw))))
  (lc (QS.of (aO 6 sc_tied.nd (DP.toS (cZ (ag (af 0) (ag (af 3) (ag (af 0) aw)))))))
  (lc (QS.of (g7 (DP.ef (cS (ag (cS (ag (af 6) (ag (DP.toS (cZ (ag (af 4) (ag (af 5) aw)))) aw))) (ag (cS (ag (af 6) (ag (DP.toS (cZ (ag (af 5) (ag (af 4) aw)))) aw))) aw oJ) oJ))) (gd (n:=2) rfl (bf (aC 7 sc_tied.nd) (bf (aC 8 sc_tied.nd) eX)))))
  (CO (QS.of (aW (bI gX (hr.mono (by decide)) (ag (DP.toS (tM (N':=["square","c","crowd","other","p","q","sides","right","left","stand","end"]) rfl 10 (fj (Nat.le_of_ble_eq_true rfl)) (Gn (Nat.le_of_ble_eq_true rfl)) (fj (Nat.le_of_ble_eq_true rfl)) (DIp.b (dL (af 2))) (λ_ _ _ _=>(aC 9 Fz)) (λ_ _ _ _=>gI) (λ_ _ _ _=>(dL (DP.toS (bI jt (hr.mono (by decide)) (ag (af 0) (ag (af 1) (ag (af 9) (ag (af 7) (ag (af 8) aw))))))))) (λ_ _ _ _=>(aC 10 Fz)) (λ_ _ _ _=>gI) (λ_ _ _ _=>(af 10)))) aw))))))))))
theorem sG:FnScope ["_law_script","_law_k"] ["_law_script","_law_k"] (am eC):=⟨rfl,rfl,rfl,by decide+kernel,rfl,by decide+kernel,by decide+kernel⟩
def vf:FS:=
 aB (cM (bc (ak rR (ah 1) (ao cV (aa (ah 0) (ai))))) (aY (ak aP (ah 0) (ah 1))) (skip))
 (aY (aA (.int 0)))
def kF:List D->Option D:=gE .s 2 vf
theorem up(B:Bt mg)(F:Df K mg "_law_cell" eC ["_law_script","_law_k"]):Cl P w K mg base 1 "_law_cell" ["_law_script","_law_k"] (dX K .s 2 kF):=by
 refine bo (k:=0) F sG (by decide) rfl λ_ cdv A outer s H hid E hr=>?_
 exact(aj (cy (bw tq iX (af 1) (bm bz gB B.b_len (aZ (af 0) bB) (hv:=by kernel_rfl)) (bO _)) (az (aW (aJ aD aI (af 0) (af 1) (λ_ _=>rfl)))) bh)
  (az (aW au)))
theorem sc_law_bag:FnScope ["_law_script","_law_at","_law_cell_here","_law_mix","_law_k"] ["_law_script","_law_at"] (am fA):=⟨rfl,rfl,rfl,by decide+kernel,rfl,by decide+kernel,by decide+kernel⟩
def xB:FS:=
 aB (aQ 2 (ak bj (ao tm (aa (ao (nF 2 kF) (aa (ah 0) (aa (ah 1) (ai)))) (ai))) (ak fm (ak fm (ak eZ (aA (.int 10)) (aA (.int 60))) (ak eZ (aA (.int 10)) (aA (.int 60)))) (ak eZ (aA (.int 10)) (aA (.int 60))))))
 (aB (cM (bc (ak Az (ah 2) (ak eZ (aA (.int 10)) (aA (.int 18))))) (aY (cg (aa (ah 2) (aa (aA (.int 0)) (ai))))) (skip))
 (aB (aQ 3 (ak bj (ak aS (ak aS (ah 2) (ak fm (aA (.int 7919)) (ah 1))) (aA (.int 17))) (aA (.int 2147483647))))
 (aB (dn (bL (cN (aa (ao kf (aa (ao cV (aa (ah 0) (ai))) (aa (aA (.int 9)) (ai)))) (ai)))) (gN 4) (aQ 3 (ak bj (ak aS (ak aS (ak eZ (ah 3) (aA (.int 5))) (ak bj (ak aP (ah 0) (ah 4)) (aA (.int 2147483629)))) (ak fm (aA (.int 31)) (ah 4))) (aA (.int 2147483647)))))
 (aY (cg (aa (ah 3) (aa (aA (.int 1)) (ai))))))))
def jW:List D->Option D:=gE .n 5 xB
theorem xQ(B:Bt mg)(F:Df K mg "_law_bag" fA ["_law_script","_law_at"])(kE:Cl P w K mg base 1 "_law_cell" ["_law_script","_law_k"] (dX K .s 2 kF)):Cl P w K mg base 2 "_law_bag" ["_law_script","_law_at"] (dX K .n 2 jW):=by
 refine bo (k:=1) F sc_law_bag (by decide) rfl λ_ cdv A outer s H hid E hr=>?_
 exact(aj (aO 2 sc_law_bag.nd (cJ (bm Aa EB B.b_abs (aZ (bI kE (hr.mono (by decide)) (ag (af 0) (ag (af 1) aw))) bB) (hv:=by kernel_rfl)) (lY (lY (lS au au) (lS au au)) (lS au au))))
  (aj (cy (bw yj iX (af 2) (lS au au) (bO _)) (az (aW (cZ (ag (af 2) (ag au aw))))) bh)
  (aj (aO 3 sc_law_bag.nd (cJ (bF (bF (af 2) (lY au (af 1))) au) au))
  (aj (eN PassesOwn.never rfl (DIp.e (cC B.b_range (ag (bm (pE rfl) wF B.b_min (aZ (bm bz gB B.b_len (aZ (af 0) bB) (hv:=by kernel_rfl)) (aZ au bB)) (hv:=by kernel_rfl)) aw))) (aC 4 sc_law_bag.nd) (az (aO 3 sc_law_bag.nd (cJ (bF (bF (lS (af 3) au) (cJ (aJ aD aI (af 0) (af 4) (λ_ _=>rfl)) au)) (lY au (af 4))) au))))
  (az (aW (cZ (ag (af 3) (ag au aw)))))))))
theorem sc_law_take:FnScope ["_law_bag_here","_law_many","_law_digit"] ["_law_bag_here","_law_many"] (am eD):=⟨rfl,rfl,rfl,by decide+kernel,rfl,by decide+kernel,by decide+kernel⟩
def va:FS:=
 aB (cM (bc (ak kj (ak aP (cU 0) (aA (.int 1))) (aA (.int 0)))) (aB (aQ 2 (ak bj (ak aP (cU 0) (aA (.int 0))) (ah 1)))
 (aB (cv (bX 0 (aA (.int 0))) (pu (ak kR (ak aP (cU 0) (aA (.int 0))) (ah 1))))
 (aY (ah 2)))) (skip))
 (aB (cv (bX 0 (aA (.int 0))) (pu (ak bj (ak aS (ak aS (ak eZ (ak aP (cU 0) (aA (.int 0))) (aA (.int 5))) (ak fm (aA (.int 48271)) (ak aP (cU 0) (aA (.int 1))))) (aA (.int 11))) (aA (.int 2147483647)))))
 (aB (cv (bX 0 (aA (.int 1))) (pu (ak aS (ak aP (cU 0) (aA (.int 1))) (aA (.int 1)))))
 (aY (ak bj (ak kR (ak bj (ak fm (ak aP (cU 0) (aA (.int 0))) (aA (.int 69621))) (aA (.int 2147483629))) (aA (.int 8))) (ah 1)))))
def aU:List D->List D->Option (D×List D):=uZ .s 3 va
theorem u3(B:Bt mg)(F:Df K mg "_law_take" eD ["_law_bag_here","_law_many"]):Cl P w K mg base 1 "_law_take" ["_law_bag_here","_law_many"] (si K .s 1 aU):=by
 refine rm (k:=0) F sc_law_take (by decide) rfl λ_ cdv A outer s H hid a E hr=>?_
 exact(aj (cy (bw (gx hr.units) jn (aJ aD aI (cY 0) au (λ_ _=>rfl)) au (bO _)) (aj (aO 2 sc_law_take.nd (cJ (aJ aD aI (cY 0) au (λ_ _=>rfl)) (af 1)))
  (aj (lO (DP.ef (vB (aJ aD aI (cY 0) au (λ_ _=>rfl)) (af 1))) (gc 0 au))
  (az (aW (af 2))))) bh)
  (aj (lO (DP.ef (cJ (bF (bF (lS (aJ aD aI (cY 0) au (λ_ _=>rfl)) au) (lY au (aJ aD aI (cY 0) au (λ_ _=>rfl)))) au) au)) (gc 0 au))
  (aj (lO (DP.ef (bF (aJ aD aI (cY 0) au (λ_ _=>rfl)) au)) (gc 0 au))
  (az (aW (cJ (vB (cJ (lY (aJ aD aI (cY 0) au (λ_ _=>rfl)) au) au) au) (af 1)))))))
theorem sc_law_order:FnScope ["_law_bag_here","_law_n","_law_left","_law_found"] ["_law_bag_here","_law_n"] (am dA):=⟨rfl,rfl,rfl,by decide+kernel,rfl,by decide+kernel,by decide+kernel⟩
def tw:FS:=
 aB (fX 2 (ET (ah 1)))
 (aB (fX 3 (cg (ai)))
 (aB (yc (bc (ak lu (cU 2) (cg (ai)))) (ca (aN 3 1 gG (da (aN 2 1 o7 (da (aN 0 1 aU (bL (aa (ao cV (aa (cU 2) (ai))) (ai)))) (bL (ai)))) (bL (ai))))) 16)
 (ya 3)))
def bi:List D->List D->Option (D×List D):=uZ .n 4 tw
theorem tH(B:Bt mg)(F:Df K mg "_law_order" dA ["_law_bag_here","_law_n"])(bG:Cl P w K mg base 1 "_law_take" ["_law_bag_here","_law_many"] (si K .s 1 aU)):Cl P w K mg base 2 "_law_order" ["_law_bag_here","_law_n"] (si K .n 1 bi):=by
 refine rm (k:=1) F sc_law_order (by decide) rfl λ_ cdv A outer s H hid a E hr=>?_
 exact(aj (gj 2 sc_law_order.nd (oT rfl B.b_list B.b_range (af 1)))
  (aj (gj 3 sc_law_order.nd (cZ aw))
  (aj (A5 16 PassesOwn.never (bw (jC hr.units) mU (cY 2) (cZ aw) (bO _)) (az (gJ (iQ 3 gk dH PySem.F.slot_list_append PySem.F.type_list_append (gR (iQ 2 Ey Ae PySem.F.slot_list_pop PySem.F.type_list_pop (gR (jj 0 bG (hr.mono (by decide)) (DA.gf (ag (bm bz gB B.b_len (aZ (cY 2) bB) (hv:=by kernel_rfl)) aw))) (DA.gf aw))) (DA.gf aw))))))
  (az (wu 3)))))
theorem sc_law_neighbours:FnScope ["_law_bag_here","_law_n","_law_c","_law_ways","_law_four","_law_pairs_of_rows","_law_left","_law_right_here","_law_rest_rings","_law_rest_crosses","_law_k","_law_d","_law_rings","_law_crosses"] ["_law_bag_here","_law_n"] (am bH):=⟨rfl,rfl,rfl,by decide+kernel,rfl,by decide+kernel,by decide+kernel⟩
def ic:FS:=
 aB (jc 2 (aN 0 1 aU (bL (aa (ak eT (ah 1) (aA (.int 1))) (ai)))))
 (aB (jc 3 (fb 1 (bL (cN (aa (aA (.int 4)) (ai)))) (gN 14) (fq) (aN 0 1 aU (bL (aa (aA (.int 2)) (ai))))))
 (aB (jc 4 (gq eB (da (yO (aN 0 1 bi (bL (aa (ah 1) (ai)))) jd (gF (aA (.int 4)))) (bL (ai)))))
 (aB (aQ 4 (ak gz (fu (ah 4) (gF (ak aP (ah 3) (aA (.int 0)))) jd) (fu (ah 4) jd (gF (ak aP (ah 3) (aA (.int 0)))))))
 (aB (aQ 5 (cg (aa (fu (ah 4) jd (gF (aA (.int 2)))) (aa (fu (ah 4) (gF (aA (.int 2))) jd) (ai)))))
 (aB (cM (bc (ak kj (ak aP (ah 3) (aA (.int 1))) (aA (.int 1)))) (aQ 5 (o0 (ah 5) (gF (oZ (aA (.int 1)))))) (skip))
 (aB (cv (gL 2 (eU (gN 6) (eU (gN 7) (jI)))) (pu (ah 5)))
 (aB (cM (bc (ak kj (ak aP (ah 3) (aA (.int 2))) (aA (.int 1)))) (aQ 6 (o0 (ah 6) (gF (oZ (aA (.int 1)))))) (skip))
 (aB (cM (bc (ak kj (ak aP (ah 3) (aA (.int 3))) (aA (.int 1)))) (aQ 7 (o0 (ah 7) (gF (oZ (aA (.int 1)))))) (skip))
 (aB (jc 8 (fb 1 (vb (aN 0 1 bi (bL (aa (ah 1) (ai))))) (gN 14) (bc (ak (ga true) (ah 14) (cw (aa (ak aP (ah 6) (aA (.int 0))) (aa (ak aP (ah 7) (aA (.int 0))) (ai)))))) (pu (ah 14))))
 (aB (zu 9 (fb 1 (vb (aN 0 1 bi (bL (aa (ah 1) (ai))))) (gN 14) (bc (ak (ga true) (ah 14) (cw (aa (ak aP (ah 6) (aA (.int 1))) (aa (ak aP (ah 7) (aA (.int 1))) (ai)))))) (pu (ah 14))))
 (aB (dn (bL (cN (aa (ak eT (ah 1) (aA (.int 2))) (ai)))) (gN 10) (aB (aQ 11 (ak bj (ak aS (ah 10) (aA (.int 1))) (ak eT (ah 1) (aA (.int 2)))))
 (cM (bc (ak kj (ak aP (cU 9) (ah 10)) (ak aP (ah 8) (ah 10)))) (cv (gT 2 (eU (bX 9 (ah 10)) (eU (bX 9 (ah 11)) (jI)))) (pu (cw (aa (ak aP (cU 9) (ah 11)) (aa (ak aP (cU 9) (ah 10)) (ai)))))) (skip))))
 (aB (aQ 12 (ak gz (ak gz (fu (ah 8) jd (gF (ah 2))) (cg (aa (ak aP (ah 6) (aA (.int 0))) (aa (ak aP (ah 7) (aA (.int 0))) (ai))))) (fu (ah 8) (gF (ah 2)) jd)))
 (aB (aQ 13 (ak gz (ak gz (fu (cU 9) jd (gF (ah 2))) (cg (aa (ak aP (ah 6) (aA (.int 1))) (aa (ak aP (ah 7) (aA (.int 1))) (ai))))) (fu (cU 9) (gF (ah 2)) jd)))
 (aY (cw (aa (cw (aa (ao gV (aa (ah 12) (ai))) (aa (ao gV (aa (ah 13) (ai))) (ai)))) (aa (ah 2) (ai))))))))))))))))))
def bT:List D->List D->Option (D×List D):=uZ .s 14 ic
theorem mG(B:Bt mg)(F:Df K mg "_law_neighbours" bH ["_law_bag_here","_law_n"])(bG:Cl P w K mg base 1 "_law_take" ["_law_bag_here","_law_many"] (si K .s 1 aU))(cz:Cl P w K mg base 2 "_law_order" ["_law_bag_here","_law_n"] (si K .n 1 bi)):Cl P w K mg base 3 "_law_neighbours" ["_law_bag_here","_law_n"] (si K .s 1 bT):=by
 refine rm (k:=2) F sc_law_neighbours (by decide) rfl λ_ cdv A outer s H hid a E hr=>?_
 exact(aj (nu 2 sc_law_neighbours.nd (jj 0 bG (hr.mono (by decide)) (DA.gf (ag (hJ (af 1) au) aw))))
  (aj (tp 3 (N':=["_law_bag_here","_law_n","_law_c","_law_ways","_law_four","_law_pairs_of_rows","_law_left","_law_right_here","_law_rest_rings","_law_rest_crosses","?_law_k","_law_d","_law_rings","_law_crosses","_law_k"]) rfl sc_law_neighbours.nd (fj (Nat.le_of_ble_eq_true rfl)) (DIp.e (cC B.b_range (ag au aw))) (λ_ _ _ _=>(aC 14 HV)) (λ_ _ _ _=>gI) (λ_ _ _ _=>(jj 0 bG (hr.mono (by decide)) (DA.gf (ag au aw)))))
  (aj (nu 4 sc_law_neighbours.nd (DE.toS (zJ gQ jJ B.b_sorted (gR (DE.toS (EZ (DE.toS (jj 0 cz (hr.mono (by decide)) (DA.gf (ag (af 1) aw)))) dG (cn au))) (DA.gf aw)) (hv:=by kernel_rfl))))
  (aj (aO 4 sc_law_neighbours.nd (DP.toS (kU (gU (af 4) (cn (aJ aD aI (af 3) au (λ_ _=>rfl))) dG) (gU (af 4) dG (cn (aJ aD aI (af 3) au (λ_ _=>rfl)))))))
  (aj (aO 5 sc_law_neighbours.nd (DP.toS (cZ (ag (DP.toS (gU (af 4) dG (cn au))) (ag (DP.toS (gU (af 4) (cn au) dG)) aw)))))
  (aj (cy (bw (gx hr.units) jn (aJ aD aI (af 3) au (λ_ _=>rfl)) au (bO _)) (az (aO 5 sc_law_neighbours.nd (DP.toS (uH (af 5) (cn (rA au)))))) bh)
  (aj (g7 (DP.ef (af 5)) (we (n:=2) rfl (bf (aC 6 sc_law_neighbours.nd) (bf (aC 7 sc_law_neighbours.nd) eX))))
  (aj (cy (bw (gx hr.units) jn (aJ aD aI (af 3) au (λ_ _=>rfl)) au (bO _)) (az (aO 6 sc_law_neighbours.nd (DP.toS (uH (af 6) (cn (rA au)))))) bh)
  (aj (cy (bw (gx hr.units) jn (aJ aD aI (af 3) au (λ_ _=>rfl)) au (bO _)) (az (aO 7 sc_law_neighbours.nd (DP.toS (uH (af 7) (cn (rA au)))))) bh)
  (aj (tp 8 (N':=["_law_bag_here","_law_n","_law_c","_law_ways","_law_four","_law_pairs_of_rows","_law_left","_law_right_here","_law_rest_rings","_law_rest_crosses","_law_k","_law_d","_law_rings","_law_crosses","_law_row"]) rfl sc_law_neighbours.nd (fj (Nat.le_of_ble_eq_true rfl)) (wn (DE.toS (jj 0 cz (hr.mono (by decide)) (DA.gf (ag (af 1) aw))))) (λ_ _ _ _=>(aC 14 FM)) (λ_ _ _ _=>(j0 (bw (mj hr.units) (jD true) (af 14) (cS (ag (aJ aD aI (af 6) au (λ_ _=>rfl)) (ag (aJ aD aI (af 7) au (λ_ _=>rfl)) aw))) (by with_unfolding_all rfl)))) (λ_ _ _ _=>(DP.ef (af 14))))
  (aj (z9 9 (N':=["_law_bag_here","_law_n","_law_c","_law_ways","_law_four","_law_pairs_of_rows","_law_left","_law_right_here","_law_rest_rings","_law_rest_crosses","_law_k","_law_d","_law_rings","_law_crosses","_law_row"]) rfl sc_law_neighbours.nd (fj (Nat.le_of_ble_eq_true rfl)) (wn (DE.toS (jj 0 cz (hr.mono (by decide)) (DA.gf (ag (af 1) aw))))) (λ_ _ _ _=>(aC 14 FM)) (λ_ _ _ _=>(j0 (bw (mj hr.units) (jD true) (af 14) (cS (ag (aJ aD aI (af 6) au (λ_ _=>rfl)) (ag (aJ aD aI (af 7) au (λ_ _=>rfl)) aw))) (by with_unfolding_all rfl)))) (λ_ _ _ _=>(DP.ef (af 14))))
  (aj (eN PassesOwn.never rfl (DIp.e (cC B.b_range (ag (hJ (af 1) au) aw))) (aC 10 sc_law_neighbours.nd) (aj (aO 11 sc_law_neighbours.nd (cJ (bF (af 10) au) (hJ (af 1) au)))
  (az (cy (bw (gx hr.units) jn (aJ aD aI (cY 9) (af 10) (λ_ _=>rfl)) (aJ aD aI (af 8) (af 10) (λ_ _=>rfl)) (bO _)) (az (lO (DP.ef (cS (ag (aJ aD aI (cY 9) (af 11) (λ_ _=>rfl)) (ag (aJ aD aI (cY 9) (af 10) (λ_ _=>rfl)) aw)))) (qi (n:=2) rfl (iq (gc 9 (af 10)) (iq (gc 9 (af 11)) qW))))) bh))))
  (aj (aO 12 sc_law_neighbours.nd (DP.toS (kU (kU (gU (af 8) dG (cn (af 2))) (cZ (ag (aJ aD aI (af 6) au (λ_ _=>rfl)) (ag (aJ aD aI (af 7) au (λ_ _=>rfl)) aw)))) (gU (af 8) (cn (af 2)) dG))))
  (aj (aO 13 sc_law_neighbours.nd (DP.toS (kU (kU (gU (cY 9) dG (cn (af 2))) (cZ (ag (aJ aD aI (af 6) au (λ_ _=>rfl)) (ag (aJ aD aI (af 7) au (λ_ _=>rfl)) aw)))) (gU (cY 9) (cn (af 2)) dG))))
  (az (aW (cS (ag (cS (ag (fD cR jr B.b_tuple (aZ (af 12) bB) (hv:=by kernel_rfl)) (ag (fD cR jr B.b_tuple (aZ (af 13) bB) (hv:=by kernel_rfl)) aw))) (ag (af 2) aw) oJ))))))))))))))))))
theorem sc_law_crowd:FnScope ["_law_bag_here","_law_n","_law_found","_law_turn_here","_law_stand"] ["_law_bag_here","_law_n"] (am di):=⟨rfl,rfl,rfl,by decide+kernel,rfl,by decide+kernel,by decide+kernel⟩
def je:FS:=
 aB (fX 2 (cg (ai)))
 (aB (dn (zS (da (aN 0 1 aU (bL (aa (aA (.int 9)) (ai)))) (bL (ai)))) (gN 3) (aB (jc 4 (gq gV (da (aN 0 1 bi (bL (aa (ah 1) (ai)))) (bL (ai)))))
 (cM (bc (ak (ga true) (ah 4) (cU 2))) (ca (aN 2 1 gG (bL (aa (ah 4) (ai))))) (skip))))
 (aY (ao eB (aa (cU 2) (ai)))))
def gK:List D->List D->Option (D×List D):=uZ .n 5 je
theorem tL(B:Bt mg)(F:Df K mg "_law_crowd" di ["_law_bag_here","_law_n"])(bG:Cl P w K mg base 1 "_law_take" ["_law_bag_here","_law_many"] (si K .s 1 aU))(cz:Cl P w K mg base 2 "_law_order" ["_law_bag_here","_law_n"] (si K .n 1 bi)):Cl P w K mg base 3 "_law_crowd" ["_law_bag_here","_law_n"] (si K .n 1 gK):=by
 refine rm (k:=2) F sc_law_crowd (by decide) rfl λ_ cdv A outer s H hid a E hr=>?_
 exact(aj (gj 2 sc_law_crowd.nd (cZ aw))
  (aj (eN PassesOwn.never rfl (xp B.b_range (gR (jj 0 bG (hr.mono (by decide)) (DA.gf (ag au aw))) (DA.gf aw))) (aC 3 sc_law_crowd.nd) (aj (nu 4 sc_law_crowd.nd (xH cR jr B.b_tuple (gR (DE.toS (jj 0 cz (hr.mono (by decide)) (DA.gf (ag (af 1) aw)))) (DA.gf aw)) (hv:=by kernel_rfl)))
  (az (cy (bw (mj hr.units) (jD true) (af 4) (cY 2) (by with_unfolding_all rfl)) (az (gJ (iQ 2 gk dH PySem.F.slot_list_append PySem.F.type_list_append (DA.gf (ag (af 4) aw))))) bh))))
  (az (aW (bm gQ jJ B.b_sorted (aZ (cY 2) bB) (hv:=by kernel_rfl))))))
theorem sc_law_swapped:FnScope ["_law_square","_law_c","_law_found","_law_rows"] ["_law_square","_law_c"] (am ck):=⟨rfl,rfl,rfl,by decide+kernel,rfl,by decide+kernel,by decide+kernel⟩
def gY:FS:=
 aB (fX 2 (cg (ai)))
 (aB (dn (bL (de (ah 0))) (gN 3) (ca (aN 2 1 gG (bL (aa (ak ka (ak ka (m6 (ah 3) jd (gF (ah 1))) (cw (aa (ak aP (ah 3) (ak aS (ah 1) (aA (.int 1)))) (aa (ak aP (ah 3) (ah 1)) (ai))))) (m6 (ah 3) (gF (ak aS (ah 1) (aA (.int 2)))) jd)) (ai))))))
 (aY (ao gV (aa (cU 2) (ai)))))
def dW:List D->Option D:=gE .s 4 gY
theorem oP(B:Bt mg)(F:Df K mg "_law_swapped" ck ["_law_square","_law_c"]):Cl P w K mg base 1 "_law_swapped" ["_law_square","_law_c"] (dX K .s 2 dW):=by
 refine bo (k:=0) F sc_law_swapped (by decide) rfl λ_ cdv A outer s H hid E hr=>?_
 exact(aj (gj 2 sc_law_swapped.nd (cZ aw))
  (aj (eN PassesOwn.never rfl (DIp.e (dL (af 0))) (aC 3 sc_law_swapped.nd) (az (gJ (iQ 2 gk dH PySem.F.slot_list_append PySem.F.type_list_append (DA.gf (ag (wL (wL (AL (af 3) dG (cn (af 1))) (cS (ag (aJ aD aI (af 3) (bF (af 1) au) (λ_ _=>rfl)) (ag (aJ aD aI (af 3) (af 1) (λ_ _=>rfl)) aw)))) (AL (af 3) (cn (bF (af 1) au)) dG)) aw))))))
  (az (aW (fD cR jr B.b_tuple (aZ (cY 2) bB) (hv:=by kernel_rfl))))))
theorem sc_law_turn:FnScope ["_law_square","_law_c","_law_n","_law_own","_law_others","_law_row","_law_k","_law_at"] ["_law_square","_law_c"] (am eF):=⟨rfl,rfl,rfl,by decide+kernel,rfl,by decide+kernel,by decide+kernel⟩
def kB:FS:=
 aB (aQ 2 (ao cV (aa (ak aP (ah 0) (aA (.int 0))) (ai))))
 (aB (aQ 3 (cg (aa (ak aP (ak aP (ah 0) (aA (.int 0))) (ah 1)) (aa (ak aP (ak aP (ah 0) (aA (.int 1))) (ah 1)) (ai)))))
 (aB (aQ 4 (cg (aa (ak aP (ak aP (ah 0) (aA (.int 0))) (ak aS (ah 1) (aA (.int 1)))) (aa (ak aP (ak aP (ah 0) (aA (.int 1))) (ak aS (ah 1) (aA (.int 1)))) (ai)))))
 (aB (dn (bL (de (ah 3))) (gN 5) (dn (bL (oA (aa (aA (.int 1)) (aa (ah 2) (ai))))) (gN 6) (aB (aQ 7 (ak bj (ak aS (ah 5) (ah 6)) (ah 2)))
 (aB (cM (bc (ak (ga false) (ah 7) (ah 3))) (uk) (skip))
 (cM (bc (ak (ga false) (ah 7) (ah 4))) (aY (ah 5)) (skip))))))
 (aY (aA .non)))))
def cD:List D->Option D:=gE .s 8 kB
theorem uP(B:Bt mg)(F:Df K mg "_law_turn" eF ["_law_square","_law_c"]):Cl P w K mg base 1 "_law_turn" ["_law_square","_law_c"] (dX K .s 2 cD):=by
 refine bo (k:=0) F sc_law_turn (by decide) rfl λ_ cdv A outer s H hid E hr=>?_
 exact(aj (aO 2 sc_law_turn.nd (bm bz gB B.b_len (aZ (aJ aD aI (af 0) au (λ_ _=>rfl)) bB) (hv:=by kernel_rfl)))
  (aj (aO 3 sc_law_turn.nd (DP.toS (cZ (ag (aJ aD aI (aJ aD aI (af 0) au (λ_ _=>rfl)) (af 1) (λ_ _=>rfl)) (ag (aJ aD aI (aJ aD aI (af 0) au (λ_ _=>rfl)) (af 1) (λ_ _=>rfl)) aw)))))
  (aj (aO 4 sc_law_turn.nd (DP.toS (cZ (ag (aJ aD aI (aJ aD aI (af 0) au (λ_ _=>rfl)) (bF (af 1) au) (λ_ _=>rfl)) (ag (aJ aD aI (aJ aD aI (af 0) au (λ_ _=>rfl)) (bF (af 1) au) (λ_ _=>rfl)) aw)))))
  (aj (eN PassesOwn.never rfl (DIp.e (dL (af 3))) (aC 5 sc_law_turn.nd) (az (eN PassesOwn.never rfl (DIp.e (ug B.b_range (ag au (ag (af 2) aw)))) (aC 6 sc_law_turn.nd) (aj (aO 7 sc_law_turn.nd (cJ (bF (af 5) (af 6)) (af 2)))
  (aj (cy (bw (jB hr.units) (jD false) (af 7) (af 3) (by with_unfolding_all rfl)) (az yi) bh)
  (az (cy (bw (jB hr.units) (jD false) (af 7) (af 4) (by with_unfolding_all rfl)) (az (aW (af 5))) bh)))))))
  (az (aW Al))))))
theorem o5:FnScope ["_law_square","_law_column","_law_row"] ["_law_square","_law_column","_law_row"] (am cH):=⟨rfl,rfl,rfl,by decide+kernel,rfl,by decide+kernel,by decide+kernel⟩
def iP:FS:=
 aY (rL (rC (bc (ak kj (ak aP (ak aP (ah 0) (aA (.int 0))) (ah 1)) (ah 2))) (bc (ak kj (ak aP (ak aP (ah 0) (aA (.int 1))) (ah 1)) (ah 2)))))
def dN:List D->Option D:=gE .s 3 iP
theorem qa(B:Bt mg)(F:Df K mg "_law_marked" cH ["_law_square","_law_column","_law_row"]):Cl P w K mg base 1 "_law_marked" ["_law_square","_law_column","_law_row"] (dX K .s 3 dN):=by
 refine bo (k:=0) F o5 (by decide) rfl λ_ cdv A outer s H hid E hr=>?_
 exact(az (aW (Gi (kz (gx hr.units) jn (aJ aD aI (aJ aD aI (af 0) au (λ_ _=>rfl)) (af 1) (λ_ _=>rfl)) (af 2) (bO _)) (uv (kz (gx hr.units) jn (aJ aD aI (aJ aD aI (af 0) au (λ_ _=>rfl)) (af 1) (λ_ _=>rfl)) (af 2) (bO _))))))
theorem sc_law_twice:FnScope ["_law_square","_law_other","_law_c","_law_stand","_law_a","_law_b","_law_n","_law_high","_law_first","_law_second","_law_side","_law_k","_law_column","_law_h","_law_here"] ["_law_square","_law_other","_law_c","_law_stand","_law_a","_law_b"] (am df):=⟨rfl,rfl,rfl,by decide+kernel,rfl,by decide+kernel,by decide+kernel⟩
def jF:FS:=
 aB (aQ 6 (ao cV (aa (ah 3) (ai))))
 (aB (aQ 7 (ak bj (ak eT (ak aP (ah 3) (ah 5)) (ak aP (ah 3) (ah 4))) (ah 6)))
 (aB (aQ 8 (ak bj (ak eT (ao (nF 2 cD) (aa (ah 0) (aa (ah 2) (ai)))) (ak aP (ah 3) (ah 4))) (ah 6)))
 (aB (aQ 9 (ak bj (ak eT (ao (nF 2 cD) (aa (ah 1) (aa (ah 2) (ai)))) (ak aP (ah 3) (ah 4))) (ah 6)))
 (aB (aQ 10 (ak aS (ah 2) (aA (.int 1))))
 (aB (cM (bc (ak kj (ah 5) (ak aS (ah 2) (aA (.int 1))))) (aB (vd 8 9 (aa (ah 9) (aa (ah 8) (ai))))
 (aQ 10 (ah 2))) (skip))
 (aB (cM (rC (bc (ak Az (ah 8) (ah 9))) (bc (ak Az (ah 9) (ah 7)))) (aY (aA (.bl false))) (skip))
 (aB (dn (bL (cN (aa (ak bj (ak eT (ah 5) (ah 4)) (ah 6)) (ai)))) (gN 11) (aB (aQ 12 (ak bj (ak aS (ah 4) (ah 11)) (ah 6)))
 (aB (cM (ft (bc (ak Hg (ah 11) (aA (.int 0)))) (bc (ak rR (ak bj (ak eT (ak aP (ah 3) (ah 12)) (ak aP (ah 3) (ah 4))) (ah 6)) (ah 7)))) (aY (aA (.bl false))) (skip))
 (dn (bL (cN (aa (ah 7) (ai)))) (gN 13) (aB (aQ 14 (ah 0))
 (aB (cM (ft (bc (ak kj (ah 12) (ah 10))) (bc (ub rR ye (ah 8) (ah 13) (ah 9)))) (aQ 14 (ah 1)) (skip))
 (cM (dI (ao (nF 3 dN) (aa (ah 14) (aa (ah 12) (aa (ak bj (ak aS (ak aP (ah 3) (ah 4)) (ah 13)) (ah 6)) (ai)))))) (aY (aA (.bl false))) (skip))))))))
 (aY (aA (.bl true))))))))))
def bM:List D->Option D:=gE .s 15 jF
theorem tU(B:Bt mg)(F:Df K mg "_law_twice" df ["_law_square","_law_other","_law_c","_law_stand","_law_a","_law_b"])(iV:Cl P w K mg base 1 "_law_turn" ["_law_square","_law_c"] (dX K .s 2 cD))(iL:Cl P w K mg base 1 "_law_marked" ["_law_square","_law_column","_law_row"] (dX K .s 3 dN)):Cl P w K mg base 2 "_law_twice" ["_law_square","_law_other","_law_c","_law_stand","_law_a","_law_b"] (dX K .s 6 bM):=by
 refine bo (k:=1) F sc_law_twice (by decide) rfl λ_ cdv A outer s H hid E hr=>?_
 exact(aj (aO 6 sc_law_twice.nd (bm bz gB B.b_len (aZ (af 3) bB) (hv:=by kernel_rfl)))
  (aj (aO 7 sc_law_twice.nd (cJ (hJ (aJ aD aI (af 3) (af 5) (λ_ _=>rfl)) (aJ aD aI (af 3) (af 4) (λ_ _=>rfl))) (af 6)))
  (aj (aO 8 sc_law_twice.nd (cJ (hJ (bI iV (hr.mono (by decide)) (ag (af 0) (ag (af 2) aw))) (aJ aD aI (af 3) (af 4) (λ_ _=>rfl))) (af 6)))
  (aj (aO 9 sc_law_twice.nd (cJ (hJ (bI iV (hr.mono (by decide)) (ag (af 1) (ag (af 2) aw))) (aJ aD aI (af 3) (af 4) (λ_ _=>rfl))) (af 6)))
  (aj (aO 10 sc_law_twice.nd (bF (af 2) au))
  (aj (cy (bw (gx hr.units) jn (af 5) (bF (af 2) au) (bO _)) (aj (yM 8 9 rfl sc_law_twice.nd (ag (af 9) (ag (af 8) aw)))
  (az (aO 10 sc_law_twice.nd (af 2)))) bh)
  (aj (cy (DW.dt (sM (bw yj iX (af 8) (af 9) (bO _)) (qE (bw yj iX (af 9) (af 7) (bO _))))) (az (aW iE)) bh)
  (aj (eN PassesOwn.never rfl (DIp.e (cC B.b_range (ag (cJ (hJ (af 5) (af 4)) (af 6)) aw))) (aC 11 sc_law_twice.nd) (aj (aO 12 sc_law_twice.nd (cJ (bF (af 4) (af 11)) (af 6)))
  (aj (cy (DW.dt (oD (bw G1 iX (af 11) au (bO _)) (kO (bw tq iX (cJ (hJ (aJ aD aI (af 3) (af 12) (λ_ _=>rfl)) (aJ aD aI (af 3) (af 4) (λ_ _=>rfl))) (af 6)) (af 7) (bO _))))) (az (aW iE)) bh)
  (az (eN PassesOwn.never rfl (DIp.e (cC B.b_range (ag (af 7) aw))) (aC 13 sc_law_twice.nd) (aj (aO 14 sc_law_twice.nd (af 0))
  (aj (cy (DW.dt (oD (bw (gx hr.units) jn (af 12) (af 10) (bO _)) (kO (Dg tq yg iX iX (af 8) (af 13) (af 9))))) (az (aO 14 sc_law_twice.nd (af 1))) bh)
  (az (cy (fZ (bI iL (hr.mono (by decide)) (ag (af 14) (ag (af 12) (ag (cJ (bF (aJ aD aI (af 3) (af 4) (λ_ _=>rfl)) (af 13)) (af 6)) aw))))) (az (aW iE)) bh)))))))))
  (az (aW iE))))))))))
theorem sc_law_due:FnScope ["_law_square","_law_c","_law_crowd_here","_law_other","_law_odd","_law_stand","_law_j","_law_a","_law_b","_law_heights"] ["_law_square","_law_c","_law_crowd_here"] (am fB):=⟨rfl,rfl,rfl,by decide+kernel,rfl,by decide+kernel,by decide+kernel⟩
def lW:FS:=
 aB (aQ 3 (ao (nF 2 dW) (aa (ah 0) (aa (ah 1) (ai)))))
 (aB (Dl 4)
 (aB (dn (bL (de (ah 2))) (gN 5) (dn (bL (cN (aa (ao cV (aa (ah 5) (ai))) (ai)))) (gN 6) (dn (bL (de (cg (aa (cw (aa (ak aS (ah 1) (aA (.int 1))) (aa (ah 6) (ai)))) (aa (cw (aa (ah 6) (aa (ak aS (ah 1) (aA (.int 1))) (ai)))) (ai)))))) (gT 2 (eU (gN 7) (eU (gN 8) (jI)))) (cM (ft (bc (ak lu (ah 6) (ak aS (ah 1) (aA (.int 1))))) (dI (ao (nF 6 bM) (aa (ah 0) (aa (ah 3) (aa (ah 1) (aa (ah 5) (aa (ah 7) (aa (ah 8) (ai)))))))))) (aB (fX 9 (ao mT (aa (ah 5) (ai))))
 (aB (cv (gT 2 (eU (bX 9 (ah 7)) (eU (bX 9 (ah 8)) (jI)))) (pu (cw (aa (ak aP (ah 5) (ah 8)) (aa (ak aP (ah 5) (ah 7)) (ai))))))
 (ph 4 (g9 (cU 9)) (rL (gH (bc (oa 4 (g9 (cU 9)) (aA (.bl false))))))))) (skip)))))
 ((λρ=>(aY (ao eB (aa (cx 1 (wl 4) (gN 10) (dI (C1 4 (ah 10))) (ah 10)) (ai)))) (Bv 4 ρ)))))
def h8:List D->Option D:=gE .n 10 lW
theorem wR(B:Bt mg)(F:Df K mg "_law_due" fB ["_law_square","_law_c","_law_crowd_here"])(g8:Cl P w K mg base 1 "_law_swapped" ["_law_square","_law_c"] (dX K .s 2 dW))(jA:Cl P w K mg base 2 "_law_twice" ["_law_square","_law_other","_law_c","_law_stand","_law_a","_law_b"] (dX K .s 6 bM)):Cl P w K mg base 3 "_law_due" ["_law_square","_law_c","_law_crowd_here"] (dX K .n 3 h8):=by
 refine bo (k:=2) F sc_law_due (by decide) rfl λ_ cdv A outer s H hid E hr=>?_
 exact(aj (aO 3 sc_law_due.nd (bI g8 (hr.mono (by decide)) (ag (af 0) (ag (af 1) aw))))
  (aj (zk 4 sc_law_due.nd)
  (aj (eN PassesOwn.never rfl (DIp.e (dL (af 2))) (aC 5 sc_law_due.nd) (az (eN PassesOwn.never rfl (DIp.e (cC B.b_range (ag (bm bz gB B.b_len (aZ (af 5) bB) (hv:=by kernel_rfl)) aw))) (aC 6 sc_law_due.nd) (az (eN PassesOwn.never rfl (DIp.e (dL (DP.toS (cZ (ag (cS (ag (bF (af 1) au) (ag (af 6) aw))) (ag (cS (ag (af 6) (ag (bF (af 1) au) aw))) aw oJ) oJ))))) (gd (n:=2) rfl (bf (aC 7 sc_law_due.nd) (bf (aC 8 sc_law_due.nd) eX))) (az (cy (DW.dt (oD (bw (jC hr.units) mU (af 6) (bF (af 1) au) (bO _)) (kO (fZ (bI jA (hr.mono (by decide)) (ag (af 0) (ag (af 3) (ag (af 1) (ag (af 5) (ag (af 7) (ag (af 8) aw))))))))))) (aj (gj 9 sc_law_due.nd (fD iU qo B.b_list (aZ (af 5) bB) (hv:=by kernel_rfl)))
  (aj (lO (DP.ef (cS (ag (aJ aD aI (af 5) (af 8) (λ_ _=>rfl)) (ag (aJ aD aI (af 5) (af 7) (λ_ _=>rfl)) aw)))) (qi (n:=2) rfl (iq (gc 9 (af 7)) (iq (gc 9 (af 8)) qW))))
  (az (zC 4 (pg hr) (rT (cY 9) B.b_tuple) (uR (Ab 4 (pg hr) (rT (cY 9) B.b_tuple) iE ⟨rfl,rfl,rfl,rfl⟩)))))) bh)))))))
  (az (Bn 4 (aW (bm gQ jJ B.b_sorted (aZ (kL (N':=["_law_square","_law_c","_law_crowd_here","_law_other","_law_odd","?_law_stand","_law_j","_law_a","_law_b","_law_heights","_law_stand"]) rfl (fj (Nat.le_of_ble_eq_true rfl)) (BA 4) (λ_ _ _ _=>(aC 10 Hq)) (λ_ _ _ _=>(j0 (fZ (B8 4 (pg hr) (af 10) (λ_ _=>rfl))))) (λ_ _ _ _=>(af 10))) bB) (hv:=by kernel_rfl))))))))
theorem sc_law_right:FnScope ["_law_square","_law_c","_law_crowd_here","_law_handed","_law_due_here","_law_found"] ["_law_square","_law_c","_law_crowd_here"] (am dm):=⟨rfl,rfl,rfl,by decide+kernel,rfl,by decide+kernel,by decide+kernel⟩
def jg:FS:=
 aB (aQ 3 (ao mT (aa (ah 2) (ai))))
 (aB (aQ 4 (ao (nF 3 h8) (aa (ah 0) (aa (ah 1) (aa (ah 2) (ai))))))
 (aB (fX 5 (ao (nF 3 nG) (aa (ah 0) (aa (ah 1) (aa (ah 3) (ai))))))
 (aB (cM (rC (gH (dI (xo "list" (cU 5)))) (rC (gH (dI (ao A3 (aa (cx 1 (nl (cU 5)) (gN 6) (fq) (xo "tuple" (ah 6))) (ai))))) (bc (ak lu (cU 5) (ah 4))))) (aY (aA (.bl false))) (skip))
 (aB (ca (aN 5 1 gG (bL (aa (aA .non) (ai)))))
 (aY (rL (ft (bc (ak kj (ah 3) (ah 2))) (bc (ak kj (ao (nF 3 nG) (aa (ah 0) (aa (ah 1) (aa (ah 3) (ai))))) (ah 4))))))))))
def eQ:List D->Option D:=gE .s 6 jg
theorem tT(B:Bt mg)(F:Df K mg "_law_right" dm ["_law_square","_law_c","_law_crowd_here"])(mz:Cl P w K mg base 3 "_law_due" ["_law_square","_law_c","_law_crowd_here"] (dX K .n 3 h8))(qQ:Cl P w K mg base 6 "tied" ["square","c","crowd"] (dX K .n 3 nG)):Cl P w K mg base 7 "_law_right" ["_law_square","_law_c","_law_crowd_here"] (dX K .s 3 eQ):=by
 refine bo (k:=6) F sc_law_right (by decide) rfl λ_ cdv A outer s H hid E hr=>?_
 exact(aj (aO 3 sc_law_right.nd (DP.toS (fD iU qo B.b_list (aZ (af 2) bB) (hv:=by kernel_rfl))))
  (aj (aO 4 sc_law_right.nd (DP.toS (bI mz (hr.mono (by decide)) (ag (af 0) (ag (af 1) (ag (af 2) aw))))))
  (aj (gj 5 sc_law_right.nd (bI qQ (hr.mono (by decide)) (ag (af 0) (ag (af 1) (ag (af 3) aw)))))
  (aj (cy (DW.dt (sM (n6 (fZ (AR "list" CN (cY 5) B.b_isinstance B.b_list))) (sM (n6 (fZ (bm (yE rfl) Ew B.b_all (aZ (kL (N':=["_law_square","_law_c","_law_crowd_here","_law_handed","_law_due_here","_law_found","_law_stand"]) rfl (fj (Nat.le_of_ble_eq_true rfl)) (zb (cY 5)) (λ_ _ _ _=>(aC 6 FC)) (λ_ _ _ _=>gI) (λ_ _ _ _=>(AR "tuple" yU (af 6) B.b_isinstance B.b_tuple))) bB) (hv:=by kernel_rfl)))) (qE (bw (jC hr.units) mU (cY 5) (af 4) (bO _)))))) (az (aW iE)) bh)
  (aj (gJ (iQ 5 gk dH PySem.F.slot_list_append PySem.F.type_list_append (DA.gf (ag Al aw))))
  (az (aW (AE (kz (gx hr.units) jn (af 3) (af 2) (bO _)) (uv (kz (gx hr.units) jn (bI qQ (hr.mono (by decide)) (ag (af 0) (ag (af 1) (ag (af 3) aw)))) (af 4) (bO _)))))))))))
theorem sc_law:FnScope ["_law_script","_law_at","_law_bag_here","_law_n","_law_square","_law_c"] ["_law_script"] (am j5):=⟨rfl,rfl,rfl,by decide+kernel,rfl,by decide+kernel,by decide+kernel⟩
def yI:FS:=
 aB (dn (bL (cN (aa (aA (.int 2)) (ai)))) (gN 1) (aB (fX 2 (ao (nF 2 jW) (aa (ah 0) (aa (ah 1) (ai)))))
 (aB (jc 3 (ue aP (pu (cg (aa (aA (.int 4)) (aa (aA (.int 4)) (aa (aA (.int 5)) (ai)))))) (aN 2 1 aU (bL (aa (aA (.int 3)) (ai))))))
 (aB (cv (gT 2 (eU (gN 4) (eU (gN 5) (jI)))) (aN 2 1 bT (bL (aa (ah 3) (ai)))))
 (Fn (zh (yP (gq (nF 3 eQ) (da (pu (ah 4)) (da (pu (ah 5)) (da (aN 2 1 gK (bL (aa (ah 3) (ai)))) (bL (ai)))))))) (aY (aA (.bl false))) (skip))))))
 (aY (aA (.bl true)))
def Ak:List D->Option D:=gE .s 6 yI
theorem Ez {f:Addr}{fd:FuncData}(B:Bt mg)(F:Fun K "law" "law" j5 f fd)(mH:Cl P w K mg base 2 "_law_bag" ["_law_script","_law_at"] (dX K .n 2 jW))(fy:Cl P w K mg base 3 "_law_neighbours" ["_law_bag_here","_law_n"] (si K .s 1 bT))(bG:Cl P w K mg base 1 "_law_take" ["_law_bag_here","_law_many"] (si K .s 1 aU))(jo:Cl P w K mg base 7 "_law_right" ["_law_square","_law_c","_law_crowd_here"] (dX K .s 3 eQ))(jx:Cl P w K mg base 3 "_law_crowd" ["_law_bag_here","_law_n"] (si K .n 1 gK)):FnOk P w K mg base rM 8 f fd ["_law_script"] (dX K .s 1 Ak):=by
 refine wI (k:=7) F sc_law (by decide) λcdv A outer s H hid E hr=>?_
 exact(aj (eN PassesOwn.never rfl (DIp.e (cC B.b_range (ag au aw))) (aC 1 sc_law.nd) (aj (gj 2 sc_law.nd (bI mH (hr.mono (by decide)) (ag (af 0) (ag (af 1) aw))))
  (aj (nu 3 sc_law.nd (FV aD aI (DE.toS (DP.ef (cZ (ag au (ag au (ag au aw)))))) (jj 2 bG (hr.mono (by decide)) (DA.gf (ag au aw))) (λ_ _=>rfl)))
  (aj (g7 (jj 2 fy (hr.mono (by decide)) (DA.gf (ag (af 3) aw))) (gd (n:=2) rfl (bf (aC 4 sc_law.nd) (bf (aC 5 sc_law.nd) eX))))
  (az (DH (Cn (Bs (E8 jo (hr.mono (by decide)) (gR (DP.ef (af 4)) (gR (DP.ef (af 5)) (gR (DE.toS (jj 2 jx (hr.mono (by decide)) (DA.gf (ag (af 3) aw)))) (DA.gf aw))))))) (az (aW iE)) bh))))))
  (az (aW iE)))
end
def fW:FS:=
 aY (ub rR rR (ao kf (aa (ah 1) (aa (ah 2) (ai)))) (ah 0) (ao r6 (aa (ah 1) (aa (ah 2) (ai)))))
def fY:List D->Option D:=gE .s 3 fW
def hX:FS:=
 aB (cv (gT 2 (eU (gN 2) (eU (gN 3) (jI)))) (pu (ah 0)))
 (aB (cM (gH (bc (ub ye ye (aA (.int 0)) (ah 1) (ak eT (ao cV (aa (ah 2) (ai))) (aA (.int 2)))))) (aY (aA (.bl false))) (skip))
 (aB (aQ 4 (cw (aa (ak aP (ah 2) (ah 1)) (aa (ak aP (ah 3) (ah 1)) (ai)))))
 (aB (aQ 5 (cw (aa (ak aP (ah 2) (ak aS (ah 1) (aA (.int 1)))) (aa (ak aP (ah 3) (ak aS (ah 1) (aA (.int 1)))) (ai)))))
 (aB (cM (rC (bc (ak (ga false) (ak aP (ah 4) (aA (.int 0))) (ah 5))) (bc (ak (ga false) (ak aP (ah 4) (aA (.int 1))) (ah 5)))) (aY (aA (.bl false))) (skip))
 (aB (aQ 6 (cx 1 (de (ah 5)) (gN 7) (dI (ao (nF 3 fY) (aa (ah 7) (aa (ak aP (ah 4) (aA (.int 0))) (aa (ak aP (ah 4) (aA (.int 1))) (ai)))))) (ah 7)))
 (aY (ak lu (ao cV (aa (ah 6) (ai))) (aA (.int 1)))))))))
def oV:List D->Option D:=gE .s 7 hX
theorem dz {p:FT}{t:FS}{ρ:aF}(h:p ρ=some false):cM p t skip ρ=.nx ρ:=(j7 h).trans rfl
theorem rj {F G:D->D->Option D}{f g h:FE}{ρ:aF}{x y z:D}{p q:Bool}(h1:f ρ=some x)(h2:g ρ=some y)(h3:F x y=some (.bl p))(h4:h ρ=some z)(h5:G y z=some (.bl q)):ub F G f g h ρ=some (.bl (p&&q)):=by
 unfold ub;rw[h1,Option.bind_some,h2,Option.bind_some,h3];show(if p=true then _ else _)=_
 cases p with
 |true=>rw[if_pos rfl,h4];exact h5
 |false=>rfl
theorem vi {p q:FT}{ρ:aF}{a b:Bool}(h1:p ρ=some a)(h2:q ρ=some b):rC p q ρ=some (a||b):=by
 cases a with
 |true=>exact Dm h1
 |false=>exact n8 h1 h2
theorem GJ {p:FT}{f g:FE}{ρ:aF}(h:p ρ=some true):C7 p f g ρ=f ρ:=by unfold C7;rw[h];rfl
theorem Gw {p:FT}{f g:FE}{ρ:aF}(h:p ρ=some false):C7 p f g ρ=g ρ:=by unfold C7;rw[h];rfl
theorem zY {f:FE}{ρ:aF}{ds:List D}(h:f ρ=some (.tup ds)):de f ρ=some ds:=by unfold de;rw[h];rfl
theorem fV {f:FE}{ρ:aF}{ds:List D}(h:f ρ=some (.lst ds)):de f ρ=some ds:=by unfold de;rw[h];rfl
theorem Gm(v a b:Nat):ga false (nI v) (.tup [nI a,nI b])=some (.bl (decide (v=a)||decide (v=b))):=by
 unfold ga km;dsimp only;rw[show dP [nI a,nI b]=0 from lL [a,b],if_pos (by omega)]
 show some (D.bl _)=_;congr 2
 rw[List.any_cons,List.any_cons,List.any_nil,ji,ji,Bool.or_false,Bool.eq_iff_iff];simp only[Bool.or_eq_true,decide_eq_true_eq,Bool.false_eq_true,if_false];omega
structure Gd(n:Nat)(r x:List Nat):Prop where
 R:Ord n r
 X:Ord n x
 lo:2<=n
 hi:n<=6
def C9(v a b:Nat):Bool:=decide (min a b<v)&&decide (v<max a b)
theorem Ca(v a b:Nat):fY [nI v,nI a,nI b]=some (.bl (C9 v a b)):=by
 apply bZ (kd:=.s) (n:=3) (t:=fW)
 unfold fW;refine bC (rj (x:=nI (min a b)) (y:=nI v) (z:=nI (max a b)) ?_ rfl ?_ ?_ ?_)
 ·refine(bU (ds:=[nI a,nI b]) rfl).trans ?_
  show some (D.int _)=some (D.int _);congr 2
  split<;>omega
 ·show some (D.bl (decide (((min a b:Nat):Int)<v)))=_
  congr 2
  rw[Bool.eq_iff_iff,decide_eq_true_eq,decide_eq_true_eq];omega
 ·refine(bU (ds:=[nI a,nI b]) rfl).trans ?_
  show some (D.int _)=some (D.int _);congr 2
  split<;>omega
 ·show some (D.bl (decide ((v:Int)<((max a b:Nat):Int))))=_
  congr 2
  rw[Bool.eq_iff_iff,decide_eq_true_eq,decide_eq_true_eq];omega
def EW(r x:List Nat)(c:Nat):Bool:= !((decide (r.getD c 0=r.getD (c+1) 0)||decide (r.getD c 0=x.getD (c+1) 0))||(decide (x.getD c 0=r.getD (c+1) 0)||decide (x.getD c 0=x.getD (c+1) 0)))&&(C9 (r.getD (c+1) 0) (r.getD c 0) (x.getD c 0)==C9 (x.getD (c+1) 0) (r.getD c 0) (x.getD c 0))
def zp(r x:List Nat)(c:Int):Bool:=(decide (0<=c)&&decide (c<=(r.length:Int) -2))&&EW r x c.toNat
theorem Co {g:FG}{b:FS}{d e:D}{r:List D}{ρ ρ1 ρ2:aF}(h1:g d ρ=some ρ1)(h2:b ρ1=.rt e ρ2):cF g b (d::r) ρ=.rt e ρ2:=by
 show(match g d ρ with
  |none=>Out.no
  |some ρ1=>match b ρ1 with
   | .nx ρ2=>cF g b r ρ2
   | .ct ρ2=>cF g b r ρ2
   | .bk ρ2=>.nx ρ2
   | .rt d ρ2=>.rt d ρ2
   | .no=>.no)=_
 rw[h1];dsimp only;rw[h2]
set_option maxHeartbeats 1000000
theorem Fa {kd:Kd}{n:Nat}{t:FS}{bs ds b':List D}{d:D}{ρ:aF}(h:t (nW n bs ds)=.rt d ρ)(h2:n9 ρ=some b'):uZ kd n t bs ds=some (d,b'):=by unfold uZ;rw[h];dsimp only;rw[h2];rfl
theorem sh {g:FG}{b:FS}{P:Nat->aF->Prop}: ∀(l:List D) (j:Nat),(∀d∈l,∀i ρ,i<j+l.length->P i ρ-> ∃ρ1 ρ2,g d ρ=some ρ1/\b ρ1=.nx ρ2/\P (i+1) ρ2)-> ∀ρ,P j ρ-> ∃ρ',cF g b l ρ=.nx ρ'/\P (j+l.length) ρ'
 | [],j,_,ρ,p=>⟨ρ,rfl,p⟩
 |d::l,j,h,ρ,p=>by
  obtain⟨ρ1,ρ2,h1,h2,p2⟩:=h d (List.mem_cons_self ..) j ρ (by rw[List.length_cons];omega) p
  obtain⟨ρ',e,p'⟩:=sh l (j+1) (λd' hd i ρ hi=>h d' (List.mem_cons_of_mem _ hd) i ρ (by rw[List.length_cons];omega)) ρ2 p2
  exact⟨ρ',(cb h1 h2).trans e,by rw[List.length_cons,Nat.add_comm l.length 1,<-Nat.add_assoc];exact p'⟩
set_option maxHeartbeats 4000000
set_option maxHeartbeats 1000000
theorem qX(a b:Nat):kj (nI a) (nI b)=some (.bl (decide (a=b))):=by rw[mK (by rw[gh];omega),ji]
theorem qK {g:FG}{b:FS}{P:Nat->aF->Prop}: ∀(k j:Nat),(∀i ρ,j<=i->i<j+k->P i ρ-> ∃ρ1 ρ2,g (nI i) ρ=some ρ1/\b ρ1=.nx ρ2/\P (i+1) ρ2)-> ∀ρ,P j ρ-> ∃ρ',cF g b ((List.range' j k).map nI) ρ=.nx ρ'/\P (j+k) ρ'
 |0,j,_,ρ,p=>⟨ρ,rfl,p⟩
 |k+1,j,h,ρ,p=>by
  obtain⟨ρ1,ρ2,h1,h2,p2⟩:=h j ρ (Nat.le_refl _) (by omega) p
  obtain⟨ρ',e,p'⟩:=qK k (j+1) (λi ρ a b=>h i ρ (by omega) (by omega)) ρ2 p2
  refine⟨ρ',?_,by rw[show j+(k+1)=j+1+k by omega];exact p'⟩
  rw[List.range'_succ,List.map_cons];exact(cb h1 h2).trans e
theorem ny: ∀ns:List Int,intKs.intK (iK ns)=some ns
 | []=>rfl
 |n::ns=>by
  show(intKs.intK (iK ns)).map (n:: ·)=_
  rw[ny ns];rfl
theorem EL {a b:List Int}(h:iK a=iK b):a=b:=by
 have:=congrArg intKs.intK h
 rw[ny,ny] at this;exact Option.some.inj this
theorem zP(kvs:rG)(k k':List bS)(d:D):fM (oS kvs k d) k'=if k'=k then some d else fM kvs k':=by
 unfold oS fM;split
 ·rename_i h
  induction kvs with
  |nil=>simp at h
  |cons p kvs ih=>
   rw[List.map_cons]
   by_cases e:p.1=k
   ·rw[if_pos e,List.find?_cons]
    by_cases e2:k'=k
    ·rw[if_pos e2,e2];simp[e]
    ·rw[if_neg e2,List.find?_cons]
     have e3:decide (p.1=k')=false:=decide_eq_false λw=>e2 (w.symm.trans e)
     simp only[e3]
     by_cases h':(kvs.any λkv=>decide (kv.1=k))=true
     ·have:=ih h';rw[if_neg e2] at this;exact this
     ·have:kvs.map (λkv=>if kv.1=k then(kv.1,d) else kv)=kvs:=by
       refine(List.map_congr_left λq hq=>?_).trans (List.map_id _)
       rw[if_neg];rfl;intro w;exact h' (List.any_eq_true.mpr ⟨q,hq,decide_eq_true w⟩)
      rw[this]
   ·have h':(kvs.any λkv=>decide (kv.1=k))=true:=by
     rw[List.any_cons,decide_eq_false e,Bool.false_or] at h;exact h
    rw[if_neg e,List.find?_cons,List.find?_cons]
    by_cases e2:p.1=k'
    ·rw[decide_eq_true e2,if_neg (λw=>e (e2.trans w))]
    ·rw[decide_eq_false e2];exact ih h'
 ·rename_i h
  have h: ∀q∈kvs,q.1≠k:=λq hq w=>h (List.any_eq_true.mpr ⟨q,hq,decide_eq_true w⟩)
  rw[List.find?_append]
  by_cases e:k'=k
  ·subst e
   rw[if_pos rfl,List.find?_eq_none.mpr (λq hq=>by simpa using h q hq)]
   simp
  ·rw[if_neg e]
   have:(List.find? (λkv:List bS×D=>decide (kv.1=k')) [(k,d)])=none:=by
    rw[List.find?_cons,decide_eq_false (λw=>e w.symm)];rfl
   rw[this,Option.or_none]
theorem Bk {kvs:rG}{k:List bS}(h:fM kvs k=none)(d:D):oS kvs k d=kvs++[(k,d)]:=by
 unfold oS;rw[if_neg];intro w;obtain⟨q,hq,e⟩:=List.any_eq_true.mp w
 unfold fM at h;rw[Option.map_eq_none_iff,List.find?_eq_none] at h;exact h q hq e
def jE(acc:List (List Int))(k:List Int):List (List Int):=if k∈acc then ly acc k else kb acc k
def u0(ks:List (List Int)):List (List Int):=ks.foldl jE []
theorem As(acc:List (List Int))(k z:List Int):z∈jE acc k↔(if z=k then¬z∈acc else z∈acc):=by
 unfold jE
 by_cases h:k∈acc
 ·rw[if_pos h]
  unfold ly;rw[List.mem_filter,decide_eq_true_eq]
  by_cases e:z=k
  ·rw[if_pos e];subst e;exact⟨λw=>absurd rfl w.2,λw=>absurd h w⟩
  ·rw[if_neg e];exact⟨λw=>w.1,λw=>⟨w,e⟩⟩
 ·rw[if_neg h]
  unfold kb;rw[if_neg h,List.mem_append,List.mem_singleton]
  by_cases e:z=k
  ·rw[if_pos e];subst e;exact⟨λ_=>h,λ_=>.inr rfl⟩
  ·rw[if_neg e];exact⟨λw=>w.elim id λq=>absurd q e,.inl⟩
theorem CJ {acc:List (List Int)}(nd:acc.Nodup)(k:List Int):(jE acc k).Nodup:=by
 unfold jE
 by_cases h:k∈acc
 ·rw[if_pos h];exact List.Nodup.sublist List.filter_sublist nd
 ·rw[if_neg h]
  unfold kb;rw[if_neg h,List.nodup_append];exact⟨nd,by simp,λx hx y hy e=>by rw[List.mem_singleton] at hy;subst hy e;exact h hx⟩
theorem sN(acc:List (List Int))(k:List Int):(jE acc k).length<=acc.length+1:=by
 unfold jE kb ly;split
 ·exact Nat.le_succ_of_le (List.length_filter_le _ _)
 ·simp
theorem vS: ∀(ks:List (List Int)) {acc:List (List Int)},acc.Nodup->(ks.foldl jE acc).Nodup
 | [],_,h=>h
 |k::ks,_,h=>vS ks (CJ h k)
theorem sJ: ∀(ks acc:List (List Int)),(ks.foldl jE acc).length<=acc.length+ks.length
 | [],acc=>by simp
 |k::ks,acc=>by
  rw[List.foldl_cons,List.length_cons];have:=sJ ks (jE acc k)
  have:=sN acc k
  omega
theorem rO(z:List Int): ∀(ks acc:List (List Int)),z∈ks.foldl jE acc↔(if z∈acc then(ks.count z) % 2=0 else(ks.count z) % 2=1)
 | [],acc=>by
   rw[List.foldl_nil,List.count_nil];split<;>simp_all
 |k::ks,acc=>by
  rw[List.foldl_cons,rO z ks (jE acc k),List.count_cons];have h:=As acc k z
  by_cases e:z=k
  ·rw[if_pos e] at h
   have ek:(k==z)=true:=by rw[e];exact beq_self_eq_true k
   rw[ek,if_pos rfl]
   by_cases c:z∈acc
   ·rw[if_pos c,if_neg (λw=>h.mp w c)];omega
   ·rw[if_neg c,if_pos (h.mpr c)];omega
  ·rw[if_neg e] at h
   have ek:(k==z)=false:=by rw[beq_eq_false_iff_ne];exact λw=>e w.symm
   rw[ek];simp only[Bool.false_eq_true,if_false,Nat.add_zero]
   by_cases c:z∈acc
   ·rw[if_pos c,if_pos (h.mpr c)]
   ·rw[if_neg c,if_neg (λw=>c (h.mp w))]
theorem vt(ks:List (List Int))(z:List Int):z∈u0 ks↔(ks.count z) % 2=1:=by
 have:=rO z ks []
 rw[if_neg (by simp)] at this
 exact this
theorem DQ(ks:List (List Int)):(u0 ks).Nodup:=vS ks List.nodup_nil
theorem vY(ks:List (List Int)):(u0 ks).length<=ks.length:=by
 have:=sJ ks []
 unfold u0;simpa using this
theorem EA {ks:List (List Int)}{z:List Int}(h:z∈u0 ks):z∈ks:=by
 have:=(vt ks z).mp h
 exact List.count_pos_iff.mp (by omega)
def lU(ks:List (List Int)):List (List Int):=bR cm (u0 ks)
theorem xk {ks l:List (List Int)}(nd:l.Nodup)(h: ∀z,z∈l↔(ks.count z) % 2=1):bR cm l=lU ks:=
 mB ((List.perm_ext_iff_of_nodup nd (DQ ks)).mpr λz=>(h z).trans (vt ks z).symm)
theorem tZ {g:FG}{i:Nat}{st:List (List Int)->Sl->aF}{fk:FE}(hg: ∀acc s d,g d (st acc s)=some (st acc (.v d)))(hk: ∀acc d,fk (st acc (.v d))=some d)(ht: ∀acc s,rS i (st acc s)=some acc)(hs: ∀acc acc' s,(st acc s).set i (.ob (.tset acc'))=st acc' s):
 ∀(ks acc:List (List Int)) (s:Sl),acc.length+ks.length<=1000-> ∃s',cF g (cM (wN i fk) (ca (oQ ly i fk)) (ca (oQ kb i fk))) (ks.map cW) (st acc s)=.nx (st (ks.foldl jE acc) s')
 | [],acc,s,_=>⟨s,rfl⟩
 |k::ks,acc,s,hl=>by
  rw[List.length_cons] at hl;obtain⟨s',h⟩:=tZ hg hk ht hs ks (jE acc k) (.v (cW k)) (by have:=sN acc k;omega)
  have kk:(fk (st acc (.v (cW k)))).bind rV=some k:=by rw[hk];exact im k
  have din:wN i fk (st acc (.v (cW k)))=some (decide (k∈acc)):=by
   unfold wN;rw[ht,Option.bind_some,kk];rfl
  have op: ∀f,ca (oQ f i fk) (st acc (.v (cW k)))=.nx (st (f acc k) (.v (cW k))):=λf=>by
   unfold ca oQ;rw[ht,Option.bind_some,kk,Option.bind_some,if_pos (by omega),hs]
  refine⟨s',?_⟩
  rw[List.map_cons];refine(cb (ρ1:=st acc (.v (cW k))) (hg _ _ _) (ρ2:=st (jE acc k) (.v (cW k))) ?_).trans h
  unfold jE
  by_cases c:k∈acc
  ·rw[if_pos c,du (din.trans (by rw[decide_eq_true c]))];exact op _
  ·rw[if_neg c,j7 (din.trans (by rw[decide_eq_false c]))];exact op _
theorem E2 {ks:List (List Int)}(hl:ks.length<64)(hk: ∀k∈ks,k≠[]):gE .n 3 (aB (yH 1)
 (aB (dn (bL (de (ah 0))) (gN 2) (cM (wN 1 (ah 2)) (ca (oQ ly 1 (ah 2))) (ca (oQ kb 1 (ah 2)))))
 (aY (vX 1)))) [.lst (ks.map cW)]=some (.lst ((lU ks).map cW)):=by
 obtain⟨s',h⟩:=tZ (g:=gN 2) (i:=1) (fk:=ah 2) (st:=λacc s=>[.v (.lst (ks.map cW)),.ob (.tset acc),s]) (λ_ _ _=>rfl) (λ_ _=>rfl) (λ_ _=>rfl) (λ_ _ _=>rfl) ks [] .no (by simp;omega)
 apply bZ
 refine(ay (ρ':=[.v (.lst (ks.map cW)),.ob (.tset []),.no]) rfl).trans ((ay ((cK (br (fV rfl))).trans h)).trans (bC ?_))
 unfold vX;show(some (ks.foldl jE [])).bind _=_;rw[Option.bind_some];have:=vY ks
 unfold u0 at this;rw[if_pos ⟨by omega,λk hk'=>hk k (EA hk')⟩]
 rfl
def xu(kvs:rG)(k:List Int):rG:=oS kvs (iK k) (.bl (match fM kvs (iK k) with|some (.bl b)=> !b|_=>true))
structure PInv(kvs:rG)(ks:List (List Int)):Prop where
 keys: ∃l:List (List Int),kvs.map (·.1)=l.map iK/\l.Nodup/\ ∀z,z∈l↔z∈ks
 val: ∀z,z∈ks->fM kvs (iK z)=some (.bl (decide ((ks.count z) % 2=1)))
 non: ∀z,z∉ks->fM kvs (iK z)=none
theorem pR(kvs:rG)(k:List bS)(d:D):(oS kvs k d).map (·.1)=if(fM kvs k).isSome then kvs.map (·.1) else kvs.map (·.1)++[k]:=by
 by_cases h:(fM kvs k).isSome=true
 ·rw[if_pos h]
  unfold oS;have:(kvs.any λkv=>decide (kv.1=k))=true:=by
   unfold fM at h;rw[Option.isSome_map,List.find?_isSome] at h;exact List.any_eq_true.mpr h
  rw[if_pos this,List.map_map];refine List.map_congr_left λq _=>?_
  show(if q.1=k then(q.1,d) else q).1=q.1
  split<;>rfl
 ·have h:fM kvs k=none:=by simpa using h
  rw[Bk h,h,List.map_append];rfl
theorem PInv.start:PInv [] []:=⟨⟨[],rfl,List.nodup_nil,λz=>Iff.rfl⟩,λz h=>absurd h List.not_mem_nil,λz _=>rfl⟩
theorem PInv.step {kvs:rG}{ks:List (List Int)}(I:PInv kvs ks)(k:List Int):PInv (xu kvs k) (ks++[k]):=by
 have hval: ∀z,fM (xu kvs k) (iK z)=if z=k then some (.bl (match fM kvs (iK k) with|some (.bl b)=> !b|_=>true)) else fM kvs (iK z):=λz=>by
  unfold xu;rw[zP]
  by_cases e:z=k
  ·rw[if_pos e,if_pos (by rw[e])]
  ·rw[if_neg e,if_neg λw=>e (EL w)]
 refine⟨?_,λz hz=>?_,λz hz=>?_⟩
 ·obtain⟨l,h1,h2,h3⟩:=I.keys
  by_cases c:k∈ks
  ·refine⟨l,?_,h2,λz=>?_⟩
   ·unfold xu
    rw[pR,I.val k c];exact h1
   ·rw[h3,List.mem_append,List.mem_singleton]
    exact⟨.inl,λw=>w.elim id λe=>e▸c⟩
  ·refine⟨l++[k],?_,?_,λz=>?_⟩
   ·unfold xu
    rw[pR,I.non k c,h1,List.map_append];rfl
   ·rw[List.nodup_append]
    exact⟨h2,by simp,λx hx y hy e=>by rw[List.mem_singleton] at hy;subst hy e;exact c ((h3 _).mp hx)⟩
   ·rw[List.mem_append,List.mem_append,h3]
 ·rw[hval,List.count_append]
  by_cases e:z=k
  ·subst e
   rw[if_pos rfl];have c1:List.count z [z]=1:=by simp
   rw[c1]
   by_cases c:z∈ks
   ·rw[I.val z c]
    congr 2
    show(!decide _)=decide _;rw[Bool.eq_iff_iff];simp only[Bool.not_eq_true',decide_eq_false_iff_not,decide_eq_true_eq];omega
   ·rw[I.non z c,List.count_eq_zero.mpr c]
    rfl
  ·have c0:List.count z [k]=0:=List.count_eq_zero.mpr (by simpa using e)
   rw[if_neg e,c0,Nat.add_zero];refine I.val z ?_
   rcases List.mem_append.mp hz with h|h
   ·exact h
   ·exact absurd (List.mem_singleton.mp h) e
 ·rw[hval,if_neg λw=>hz (by rw[w];simp)]
  exact I.non z λw=>hz (List.mem_append_left _ w)
theorem PInv.len {kvs:rG}{ks:List (List Int)}(I:PInv kvs ks):kvs.length<=ks.length:=by
 obtain⟨l,h1,h2,h3⟩:=I.keys
 have e:=congrArg List.length h1
 rw[List.length_map,List.length_map] at e;rw[e];exact List.Nodup.length_le_of_subset h2 λz hz=>(h3 z).mp hz
theorem PInv.srt {kvs:rG}{ks:List (List Int)}(I:PInv kvs ks): ∃l:List (List Int),intKs kvs=some l/\(∀z∈l,z∈ks)/\(∀z∈l,fM kvs (iK z)=some (.bl (decide ((ks.count z) % 2=1))))/\bR cm (l.filter λz=>decide ((ks.count z) % 2=1))=lU ks/\l.length=kvs.length:=by
 obtain⟨l,h1,h2,h3⟩:=I.keys
 have ik: ∀(kvs:rG) (l:List (List Int)),kvs.map (·.1)=l.map iK->intKs kvs=some l:=by
  intro kvs
  induction kvs with
  |nil=>intro l h;cases l with|nil=>rfl|cons _ _=>cases h
  |cons p kvs ih=>
   intro l h;cases l with
   |nil=>cases h
   |cons z l=>
    rw[List.map_cons,List.map_cons] at h;injection h with h1 h2
    obtain⟨a,d⟩:=p
    have h1:a=iK z:=h1
    subst h1;show(intKs.intK (iK z)).bind (λns=>(intKs kvs).map (ns:: ·))=_
    rw[ny,ih l h2];rfl
 refine⟨l,ik kvs l h1,λz hz=>(h3 z).mp hz,λz hz=>I.val z ((h3 z).mp hz),xk (List.Nodup.sublist List.filter_sublist h2) λz=>?_,?_⟩
 ·rw[List.mem_filter,decide_eq_true_eq,h3]
  exact⟨λw=>w.2,λw=>⟨List.count_pos_iff.mp (by omega),w⟩⟩
 ·have:=congrArg List.length h1
  rw[List.length_map,List.length_map] at this;exact this.symm
section
variable {n:Nat}{r x:List Nat}(h1:r.length=n)(h2:x.length=n)(h3:2<=n)(h4:n<=6)
include h1 h2 h3 h4
theorem Cz(c:Int):oV [fJ r x,.int c]=some (.bl (zp r x c)):=by
 apply jw (kd:=.s) (n:=7) (t:=hX)
 unfold hX zp;have s1:cv (gT 2 (eU (gN 2) (eU (gN 3) (jI)))) (pu (ah 0)) (ii 7 [fJ r x,.int c])=.nx [.v (fJ r x),.v (.int c),.v (ax r),.v (ax x),.no,.no,.no]:=fU (gb rfl) rfl
 rw[ay s1];have p1:gH (bc (ub ye ye (aA (.int 0)) (ah 1) (ak eT (ao cV (aa (ah 2) (ai))) (aA (.int 2))))) [.v (fJ r x),.v (.int c),.v (ax r),.v (ax x),.no,.no,.no]=some (!(decide (0<=c)&&decide (c<=(r.length:Int) -2))):=
  iN (bn (rj (x:=.int 0) (y:=.int c) (z:=.int ((r.length:Int) -2)) rfl rfl rfl ((ar (gw r _ _ rfl) (y:=.int 2) rfl).trans (jv _ _)) rfl))
 by_cases hc:0<=c/\c<=(r.length:Int) -2
 ·have e:(decide (0<=c)&&decide (c<=(r.length:Int) -2))=true:=by rw[Bool.and_eq_true,decide_eq_true_eq,decide_eq_true_eq];exact hc
  rw[e] at p1⊢;rw[Bool.true_and];rw[ay (dz p1)];obtain⟨c,rfl⟩: ∃m:Nat,c=m:=⟨c.toNat,by omega⟩
  rw[Int.toNat_natCast];have ad: ∀ρ:aF,ah 1 ρ=some (nI c)->ak aS (ah 1) (aA (.int 1)) ρ=some (nI (c+1)):=λρ h=>(ar h (y:=.int 1) rfl).trans (lM c)
  rw[ay (ρ':=[.v (fJ r x),.v (.int c),.v (ax r),.v (ax x),.v (.tup [nI (r.getD c 0),nI (x.getD c 0)]),.no,.no]) ((aV (cI (av ((ar (x:=ax r) (y:=nI c) rfl rfl).trans (cA (by omega))) (av ((ar (x:=ax x) (y:=nI c) rfl rfl).trans (cA (by omega))) rfl)) (by simp))).trans rfl)]
  rw[ay (ρ':=[.v (fJ r x),.v (.int c),.v (ax r),.v (ax x),.v (.tup [nI (r.getD c 0),nI (x.getD c 0)]),.v (.tup [nI (r.getD (c+1) 0),nI (x.getD (c+1) 0)]),.no]) ((aV (cI (av ((ar (x:=ax r) rfl (ad _ rfl)).trans (cA (by omega))) (av ((ar (x:=ax x) rfl (ad _ rfl)).trans (cA (by omega))) rfl)) (by simp))).trans rfl)]
  have p2:rC (bc (ak (ga false) (ak aP (ah 4) (aA (.int 0))) (ah 5))) (bc (ak (ga false) (ak aP (ah 4) (aA (.int 1))) (ah 5))) [.v (fJ r x),.v (.int c),.v (ax r),.v (ax x),.v (.tup [nI (r.getD c 0),nI (x.getD c 0)]),.v (.tup [nI (r.getD (c+1) 0),nI (x.getD (c+1) 0)]),.no]=some ((decide (r.getD c 0=r.getD (c+1) 0)||decide (r.getD c 0=x.getD (c+1) 0))||(decide (x.getD c 0=r.getD (c+1) 0)||decide (x.getD c 0=x.getD (c+1) 0))):=
   vi (bn ((ar (x:=nI (r.getD c 0)) (y:=.tup [nI (r.getD (c+1) 0),nI (x.getD (c+1) 0)]) rfl rfl).trans (Gm _ _ _))) (bn ((ar (x:=nI (x.getD c 0)) (y:=.tup [nI (r.getD (c+1) 0),nI (x.getD (c+1) 0)]) rfl rfl).trans (Gm _ _ _)))
  unfold EW;revert p2
  generalize ((decide (r.getD c 0=r.getD (c+1) 0)||decide (r.getD c 0=x.getD (c+1) 0))||(decide (x.getD c 0=r.getD (c+1) 0)||decide (x.getD c 0=x.getD (c+1) 0)))=pb
  intro p2;cases pb with
  |true=>
   exact⟨_,gW ((du p2).trans rfl)⟩
  |false=>
   rw[ay (dz p2)]
   generalize hA:r.getD (c+1) 0=A
   generalize hB:x.getD (c+1) 0=B
   generalize hU:r.getD c 0=U
   generalize hV:x.getD c 0=V
   have cp:cx 1 (de (ah 5)) (gN 7) (dI (ao (nF 3 fY) (aa (ah 7) (aa (ak aP (ah 4) (aA (.int 0))) (aa (ak aP (ah 4) (aA (.int 1))) (ai)))))) (ah 7) [.v (fJ r x),.v (.int c),.v (ax r),.v (ax x),.v (.tup [nI U,nI V]),.v (.tup [nI A,nI B]),.no]=some (.lst ((([A,B]:List Nat).filter λv=>C9 v U V).map nI)):=
    gt (ds:=([A,B]:List Nat).map nI) (zY rfl) (by simp) (gm (h:=nI) (o:=nI) (q:=λv=>C9 v U V) ([A,B]:List Nat) λv _=>⟨_,rfl,fT ((bQ (ds:=[nI v,nI U,nI V]) rfl rfl).trans (Ca v U V)),λ_=>rfl⟩)
   refine⟨_,(ay ((aV cp).trans rfl)).trans (bC ?_)⟩
   refine(ar (yF _ _ _ rfl) (y:=.int 1) rfl).trans ?_
   rw[kn (by rw[gh];omega),jQ]
   congr 2
   cases e1:C9 A U V<;>cases e2:C9 B U V<;>simp[List.filter,e1,e2]
 ·have e:(decide (0<=c)&&decide (c<=(r.length:Int) -2))=false:=by rw[Bool.eq_false_iff,Ne,Bool.and_eq_true,decide_eq_true_eq,decide_eq_true_eq];exact hc
  rw[e] at p1⊢;exact⟨_,gW ((du p1).trans rfl)⟩
end
abbrev i9:=List Nat×List Nat
def bd(S:i9):D:=fJ S.1 S.2
def lK(S:i9)(c y:Nat):Bool:=decide (y=S.1.getD c 0\/y=S.2.getD c 0)
def Ln(n:Nat)(S:i9):Prop:=S.1.length=n/\S.2.length=n
theorem wt {n:Nat}{S:i9}(h:Ln n S){c:Nat}(hc:c<n)(y:Nat):cE [bd S,nI c,nI y]=some (.bl (lK S c y)):=by
 apply bZ (kd:=.s) (n:=5) (t:=kr)
 unfold kr;refine(ay (ρ':=[.v (bd S),.v (nI c),.v (nI y),.v (ax S.1),.v (ax S.2)]) (fU (gb rfl) rfl)).trans (bC ((ar (x:=nI y) rfl (cI (ds:=[nI (S.1.getD c 0),nI (S.2.getD c 0)]) (av ((ar (x:=ax S.1) (y:=nI c) rfl rfl).trans (cA (by rw[h.1];exact hc))) (av ((ar (x:=ax S.2) (y:=nI c) rfl rfl).trans (cA (by rw[h.2];exact hc))) rfl)) (by simp))).trans (IT _ _ _)))
theorem yw(C R:List Nat)(f:Nat->Nat->Bool):(C.flatMap λc=>R.map λy=>f c y).any id=C.any λc=>R.any λy=>f c y:=by
 induction C with
 |nil=>rfl
 |cons c C ih=>rw[List.flatMap_cons,List.any_append,ih,List.any_cons,List.any_map];rfl
theorem y6 {α:Type}(C:List Nat)(R:List Nat)(f:Nat->Nat->α):(C.flatMap λc=>R.map λy=>f c y).length=C.length*R.length:=by
 induction C with
 |nil=>simp
 |cons c C ih=>rw[List.flatMap_cons,List.length_append,ih,List.length_map,List.length_cons,Nat.succ_mul];omega
theorem xU {n:Nat}{S:i9}(h:Ln n S){C R:List Nat}(hC: ∀c∈C,c<n)(hl:C.length*R.length<=1000):cO [bd S,.lst (C.map nI),.lst (R.map nI)]=some (.bl (!C.any λc=>R.any λy=>lK S c y)):=by
 apply bZ (kd:=.s) (n:=3) (t:=fS)
 unfold fS;refine bC (ko (iN (bn ?_)))
 have cp:o6 2 (de (ah 1)) (gN 3) (fq) (de (ah 2)) (gN 4) (fq) (ao (nF 3 cE) (aa (ah 0) (aa (ah 3) (aa (ah 4) (ai))))) (ii 3 [bd S,.lst (C.map nI),.lst (R.map nI)])=some (.lst ((C.flatMap λc=>R.map λy=>lK S c y).map D.bl)):=by
  refine vZ (ds:=C.map nI) (fV rfl) ?_ (by rw[List.length_map,y6];exact hl)
  refine(lG (h:=nI) (q:=λ_=>true) (o:=λc=>R.map λy=>D.bl (lK S c y)) C λc hc=>⟨_,rfl,rfl,λ_=>?_⟩).trans ?_
  ·refine zN (ds:=R.map nI) (fV rfl) ?_
   refine(lG (h:=nI) (q:=λ_=>true) (o:=λy=>[D.bl (lK S c y)]) R λy hy=>⟨_,rfl,rfl,λ_=>?_⟩).trans ?_
   ·exact wo ((bQ (ds:=[bd S,nI c,nI y]) rfl rfl).trans (wt h (hC c hc) y))
   ·rw[sj,List.filter_eq_self.mpr λ_ _=>rfl]
  ·rw[List.filter_eq_self.mpr (λ_ _=>rfl),List.map_flatMap]
   congr 2
   funext c;rw[List.map_map];rfl
 rw[bU (av cp rfl),vH,yw]
def iW(sides:List i9)(turns:List Nat)(col:Nat):Nat->List Nat->Bool
 |_,[]=>true
 |at_,y::R=> !lK (sides.getD at_ ([],[])) col y&&iW sides turns col (at_+if y∈turns then 1 else 0) R
def tF:FS:=aB (cM (dI (ao (nF 3 cE) (aa (ak aP (ah 3) (ah 5)) (aa (ah 0) (aa (ah 6) (ai)))))) (aY (aA (.bl false))) (skip))
 (cM (bc (ak (ga false) (ah 6) (ah 4))) (zm aS 5 (aA (.int 1))) (skip))
theorem pK {n:Nat}{sides:List i9}{turns:List Nat}{col:Nat}(hs: ∀S∈sides,Ln n S)(hc:col<n)(dr db:D): ∀(R:List Nat) (at_:Nat) (s6:Sl),at_+(R.filter λy=>decide (y∈turns)).length<sides.length->
 (iW sides turns col at_ R=true-> ∃s5 s6',cF (gN 6) tF (R.map nI) [.v (nI col),.v dr,.v db,.v (.lst (sides.map bd)),.v (.lst (turns.map nI)),.v (nI at_),s6]=.nx [.v (nI col),.v dr,.v db,.v (.lst (sides.map bd)),.v (.lst (turns.map nI)),s5,s6'])/\
 (iW sides turns col at_ R=false-> ∃ρ,cF (gN 6) tF (R.map nI) [.v (nI col),.v dr,.v db,.v (.lst (sides.map bd)),.v (.lst (turns.map nI)),.v (nI at_),s6]=.rt (.bl false) ρ)
 | [],at_,s6,_=>⟨λ_=>⟨_,_,rfl⟩,λh=>by cases h⟩
 |y::R,at_,s6,hl=>by
  let st:Nat->aF:=λm=>[.v (nI col),.v dr,.v db,.v (.lst (sides.map bd)),.v (.lst (turns.map nI)),.v (nI m),.v (nI y)]
  have la:at_<sides.length:=by omega
  have es:sides.getD at_ ([],[])=sides[at_]:=by simp[List.getD,la]
  have m1:dI (ao (nF 3 cE) (aa (ak aP (ah 3) (ah 5)) (aa (ah 0) (aa (ah 6) (ai))))) (st at_)=some (lK (sides.getD at_ ([],[])) col y):=by
   refine fT ((bQ (ds:=[bd (sides.getD at_ ([],[])),nI col,nI y]) (av ((ar (x:=.lst (sides.map bd)) (y:=nI at_) rfl rfl).trans (qO (by rw[List.getElem?_map,List.getElem?_eq_getElem la,es];rfl))) rfl) rfl).trans (wt (n:=n) ?_ hc y))
   rw[es];exact hs _ (List.getElem_mem la)
  have m2:bc (ak (ga false) (ah 6) (ah 4)) (st at_)=some (decide (y∈turns)):=bn ((ar (x:=nI y) (y:=.lst (turns.map nI)) rfl rfl).trans (FR _ _))
  have q2:cM (bc (ak (ga false) (ah 6) (ah 4))) (zm aS 5 (aA (.int 1))) (skip) (st at_)=.nx (st (at_+if y∈turns then 1 else 0)):=by
   by_cases e:y∈turns
   ·rw[decide_eq_true e] at m2
    rw[if_pos e,du m2];rfl
   ·rw[decide_eq_false e] at m2
    rw[if_neg e,j7 m2];rfl
  unfold iW;rw[List.map_cons];cases e:lK (sides.getD at_ ([],[])) col y with
  |true=>
   rw[e] at m1;refine⟨λh=>by simp at h,λ_=>⟨st at_,?_⟩⟩
   have:tF (st at_)=.rt (.bl false) (st at_):=gW ((du m1).trans rfl)
   exact Co (ρ1:=st at_) rfl this
  |false=>
   rw[e] at m1;rw[Bool.not_false,Bool.true_and];have hb:tF (st at_)=.nx (st (at_+if y∈turns then 1 else 0)):=(ay ((j7 m1).trans rfl)).trans q2
   rw[cb (ρ1:=st at_) rfl hb];refine pK hs hc dr db R _ (.v (nI y)) ?_
   rw[List.filter_cons] at hl
   by_cases e2:y∈turns
   ·rw[if_pos (decide_eq_true e2),List.length_cons] at hl
    rw[if_pos e2];omega
   ·rw[if_neg (by rw[decide_eq_false e2];decide)] at hl
    rw[if_neg e2];omega
def dY(sides:List i9)(turns:List Nat):D:=.tup [.lst (sides.map bd),.lst (turns.map nI)]
theorem BN {n:Nat}{sides:List i9}{turns:List Nat}{col:Nat}(hs: ∀S∈sides,Ln n S)(hc:col<n)(R:List Nat)(hl:(R.filter λy=>decide (y∈turns)).length<sides.length):fh [nI col,.lst (R.map nI),dY sides turns]=some (.bl (iW sides turns col 0 R)):=by
 refine jw (kd:=.s) (n:=7) (t:=iH) ?_
 have k:=pK (n:=n) (turns:=turns) hs hc (.lst (R.map nI)) (dY sides turns) R 0 .no (by omega)
 unfold iH;refine(λh=>?_ :(∃ρ,aB (dn (bL (de (ah 1))) (gN 6) tF) (aY (aA (.bl true))) [.v (nI col),.v (.lst (R.map nI)),.v (dY sides turns),.v (.lst (sides.map bd)),.v (.lst (turns.map nI)),.v (nI 0),.no]=.rt (.bl (iW sides turns col 0 R)) ρ)->_) ?_
 ·obtain⟨ρ,h⟩:=h
  exact⟨ρ,(ay (ρ':=[.v (nI col),.v (.lst (R.map nI)),.v (dY sides turns),.v (.lst (sides.map bd)),.v (.lst (turns.map nI)),.no,.no]) (fU (gb rfl) rfl)).trans ((ay (ρ':=[.v (nI col),.v (.lst (R.map nI)),.v (dY sides turns),.v (.lst (sides.map bd)),.v (.lst (turns.map nI)),.v (nI 0),.no]) rfl).trans h)⟩
 ·cases e:iW sides turns col 0 R with
  |true=>
   obtain⟨s5,s6,h⟩:=k.1 e
   exact⟨_,(ay ((cK (br (fV rfl))).trans h)).trans rfl⟩
  |false=>
   obtain⟨ρ,h⟩:=k.2 e
   exact⟨ρ,gW ((cK (br (fV rfl))).trans h)⟩
def dO(n:Nat)(S:i9)(o:List Nat)(a b col:Nat)(sides:List i9)(turns:List Nat):Bool:=
 decide ((dU n (o.getD a 0) (o.getD b 0)).filter (λy=>decide (y∈turns))=turns)&&(kP o a b&&((!((dU n a b).filter λc=>decide (c≠col)).any λc=>(dU n (o.getD a 0) (o.getD b 0)).any λy=>lK S c y)&&iW sides turns col 0 (dU n (o.getD a 0) (o.getD b 0))))
theorem Ep {n s e c:Nat}(h:0<n)(hc:c∈dU n s e):c<n:=by
 unfold dU at hc;obtain⟨i,_,rfl⟩:=List.mem_map.mp hc
 exact Nat.mod_lt _ h
theorem BM(l m:List Nat):eJ (.lst (l.map nI)) (.lst (m.map nI))=decide (l=m):=by
 have e:=wJ (l.map Int.ofNat) (m.map Int.ofNat)
 have inj:l.map Int.ofNat=m.map Int.ofNat↔l=m:=List.map_inj_right λx y h=>by injection h
 unfold cW at e;rw[List.map_map,List.map_map] at e;unfold eJ at e⊢;exact e.trans (decide_eq_decide.mpr inj)
theorem pT {n:Nat}{S:i9}{o:List Nat}{a b col:Nat}{sides:List i9}{turns:List Nat}(h:0<n)(hn:n<=8)(hS:Ln n S)(ho:o.length=n)(ha:a<n)(hb:b<n)(hc:col<n)(hs: ∀S∈sides,Ln n S)(ht:turns.length<sides.length):
 cs [bd S,ax o,nI a,nI b,nI col,dY sides turns]=some (.bl (dO n S o a b col sides turns)):=by
 refine jw (kd:=.s) (n:=10) (t:=lT) ?_
 let R:=dU n (o.getD a 0) (o.getD b 0)
 let C:=(dU n a b).filter λc=>decide (c≠col)
 let st:Sl->Sl->aF:=λs8 s9=>[.v (bd S),.v (ax o),.v (nI a),.v (nI b),.v (nI col),.v (dY sides turns),.v (.lst (sides.map bd)),.v (.lst (turns.map nI)),s8,s9]
 have lR:R.length<n:=rB h _ _
 have lC0:(dU n a b).length<n:=rB h _ _
 have lC:C.length<n:=Nat.lt_of_le_of_lt (List.length_filter_le _ _) lC0
 unfold lT;have q1:cv (gT 2 (eU (gN 6) (eU (gN 7) (jI)))) (pu (ah 5)) (ii 10 [bd S,ax o,nI a,nI b,nI col,dY sides turns])=.nx (st .no .no):=fU (gb rfl) rfl
 have q2:aQ 8 (ao (nF 3 gl) (aa (ah 1) (aa (ah 2) (aa (ah 3) (ai))))) (st .no .no)=.nx (st (.v (.lst (R.map nI))) .no):=(aV ((bQ (ds:=[ax o,nI a,nI b]) rfl rfl).trans (wK ho h (by omega) ha hb))).trans rfl
 have c1:cx 1 (de (ah 8)) (gN 10) (bc (ak (ga false) (ah 10) (ah 7))) (ah 10) (st (.v (.lst (R.map nI))) .no)=some (.lst ((R.filter λy=>decide (y∈turns)).map nI)):=
  gt (ds:=R.map nI) (fV rfl) (by rw[List.length_map];omega) (gm (h:=nI) (o:=nI) (q:=λy=>decide (y∈turns)) R λy _=>⟨_,rfl,bn ((ar (x:=nI y) (y:=.lst (turns.map nI)) rfl rfl).trans (FR _ _)),λ_=>rfl⟩)
 have t1:bc (ak lu (cx 1 (de (ah 8)) (gN 10) (bc (ak (ga false) (ah 10) (ah 7))) (ah 10)) (ah 7)) (st (.v (.lst (R.map nI))) .no)=some (!decide ((R.filter λy=>decide (y∈turns))=turns)):=by
  refine bn ((ar c1 (y:=.lst (turns.map nI)) rfl).trans ?_)
  rw[kn (s0 _),BM]
 have t2:gH (dI (ao (nF 3 jO) (aa (ah 1) (aa (ah 2) (aa (ah 3) (ai)))))) (st (.v (.lst (R.map nI))) .no)=some (!kP o a b):=iN (fT ((bQ (ds:=[ax o,nI a,nI b]) rfl rfl).trans (BH ho h (by omega) ha hb)))
 have q3:aQ 9 (cx 1 (de (ao (nF 3 dD) (aa (ah 1) (aa (ah 2) (aa (ah 3) (ai)))))) (gN 10) (bc (ak lu (ah 10) (ah 4))) (ah 10)) (st (.v (.lst (R.map nI))) .no)=.nx (st (.v (.lst (R.map nI))) (.v (.lst (C.map nI)))):=by
  refine(aV (gt (ds:=(dU n a b).map nI) (fV ((bQ (ds:=[ax o,nI a,nI b]) rfl rfl).trans (vD ho h (by omega) a b))) (by rw[List.length_map];omega) (gm (h:=nI) (o:=nI) (q:=λc=>decide (c≠col)) (dU n a b) λc _=>⟨_,rfl,bn ((ar (x:=nI c) (y:=nI col) rfl rfl).trans ?_),λ_=>rfl⟩))).trans rfl
  rw[kn (by rw[gh];omega),ji]
  congr 2
  rw[Bool.eq_iff_iff];simp
 unfold dO;rw[ay q1,ay q2];cases e1:decide ((dU n (o.getD a 0) (o.getD b 0)).filter (λy=>decide (y∈turns))=turns) with
 |false=>
  have t1:bc _ _=some (!decide ((dU n (o.getD a 0) (o.getD b 0)).filter (λy=>decide (y∈turns))=turns)):=t1
  rw[e1] at t1;exact⟨_,gW ((du (Dm t1)).trans rfl)⟩
 |true=>
  have t1:bc _ _=some (!decide ((dU n (o.getD a 0) (o.getD b 0)).filter (λy=>decide (y∈turns))=turns)):=t1
  rw[e1] at t1;have er:=of_decide_eq_true e1
  cases e2:kP o a b with
  |false=>
   rw[e2] at t2;exact⟨_,gW ((du (n8 t1 t2)).trans rfl)⟩
  |true=>
   rw[e2] at t2;rw[ay (dz (n8 t1 t2)),ay q3];have k1:=xU hS (C:=C) (R:=R) (λc hc'=>Ep h (List.mem_filter.mp hc').1) (Nat.le_trans (Nat.mul_le_mul (show C.length<=8 by omega) (show R.length<=8 by omega)) (by omega))
   have k2:=BN (n:=n) (turns:=turns) (col:=col) hs hc R (by show(List.filter _ (dU n (o.getD a 0) (o.getD b 0))).length<_;rw[er];exact ht)
   have k1':bc (ao (nF 3 cO) (aa (ah 0) (aa (ah 9) (aa (ah 8) (ai))))) (st (.v (.lst (R.map nI))) (.v (.lst (C.map nI))))=some (!C.any λc=>R.any λy=>lK S c y):=bn ((bQ (ds:=[bd S,.lst (C.map nI),.lst (R.map nI)]) rfl rfl).trans k1)
   have k2':bc (ao (nF 3 fh) (aa (ah 4) (aa (ah 8) (aa (ah 5) (ai))))) (st (.v (.lst (R.map nI))) (.v (.lst (C.map nI))))=some (iW sides turns col 0 R):=bn ((bQ (ds:=[nI col,.lst (R.map nI),dY sides turns]) rfl rfl).trans k2)
   refine⟨_,bC (ko ?_)⟩
   rw[Bool.true_and,Bool.true_and];exact nn k1' (λz=>by
    have z:(!((dU n a b).filter λc=>decide (c≠col)).any λc=>(dU n (o.getD a 0) (o.getD b 0)).any λy=>lK S c y)=true:=z
    rw[z,Bool.true_and];exact k2') (λz=>by
    have z:(!((dU n a b).filter λc=>decide (c≠col)).any λc=>(dU n (o.getD a 0) (o.getD b 0)).any λy=>lK S c y)=false:=z
    rw[z];rfl)
def jb(P Q:Nat->Bool)(o:List Nat)(i j:Nat):List (List Nat):=(if(decide (j≠i)&&P j)=true then [lJ o i j] else [])++(if(decide (j≠i)&&Q j)=true then [lJ o j i] else [])
def pA(n:Nat)(P Q:Nat->Bool)(o:List Nat)(i:Nat):List (List Nat):=(List.range n).flatMap (jb P Q o i)
theorem Be {n:Nat}{S:i9}{o:List Nat}{c:Nat}{rs ls:List i9}{rt lt:List Nat}(h:0<n)(hn:n<=8)(hS:Ln n S)(ho:o.length=n)(hc:c+1<n)(hrs: ∀S∈rs,Ln n S)(hls: ∀S∈ls,Ln n S)(hrt:rt.length<rs.length)(hlt:lt.length<ls.length):
 eR [bd S,nI c,ax o,dY rs rt,dY ls lt]=some (.lst ((pA n (λj=>dO n S o (c+1) j (c+1) rs rt) (λj=>dO n S o j (c+1) c ls lt) o (c+1)).map ax)):=by
 let P:Nat->Bool:=λj=>dO n S o (c+1) j (c+1) rs rt
 let Q:Nat->Bool:=λj=>dO n S o j (c+1) c ls lt
 let st:List D->Sl->aF:=λF s7=>[.v (bd S),.v (nI c),.v (ax o),.v (dY rs rt),.v (dY ls lt),.v (nI (c+1)),.own F,s7]
 have bl: ∀j,(jb P Q o (c+1) j).length<=2:=λj=>by
  unfold jb;split<;>split<;>simp
 have step: ∀(j:Nat) (F:List D),j<n->F.length<=100->aB (cM (ft (bc (ak lu (ah 7) (ah 5))) (dI (ao (nF 6 cs) (aa (ah 0) (aa (ah 2) (aa (ah 5) (aa (ah 7) (aa (ah 5) (aa (ah 3) (ai)))))))))) (ca (aN 6 1 gG (bL (aa (ao (nF 3 dS) (aa (ah 2) (aa (ah 5) (aa (ah 7) (ai))))) (ai))))) (skip))
  (cM (ft (bc (ak lu (ah 7) (ah 5))) (dI (ao (nF 6 cs) (aa (ah 0) (aa (ah 2) (aa (ah 7) (aa (ah 5) (aa (ah 1) (aa (ah 4) (ai)))))))))) (ca (aN 6 1 gG (bL (aa (ao (nF 3 dS) (aa (ah 2) (aa (ah 7) (aa (ah 5) (ai))))) (ai))))) (skip)) (st F (.v (nI j)))=.nx (st (F++(jb P Q o (c+1) j).map ax) (.v (nI j))):=by
  intro j F hj hF;have ne: ∀F,bc (ak lu (ah 7) (ah 5)) (st F (.v (nI j)))=some (decide (j≠c+1)):=λF=>by
   refine bn ((ar (x:=nI j) (y:=nI (c+1)) rfl rfl).trans ?_)
   rw[kn (by rw[gh];omega),ji]
   congr 2
   rw[Bool.eq_iff_iff];simp
  have p1: ∀F,dI (ao (nF 6 cs) (aa (ah 0) (aa (ah 2) (aa (ah 5) (aa (ah 7) (aa (ah 5) (aa (ah 3) (ai)))))))) (st F (.v (nI j)))=some (P j):=λF=>fT ((bQ (ds:=[bd S,ax o,nI (c+1),nI j,nI (c+1),dY rs rt]) rfl rfl).trans (pT h hn hS ho hc hj hc hrs hrt))
  have p2: ∀F,dI (ao (nF 6 cs) (aa (ah 0) (aa (ah 2) (aa (ah 7) (aa (ah 5) (aa (ah 1) (aa (ah 4) (ai)))))))) (st F (.v (nI j)))=some (Q j):=λF=>fT ((bQ (ds:=[bd S,ax o,nI j,nI (c+1),nI c,dY ls lt]) rfl rfl).trans (pT h hn hS ho hj hc (by omega) hls hlt))
  have b1: ∀F:List D,F.length<=200->ca (aN 6 1 gG (bL (aa (ao (nF 3 dS) (aa (ah 2) (aa (ah 5) (aa (ah 7) (ai))))) (ai)))) (st F (.v (nI j)))=.nx (st (F++[ax (lJ o (c+1) j)]) (.v (nI j))):=λF hF=>(oG (i:=6) (b0:=F) (bs:=F) (d:=ax (lJ o (c+1) j)) rfl (br (av ((bQ (ds:=[ax o,nI (c+1),nI j]) rfl rfl).trans (pP ho hc hj)) rfl)) rfl (by omega)).trans rfl
  have b2: ∀F:List D,F.length<=200->ca (aN 6 1 gG (bL (aa (ao (nF 3 dS) (aa (ah 2) (aa (ah 7) (aa (ah 5) (ai))))) (ai)))) (st F (.v (nI j)))=.nx (st (F++[ax (lJ o j (c+1))]) (.v (nI j))):=λF hF=>(oG (i:=6) (b0:=F) (bs:=F) (d:=ax (lJ o j (c+1))) rfl (br (av ((bQ (ds:=[ax o,nI j,nI (c+1)]) rfl rfl).trans (pP ho hj hc)) rfl)) rfl (by omega)).trans rfl
  have an: ∀(F:List D) (f:FT) (v:Bool),f (st F (.v (nI j)))=some v->ft (bc (ak lu (ah 7) (ah 5))) f (st F (.v (nI j)))=some (decide (j≠c+1)&&v):=λF f v hv=>nn (ne F) (λz=>by rw[z,Bool.true_and];exact hv) (λz=>by rw[z];rfl)
  unfold jb;rw[List.map_append,<-List.append_assoc];cases e1:(decide (j≠c+1)&&P j) with
  |true=>
   have a1:=an F _ _ (p1 F)
   rw[e1] at a1;rw[if_pos rfl,ay ((du a1).trans (b1 F (by omega)))]
   have a2:=an (F++[ax (lJ o (c+1) j)]) _ _ (p2 _)
   cases e2:(decide (j≠c+1)&&Q j) with
   |true=>rw[e2] at a2;rw[if_pos rfl,du a2];exact b2 _ (by simp;omega)
   |false=>rw[e2] at a2;rw[if_neg (by decide),dz a2,List.map_nil,List.append_nil];try rfl
  |false=>
   have a1:=an F _ _ (p1 F)
   rw[e1] at a1;rw[if_neg (by decide),ay (dz a1),List.map_nil,List.append_nil]
   have a2:=an F _ _ (p2 _)
   cases e2:(decide (j≠c+1)&&Q j) with
   |true=>rw[e2] at a2;rw[if_pos rfl,du a2];exact b2 _ (by omega)
   |false=>rw[e2] at a2;rw[if_neg (by decide),dz a2,List.map_nil,List.append_nil];try rfl
 have fl: ∀k,((List.range k).flatMap (jb P Q o (c+1))).length<=2*k:=λk=>by
  induction k with
  |zero=>simp
  |succ k ih=>
   rw[List.range_succ,List.flatMap_append,List.length_append,List.flatMap_singleton];have:=bl k
   omega
 obtain⟨ρ',hf,s7,rfl⟩:=qK (g:=gN 7) (b:=aB (cM (ft (bc (ak lu (ah 7) (ah 5))) (dI (ao (nF 6 cs) (aa (ah 0) (aa (ah 2) (aa (ah 5) (aa (ah 7) (aa (ah 5) (aa (ah 3) (ai)))))))))) (ca (aN 6 1 gG (bL (aa (ao (nF 3 dS) (aa (ah 2) (aa (ah 5) (aa (ah 7) (ai))))) (ai))))) (skip))
  (cM (ft (bc (ak lu (ah 7) (ah 5))) (dI (ao (nF 6 cs) (aa (ah 0) (aa (ah 2) (aa (ah 7) (aa (ah 5) (aa (ah 1) (aa (ah 4) (ai)))))))))) (ca (aN 6 1 gG (bL (aa (ao (nF 3 dS) (aa (ah 2) (aa (ah 7) (aa (ah 5) (ai))))) (ai))))) (skip)))
  (P:=λj ρ=> ∃s7,ρ=st (((List.range j).flatMap (jb P Q o (c+1))).map ax) s7) n 0 (λj ρ _ hj hq_=>by
    obtain⟨s7,e⟩:=hq_
    subst e;rw[Nat.zero_add] at hj;refine⟨_,_,rfl,step j _ hj (by rw[List.length_map];have:=fl j;omega),.v (nI j),?_⟩
    rw[List.range_succ,List.flatMap_append,List.flatMap_singleton,List.map_append]) (st [] .no) ⟨.no,rfl⟩
 rw[Nat.zero_add] at hf;apply bZ (kd:=.n) (n:=8) (t:=jy)
 unfold jy;refine(ay (ρ':=[.v (bd S),.v (nI c),.v (ax o),.v (dY rs rt),.v (dY ls lt),.v (nI (c+1)),.no,.no]) ((aV ((ar (x:=nI c) (y:=.int 1) rfl rfl).trans (lM c))).trans rfl)).trans ?_
 refine(ay (ρ':=st [] .no) ((iJ (dM (ds:=[]) rfl (by simp))).trans rfl)).trans ?_
 refine(ay ((cK (ds:=(List.range n).map nI) (br (fP (n:=n) (av ((gw o _ _ rfl).trans (by rw[ho])) rfl) (by omega)))).trans (by rw[List.range_eq_range'];exact hf))).trans rfl
theorem vI {n s e h:Nat}(hh:h<(((e:Int) -s) % n).toNat):(dU n s e).getD h 0=(s+h) % n:=by
 unfold dU;rw[List.getD,List.getElem?_map,List.getElem?_range hh];rfl
theorem uK(n s e:Nat):(dU n s e).length=(((e:Int) -s) % n).toNat:=by unfold dU;simp
theorem p4(sides:List i9)(turns:List Nat)(col:Nat): ∀(R:List Nat) (at_:Nat),iW sides turns col at_ R=(List.range R.length).all λh=> !lK (sides.getD (at_+((R.take h).filter λy=>decide (y∈turns)).length) ([],[])) col (R.getD h 0)
 | [],at_=>rfl
 |y::R,at_=>by
  unfold iW;rw[p4 sides turns col R,List.length_cons,List.range_succ_eq_map,List.all_cons,List.all_map];congr 1
  congr 1
  funext h;show _= !lK (sides.getD (at_+(((y::R).take (h+1)).filter λy=>decide (y∈turns)).length) ([],[])) col ((y::R).getD (h+1) 0)
  rw[List.take_succ_cons,List.filter_cons]
  by_cases e:y∈turns
  ·rw[if_pos e,if_pos (decide_eq_true e),List.length_cons]
   rw[show at_+1+((R.take h).filter λy=>decide (y∈turns)).length=at_+(((R.take h).filter λy=>decide (y∈turns)).length+1) by omega]
   rfl
  ·rw[if_neg e,if_neg (by rw[decide_eq_false e];decide),Nat.add_zero];rfl
theorem ym {n a b k:Nat}(ha:a<n)(hk:k<(((b:Int) -a) % n).toNat):0<k↔(a+k) % n≠a:=by
 have m:=Ba ((b:Int) -a) (show 0<n by omega)
 have hkn:k<n:=by omega
 by_cases hk0:k=0
 ·subst hk0;rw[Nat.add_zero,Nat.mod_eq_of_lt ha];simp
 ·refine⟨λ_=>?_,λ_=>by omega⟩
  by_cases hl:a+k<n
  ·rw[Nat.mod_eq_of_lt hl];omega
  ·rw[Nat.mod_eq_sub_mod (by omega),Nat.mod_eq_of_lt (by omega)];omega
theorem AB {n:Nat}{o:List Nat}(O:Ord n o){a b:Nat}(ha:a<n)(hb:b<n)(ne:a≠b):kP o a b=true↔ ∀k,k<(((b:Int) -a) % n).toNat-> ¬(0<k/\rH n (o.getD a 0) (o.getD b 0) (o.getD ((a+k) % n) 0)=true):=by
 have h:0<n:=by omega
 rw[zA O ha hb ne];constructor
 ·intro H k hk ⟨h1,h2⟩
  have hin:(a+k) % n∈dU n a b:=by unfold dU;exact List.mem_map.mpr ⟨k,by simpa using hk,rfl⟩
  obtain⟨hc,hi⟩:=(jN h ha b _).mp hin
  have hne:=(ym ha hk).mp h1
  exact H _ hc ⟨hi,hne,h2,λz=>hne (O.inj hc ha z)⟩
 ·intro H c hc ⟨h1,h2,h3,_⟩
  have:c∈dU n a b:=(jN h ha b c).mpr ⟨hc,h1⟩
  unfold dU at this;obtain⟨k,hk,rfl⟩:=List.mem_map.mp this
  have hk:k<(((b:Int) -a) % n).toNat:=by simpa using hk
  exact H k hk ⟨(ym ha hk).mpr h2,h3⟩
def uN(n:Nat)(o:List Nat)(a b:Nat)(side:Nat->Nat->i9)(k:Nat):Bool:= !(decide (0<k)&&rH n (o.getD a 0) (o.getD b 0) (o.getD ((a+k) % n) 0))&&(List.range (((o.getD b 0:Int) -o.getD a 0) % n).toNat).all λh=> !lK (side ((a+k) % n) h) ((a+k) % n) ((o.getD a 0+h) % n)
def jS(n:Nat)(o:List Nat)(a b:Nat)(side:Nat->Nat->i9):Bool:=(List.range (((b:Int) -a) % n).toNat).all (uN n o a b side)
theorem um {n:Nat}{S:i9}{o:List Nat}(O:Ord n o){a b col:Nat}(ha:a<n)(hb:b<n)(ne:a≠b){sides:List i9}{turns:List Nat}{side:Nat->Nat->i9}(hcol:col∈dU n a b)(hS: ∀c h,c≠col->side c h=S)
 (hB: ∀h,h<(((o.getD b 0:Int) -o.getD a 0) % n).toNat->side col h=sides.getD (((dU n (o.getD a 0) (o.getD b 0)).take h).filter λy=>decide (y∈turns)).length ([],[])):
 (kP o a b&&((!((dU n a b).filter λc=>decide (c≠col)).any λc=>(dU n (o.getD a 0) (o.getD b 0)).any λy=>lK S c y)&&iW sides turns col 0 (dU n (o.getD a 0) (o.getD b 0))))=jS n o a b side:=by
 have h:0<n:=by omega
 rw[Bool.eq_iff_iff,Bool.and_eq_true,Bool.and_eq_true,AB O ha hb ne,p4];unfold jS uN;simp only[List.all_eq_true,List.mem_range,Bool.and_eq_true,Bool.not_eq_true',List.any_eq_false,List.mem_filter,decide_eq_true_eq,uK,Nat.zero_add,Bool.and_eq_false_iff,decide_eq_false_iff_not];have mC: ∀c,c∈dU n a b↔ ∃k,k<(((b:Int) -a) % n).toNat/\(a+k) % n=c:=λc=>by
  unfold dU;rw[List.mem_map];exact⟨λ⟨k,hk,e⟩=>⟨k,by simpa using hk,e⟩,λ⟨k,hk,e⟩=>⟨k,by simpa using hk,e⟩⟩
 have mR: ∀y,y∈dU n (o.getD a 0) (o.getD b 0)↔ ∃k,k<(((o.getD b 0:Int) -o.getD a 0) % n).toNat/\(o.getD a 0+k) % n=y:=λc=>by
  unfold dU;rw[List.mem_map];exact⟨λ⟨k,hk,e⟩=>⟨k,by simpa using hk,e⟩,λ⟨k,hk,e⟩=>⟨k,by simpa using hk,e⟩⟩
 constructor
 ·rintro⟨h1,h2,h3⟩ k hk
  refine⟨?_,λi hi=>?_⟩
  ·by_cases c:0<k
   ·right
    cases e:rH n (o.getD a 0) (o.getD b 0) (o.getD ((a+k) % n) 0) with
    |false=>rfl
    |true=>exact absurd ⟨c,e⟩ (h1 k hk)
   ·exact .inl c
  ·by_cases c:(a+k) % n=col
   ·rw[c,hB i hi,<-vI hi]
    exact h3 i hi
   ·rw[hS _ _ c]
    have:=h2 ((a+k) % n) ⟨(mC _).mpr ⟨k,hk,rfl⟩,c⟩
    simp only[Bool.not_eq_true] at this;exact(List.any_eq_false.mp this _ ((mR _).mpr ⟨i,hi,rfl⟩)|>λw=>by simpa using w)
 ·intro H
  refine⟨λk hk ⟨w1,w2⟩=>?_,λc ⟨hc,hne⟩=>?_,λi hi=>?_⟩
  ·rcases(H k hk).1 with z|z
   ·exact z w1
   ·rw[z] at w2;cases w2
  ·obtain⟨k,hk,rfl⟩:=(mC c).mp hc
   simp only[Bool.not_eq_true];refine List.any_eq_false.mpr λy hy=>?_
   obtain⟨i,hi,rfl⟩:=(mR y).mp hy
   have:=(H k hk).2 i hi
   rw[hS _ _ hne] at this;rw[this];decide
  ·obtain⟨k,hk,e⟩:=(mC col).mp hcol
   have:=(H k hk).2 i hi
   rw[e,hB i hi,<-vI hi] at this;exact this
def j4(p a b:Nat):Bool:=decide (min a b<p)&&decide (p<max a b)
structure NI(n a b p q:Nat):Prop where
 ha:a<n
 hb:b<n
 hp:p<n
 hq:q<n
 ab:a≠b
 ap:a≠p
 aq:a≠q
 bp:b≠p
 bq:b≠q
 pq:p≠q
 ni:j4 p a b=j4 q a b
theorem nL(p a b:Nat):j4 p a b=j4 p b a:=by unfold j4;rw[Nat.min_comm,Nat.max_comm]
theorem NI.revL {n a b p q:Nat}(h:NI n a b p q):NI n b a p q:=⟨h.hb,h.ha,h.hp,h.hq,h.ab.symm,h.bp,h.bq,h.ap,h.aq,h.pq,by rw[nL p,nL q];exact h.ni⟩
theorem NI.revR {n a b p q:Nat}(h:NI n a b p q):NI n a b q p:=⟨h.ha,h.hb,h.hq,h.hp,h.ab,h.aq,h.ap,h.bq,h.bp,h.pq.symm,h.ni.symm⟩
def HH:Bool:=(List.range 5).all λa=>(List.range 5).all λb=>(List.range 5).all λp=>(List.range 5).all λq=> !(a !=b&&a !=p&&a !=q&&b !=p&&b !=q&&p !=q&&(j4 p a b==j4 q a b))||(j4 a p q==j4 b p q)
theorem BT:HH=true:=by decide+kernel
theorem NI.swap {n a b p q:Nat}(h:NI n a b p q)(hn:n<=5):NI n p q a b:=by
 refine⟨h.hp,h.hq,h.ha,h.hb,h.pq,h.ap.symm,h.bp.symm,h.aq.symm,h.bq.symm,h.ab,?_⟩
 have k:=List.all_eq_true.mp BT a (List.mem_range.mpr (Nat.lt_of_lt_of_le h.ha hn))
 have k:=List.all_eq_true.mp k b (List.mem_range.mpr (Nat.lt_of_lt_of_le h.hb hn))
 have k:=List.all_eq_true.mp k p (List.mem_range.mpr (Nat.lt_of_lt_of_le h.hp hn))
 have k:=List.all_eq_true.mp k q (List.mem_range.mpr (Nat.lt_of_lt_of_le h.hq hn))
 rw[bne_iff_ne.mpr h.ab,bne_iff_ne.mpr h.ap,bne_iff_ne.mpr h.aq,bne_iff_ne.mpr h.bp,bne_iff_ne.mpr h.bq,bne_iff_ne.mpr h.pq,h.ni,beq_self_eq_true] at k;exact eq_of_beq k
def Ck(n row:Nat)(own others:List Nat):List Nat->Bool
 | []=>false
 |k::r=>if(row+k) % n∈own then false else if(row+k) % n∈others then true else Ck n row own others r
def Bb(n a b p q:Nat):Option Nat:=if Ck n a [a,b] [p,q] (List.range' 1 (n-1))=true then some a else if Ck n b [a,b] [p,q] (List.range' 1 (n-1))=true then some b else none
def G9(n:Nat):Bool:=(List.range n).all λa=>(List.range n).all λb=>(List.range n).all λp=>(List.range n).all λq=>
 !(a !=b&&a !=p&&a !=q&&b !=p&&b !=q&&p !=q&&j4 p a b==j4 q a b)||(Bb n a b p q==some (if j4 p a b=true then min a b else max a b))
theorem Hi:G9 4=true:=by decide+kernel
theorem Ic:G9 5=true:=by decide+kernel
theorem AG {n a b p q:Nat}(h:G9 n=true)(k:NI n a b p q):Bb n a b p q=some (if j4 p a b=true then min a b else max a b):=by
 unfold G9 at h;have h:=List.all_eq_true.mp h a (List.mem_range.mpr k.ha)
 have h:=List.all_eq_true.mp h b (List.mem_range.mpr k.hb)
 have h:=List.all_eq_true.mp h p (List.mem_range.mpr k.hp)
 have h:=List.all_eq_true.mp h q (List.mem_range.mpr k.hq)
 have e:(a !=b&&a !=p&&a !=q&&b !=p&&b !=q&&p !=q&&j4 p a b==j4 q a b)=true:=by
  simp[k.ab,k.ap,k.aq,k.bp,k.bq,k.pq,k.ni]
 rw[e] at h;simpa using h
theorem NI.trn {n a b p q:Nat}(h:NI n a b p q)(h4:4<=n)(h5:n<=5):Bb n a b p q=some (if j4 p a b=true then min a b else max a b):=by
 have e:n=4\/n=5:=by omega
 rcases e with rfl|rfl
 ·exact AG Hi h
 ·exact AG Ic h
theorem Em(p a b:Nat):j4 p (min a b) (max a b)=j4 p a b:=by
 rcases Nat.le_total a b with h|h
 ·rw[Nat.min_eq_left h,Nat.max_eq_right h]
 ·rw[Nat.min_eq_right h,Nat.max_eq_left h];exact nL p b a
theorem G6(a b:Nat):eB [.tup [nI a,nI b]]=some (.lst [nI (min a b),nI (max a b)]):=by
 show(gS ([a,b].map nI)).map D.lst=_;unfold gS;rw[if_pos (by simp)]
 have e:[a,b].map nI=([a,b].map λ(v:Nat)=>(v:Int)).map D.int:=by rw[List.map_map];rfl
 rw[e,im];have:[min a b,max a b].map (λ(v:Nat)=>(v:Int))=bR xt ([a,b].map λ(v:Nat)=>(v:Int)):=by
  refine mM CK (List.Perm.map _ ?_) ?_
  ·by_cases h:a<=b
   ·rw[Nat.min_eq_left h,Nat.max_eq_right h]
   ·rw[Nat.min_eq_right (by omega),Nat.max_eq_left (by omega)];exact List.Perm.swap _ _ _
  ·simp only[List.map_cons,List.map_nil,List.pairwise_cons,List.mem_singleton,forall_eq,List.Pairwise.nil,and_true,List.not_mem_nil,false_implies,implies_true]
   simp only[xt,decide_eq_false_iff_not];omega
 show some (D.lst ((bR xt ([a,b].map λ(v:Nat)=>(v:Int))).map D.int))=_
 rw[<-this,List.map_map];rfl
theorem CW(p a b:Nat):bV [nI p,nI a,nI b]=some (.bl (j4 p a b)):=by
 apply bZ (kd:=.s) (n:=3) (t:=gD)
 unfold gD;have mn:ao kf (aa (ah 1) (aa (ah 2) (ai))) (ii 3 [nI p,nI a,nI b])=some (nI (min a b)):=by
  refine(bU (ds:=[nI a,nI b]) rfl).trans ?_
  show some (D.int _)=some (D.int _);congr 2
  split<;>omega
 have mx:ao r6 (aa (ah 1) (aa (ah 2) (ai))) (ii 3 [nI p,nI a,nI b])=some (nI (max a b)):=by
  refine(bU (ds:=[nI a,nI b]) rfl).trans ?_
  show some (D.int _)=some (D.int _);congr 2
  split<;>omega
 refine bC ((rj (F:=rR) (G:=rR) (g:=ah 0) (y:=nI p) mn rfl (jY _ _) mx (jY _ _)).trans ?_)
 have e:(decide (((min a b:Nat):Int)<(p:Int))&&decide ((p:Int)<((max a b:Nat):Int)))=j4 p a b:=by
  unfold j4;rw[Bool.eq_iff_iff];simp only[Bool.and_eq_true,decide_eq_true_eq];omega
 rw[e]
section
variable {n:Nat}{r x:List Nat}{c:Nat}(hr:r.length=n)(hx:x.length=n)(hc:c+1<n)
include hr hx hc
theorem vq(h:NI n (r.getD c 0) (x.getD c 0) (r.getD (c+1) 0) (x.getD (c+1) 0)):iA [fJ r x,nI c]=some (nI (if j4 (r.getD (c+1) 0) (r.getD c 0) (x.getD c 0)=true then min (r.getD c 0) (x.getD c 0) else max (r.getD c 0) (x.getD c 0))):=by
 refine jw (kd:=.s) (n:=6) (t:=lP) ?_
 unfold lP
 let a:=r.getD c 0
 let b:=x.getD c 0
 let ρ:aF:=[.v (fJ r x),.v (nI c),.v (ax r),.v (ax x),.v (nI (min a b)),.v (nI (max a b))]
 have q1:cv (gT 2 (eU (gN 2) (eU (gN 3) (jI)))) (pu (ah 0)) (ii 6 [fJ r x,nI c])=.nx [.v (fJ r x),.v (nI c),.v (ax r),.v (ax x),.no,.no]:=fU (gb rfl) rfl
 have ia: ∀s4 s5,ak aP (ah 2) (ah 1) [.v (fJ r x),.v (nI c),.v (ax r),.v (ax x),s4,s5]=some (nI a):=λ_ _=>(ar (x:=ax r) (y:=nI c) rfl rfl).trans (cA (by omega))
 have ib: ∀s4 s5,ak aP (ah 3) (ah 1) [.v (fJ r x),.v (nI c),.v (ax r),.v (ax x),s4,s5]=some (nI b):=λ_ _=>(ar (x:=ax x) (y:=nI c) rfl rfl).trans (cA (by omega))
 have q2:cv (gL 2 (eU (gN 4) (eU (gN 5) (jI)))) (pu (ao eB (aa (cw (aa (ak aP (ah 2) (ah 1)) (aa (ak aP (ah 3) (ah 1)) (ai)))) (ai)))) [.v (fJ r x),.v (nI c),.v (ax r),.v (ax x),.no,.no]=.nx ρ:=
  fU (gb ((bU (ds:=[.tup [nI a,nI b]]) (av (cI (av (ia _ _) (av (ib _ _) rfl)) (by simp)) rfl)).trans (G6 a b))) rfl
 have ip:ak aP (ah 2) (ak aS (ah 1) (aA (.int 1))) ρ=some (nI (r.getD (c+1) 0)):=(ar (x:=ax r) rfl ((ar (x:=nI c) (y:=.int 1) rfl rfl).trans (lM c))).trans (cA (by omega))
 have tt:dI (ao (nF 3 bV) (aa (ak aP (ah 2) (ak aS (ah 1) (aA (.int 1)))) (aa (ah 4) (aa (ah 5) (ai))))) ρ=some (j4 (r.getD (c+1) 0) a b):=by
  refine fT ((bQ (ds:=[nI (r.getD (c+1) 0),nI (min a b),nI (max a b)]) (av ip rfl) rfl).trans ((CW _ _ _).trans ?_))
  rw[Em]
 refine⟨ρ,(ay q1).trans ((ay q2).trans (bC ?_))⟩
 show C7 _ _ _ ρ=some (nI (if j4 (r.getD (c+1) 0) a b=true then min a b else max a b))
 cases e:j4 (r.getD (c+1) 0) a b with
 |true=>rw[e] at tt;exact(GJ tt).trans rfl
 |false=>rw[e] at tt;exact(Gw tt).trans rfl
theorem tf(h:NI n (r.getD c 0) (x.getD c 0) (r.getD (c+1) 0) (x.getD (c+1) 0))(h4:4<=n)(h5:n<=5):cD [fJ r x,nI c]=some (nI (if j4 (r.getD (c+1) 0) (r.getD c 0) (x.getD c 0)=true then min (r.getD c 0) (x.getD c 0) else max (r.getD c 0) (x.getD c 0))):=by
 have tn:=h.trn h4 h5
 generalize hT:(if j4 (r.getD (c+1) 0) (r.getD c 0) (x.getD c 0)=true then min (r.getD c 0) (x.getD c 0) else max (r.getD c 0) (x.getD c 0))=T at tn⊢
 refine jw (kd:=.s) (n:=8) (t:=kB) ?_
 unfold kB
 generalize ha:r.getD c 0=a at tn
 generalize hb:x.getD c 0=b at tn
 generalize hp:r.getD (c+1) 0=p at tn
 generalize hq:x.getD (c+1) 0=q at tn
 let st:Sl->Sl->Sl->aF:=λs5 s6 s7=>[.v (fJ r x),.v (nI c),.v (nI n),.v (.lst ([a,b].map nI)),.v (.lst ([p,q].map nI)),s5,s6,s7]
 have ir: ∀s2 s3 s4 s5 s6 s7,ak aP (ak aP (ah 0) (aA (.int 0))) (ah 1) [.v (fJ r x),.v (nI c),s2,s3,s4,s5,s6,s7]=some (nI a):=λ_ _ _ _ _ _=>(ar ((ar (x:=fJ r x) (y:=.int 0) rfl rfl).trans rfl) (y:=nI c) rfl).trans ((cA (by omega)).trans (by rw[ha]))
 have ix: ∀s2 s3 s4 s5 s6 s7,ak aP (ak aP (ah 0) (aA (.int 1))) (ah 1) [.v (fJ r x),.v (nI c),s2,s3,s4,s5,s6,s7]=some (nI b):=λ_ _ _ _ _ _=>(ar ((ar (x:=fJ r x) (y:=.int 1) rfl rfl).trans rfl) (y:=nI c) rfl).trans ((cA (by omega)).trans (by rw[hb]))
 have ir1: ∀s2 s3 s4 s5 s6 s7,ak aP (ak aP (ah 0) (aA (.int 0))) (ak aS (ah 1) (aA (.int 1))) [.v (fJ r x),.v (nI c),s2,s3,s4,s5,s6,s7]=some (nI p):=λ_ _ _ _ _ _=>(ar ((ar (x:=fJ r x) (y:=.int 0) rfl rfl).trans rfl) ((ar (x:=nI c) (y:=.int 1) rfl rfl).trans (lM c))).trans ((cA (by omega)).trans (by rw[hp]))
 have ix1: ∀s2 s3 s4 s5 s6 s7,ak aP (ak aP (ah 0) (aA (.int 1))) (ak aS (ah 1) (aA (.int 1))) [.v (fJ r x),.v (nI c),s2,s3,s4,s5,s6,s7]=some (nI q):=λ_ _ _ _ _ _=>(ar ((ar (x:=fJ r x) (y:=.int 1) rfl rfl).trans rfl) ((ar (x:=nI c) (y:=.int 1) rfl rfl).trans (lM c))).trans ((cA (by omega)).trans (by rw[hq]))
 have q1:aQ 2 (ao cV (aa (ak aP (ah 0) (aA (.int 0))) (ai))) (ii 8 [fJ r x,nI c])=.nx [.v (fJ r x),.v (nI c),.v (nI n),.no,.no,.no,.no,.no]:=(aV ((gw r _ _ ((ar (x:=fJ r x) (y:=.int 0) rfl rfl).trans rfl)).trans (by rw[hr]))).trans rfl
 have q2:aQ 3 (cg (aa (ak aP (ak aP (ah 0) (aA (.int 0))) (ah 1)) (aa (ak aP (ak aP (ah 0) (aA (.int 1))) (ah 1)) (ai)))) [.v (fJ r x),.v (nI c),.v (nI n),.no,.no,.no,.no,.no]=.nx [.v (fJ r x),.v (nI c),.v (nI n),.v (.lst ([a,b].map nI)),.no,.no,.no,.no]:=(aV (dM (av (ir _ _ _ _ _ _) (av (ix _ _ _ _ _ _) rfl)) (by simp))).trans rfl
 have q3:aQ 4 (cg (aa (ak aP (ak aP (ah 0) (aA (.int 0))) (ak aS (ah 1) (aA (.int 1)))) (aa (ak aP (ak aP (ah 0) (aA (.int 1))) (ak aS (ah 1) (aA (.int 1)))) (ai)))) [.v (fJ r x),.v (nI c),.v (nI n),.v (.lst ([a,b].map nI)),.no,.no,.no,.no]=.nx (st .no .no .no):=(aV (dM (av (ir1 _ _ _ _ _ _) (av (ix1 _ _ _ _ _ _) rfl)) (by simp))).trans rfl
 have inner: ∀(row:Nat) (l:List Nat) (s6 s7:Sl),∃s6' s7',cF (gN 6) (aB (aQ 7 (ak bj (ak aS (ah 5) (ah 6)) (ah 2)))
  (aB (cM (bc (ak (ga false) (ah 7) (ah 3))) (uk) (skip))
  (cM (bc (ak (ga false) (ah 7) (ah 4))) (aY (ah 5)) (skip)))) (l.map nI) (st (.v (nI row)) s6 s7)=if Ck n row [a,b] [p,q] l=true then .rt (nI row) (st (.v (nI row)) s6' s7') else .nx (st (.v (nI row)) s6' s7'):=by
  intro row l
  induction l with
  |nil=>intro s6 s7;exact⟨s6,s7,rfl⟩
  |cons k l ih=>
   intro s6 s7
   let at':=(row+k) % n
   have w1:aQ 7 (ak bj (ak aS (ah 5) (ah 6)) (ah 2)) (st (.v (nI row)) (.v (nI k)) s7)=.nx (st (.v (nI row)) (.v (nI k)) (.v (nI at'))):=(aV ((ar ((ar (x:=nI row) (y:=nI k) rfl rfl).trans (Am _ _)) (y:=nI n) rfl).trans (AM (by omega)))).trans rfl
   have t1:bc (ak (ga false) (ah 7) (ah 3)) (st (.v (nI row)) (.v (nI k)) (.v (nI at')))=some (decide (at'∈[a,b])):=bn ((ar (x:=nI at') (y:=.lst ([a,b].map nI)) rfl rfl).trans (FR _ _))
   have t2:bc (ak (ga false) (ah 7) (ah 4)) (st (.v (nI row)) (.v (nI k)) (.v (nI at')))=some (decide (at'∈[p,q])):=bn ((ar (x:=nI at') (y:=.lst ([p,q].map nI)) rfl rfl).trans (FR _ _))
   have g1:gN 6 (nI k) (st (.v (nI row)) s6 s7)=some (st (.v (nI row)) (.v (nI k)) s7):=rfl
   show∃s6' s7',cF _ _ (nI k::l.map nI) _=_;unfold cF Ck;rw[g1];dsimp only;rw[ay w1]
   by_cases e1:at'∈[a,b]
   ·rw[decide_eq_true e1] at t1
    refine⟨.v (nI k),.v (nI at'),?_⟩
    have:aB (cM (bc (ak (ga false) (ah 7) (ah 3))) (uk) (skip)) (cM (bc (ak (ga false) (ah 7) (ah 4))) (aY (ah 5)) (skip)) (st (.v (nI row)) (.v (nI k)) (.v (nI at')))=.bk (st (.v (nI row)) (.v (nI k)) (.v (nI at'))):=by
     unfold aB;rw[du t1];rfl
    rw[this,if_pos e1];rfl
   ·rw[decide_eq_false e1] at t1
    have w2:cM (bc (ak (ga false) (ah 7) (ah 3))) (uk) (skip) (st (.v (nI row)) (.v (nI k)) (.v (nI at')))=.nx (st (.v (nI row)) (.v (nI k)) (.v (nI at'))):=(j7 t1).trans rfl
    rw[ay w2,if_neg e1]
    by_cases e2:at'∈[p,q]
    ·rw[decide_eq_true e2] at t2
     refine⟨.v (nI k),.v (nI at'),?_⟩
     rw[du t2,if_pos e2,if_pos rfl];rfl
    ·rw[decide_eq_false e2] at t2
     rw[j7 t2,if_neg e2];exact ih (.v (nI k)) (.v (nI at'))
 have rg: ∀s5 s6 s7,bL (oA (aa (aA (.int 1)) (aa (ah 2) (ai)))) (st s5 s6 s7)=some ((List.range' 1 (n-1)).map nI,st s5 s6 s7):=λs5 s6 s7=>by
  refine br ?_
  unfold oA;rw[show(aa (aA (.int 1)) (aa (ah 2) (ai))) (st s5 s6 s7)=some [.int 1,nI n] from rfl];show(if(1:Int).natAbs<4000000000/\((n:Nat):Int).natAbs<4000000000 then some (o3 1 ((n:Int) -1).toNat) else none)=_
  rw[if_pos ⟨by decide,by omega⟩]
  unfold o3;rw[show((n:Int) -1).toNat=n-1 by omega,List.range'_eq_map_range,List.map_map]
  congr 1
 have outer: ∀(row:Nat) (s5 s6 s7:Sl),∃s6' s7',dn (bL (oA (aa (aA (.int 1)) (aa (ah 2) (ai))))) (gN 6) (aB (aQ 7 (ak bj (ak aS (ah 5) (ah 6)) (ah 2)))
  (aB (cM (bc (ak (ga false) (ah 7) (ah 3))) (uk) (skip))
  (cM (bc (ak (ga false) (ah 7) (ah 4))) (aY (ah 5)) (skip)))) (st (.v (nI row)) s6 s7)=if Ck n row [a,b] [p,q] (List.range' 1 (n-1))=true then .rt (nI row) (st (.v (nI row)) s6' s7') else .nx (st (.v (nI row)) s6' s7'):=λrow s5 s6 s7=>by
  obtain⟨s6',s7',e⟩:=inner row (List.range' 1 (n-1)) s6 s7
  exact⟨s6',s7',(cK (rg _ _ _)).trans e⟩
 obtain⟨u6,u7,o1⟩:=outer a .no .no .no
 obtain⟨v6,v7,o2⟩:=outer b .no u6 u7
 unfold Bb at tn;have fin: ∃ρ,dn (bL (de (ah 3))) (gN 5) (dn (bL (oA (aa (aA (.int 1)) (aa (ah 2) (ai))))) (gN 6) (aB (aQ 7 (ak bj (ak aS (ah 5) (ah 6)) (ah 2)))
  (aB (cM (bc (ak (ga false) (ah 7) (ah 3))) (uk) (skip))
  (cM (bc (ak (ga false) (ah 7) (ah 4))) (aY (ah 5)) (skip))))) (st .no .no .no)=.rt (nI T) ρ:=by
  refine⟨if Ck n a [a,b] [p,q] (List.range' 1 (n-1))=true then st (.v (nI a)) u6 u7 else st (.v (nI b)) v6 v7,(cK (ds:=[nI a,nI b]) (br (fV rfl))).trans ?_⟩
  have g1:gN 5 (nI a) (st .no .no .no)=some (st (.v (nI a)) .no .no):=rfl
  have g2:gN 5 (nI b) (st (.v (nI a)) u6 u7)=some (st (.v (nI b)) u6 u7):=rfl
  unfold cF;rw[g1];dsimp only;rw[o1]
  by_cases e1:Ck n a [a,b] [p,q] (List.range' 1 (n-1))=true
  ·rw[if_pos e1] at tn⊢
   injection tn with tn
   subst tn;rw[if_pos e1]
  ·rw[if_neg e1] at tn⊢
   rw[if_neg e1];dsimp only;unfold cF;rw[g2];dsimp only;rw[o2]
   by_cases e2:Ck n b [a,b] [p,q] (List.range' 1 (n-1))=true
   ·rw[if_pos e2] at tn⊢
    injection tn with tn
    subst tn;rfl
   ·rw[if_neg e2] at tn;cases tn
 obtain⟨ρ,fin⟩:=fin
 exact⟨ρ,(ay q1).trans ((ay q2).trans ((ay q3).trans (gW fin)))⟩
end
theorem GH {n:Nat}{l:List Nat}(hl:l.length=4)(nd:l.Nodup)(lt: ∀v∈l,v<n): ∃f0 f1 f2 f3:Nat,eB [.lst (l.map nI)]=some (.lst ([f0,f1,f2,f3].map nI))/\f0<f1/\f1<f2/\f2<f3/\f3<n:=by
 have hP:(bR xt (l.map λ(v:Nat)=>(v:Int))).Perm (l.map λ(v:Nat)=>(v:Int)):=dv _
 have pw:=jT CK (l.map λ(v:Nat)=>(v:Int))
 have sf:eB [.lst (l.map nI)]=some (.lst ((bR xt (l.map λ(v:Nat)=>(v:Int))).map D.int)):=by
  show(gS (l.map nI)).map D.lst=_;unfold gS;rw[if_pos (by rw[List.length_map];omega)]
  have e:l.map nI=(l.map λ(v:Nat)=>(v:Int)).map D.int:=by rw[List.map_map];rfl
  rw[e,im];rfl
 generalize bR xt (l.map λ(v:Nat)=>(v:Int))=L at hP pw sf
 have eL:L=(L.map Int.toNat).map λ(v:Nat)=>(v:Int):=by
  rw[List.map_map]
  conv=>lhs;rw[<-List.map_id L]
  refine List.map_congr_left λz hz=>?_
  obtain⟨v,_,rfl⟩:=List.mem_map.mp (hP.mem_iff.mp hz)
  simp
 have P':(L.map Int.toNat).Perm l:=by
  have:=hP.map Int.toNat
  rw[List.map_map] at this;have e:l.map (Int.toNat∘λ(v:Nat)=>(v:Int))=l:=by
   conv=>rhs;rw[<-List.map_id l]
   exact List.map_congr_left λv _=>by simp
  rw[e] at this;exact this
 generalize L.map Int.toNat=M at eL P'
 subst eL;have len:M.length=4:=P'.length_eq.trans hl
 have nd':M.Nodup:=P'.nodup_iff.mpr nd
 have lt': ∀v∈M,v<n:=λv hv=>lt v (P'.mem_iff.mp hv)
 rw[List.pairwise_map] at pw
 match M,len with
 | [f0,f1,f2,f3],_=>
   refine⟨f0,f1,f2,f3,by rw[sf,List.map_map];rfl,?_,?_,?_,lt' f3 (by simp)⟩
   all_goals
    simp only[List.pairwise_cons,List.mem_cons,List.not_mem_nil,or_false,forall_eq_or_imp,forall_eq,List.Pairwise.nil,and_true,xt,decide_eq_false_iff_not,List.nodup_cons,not_or] at pw nd';omega
theorem r8(l:List Nat)(a:Nat):iz (l.map nI) (some (a:Int)) none=(l.drop a).map nI:=by
 unfold iz;rw[HT.sIx_none,HT.sIx_nat,List.length_map]
 by_cases h:a<=l.length
 ·rw[Nat.min_eq_left h,List.take_of_length_le (by simp),List.map_drop]
 ·rw[Nat.min_eq_right (by omega),Nat.sub_self,List.take_zero,List.drop_eq_nil_of_le (by omega)];rfl
theorem u4(l:List Nat)(a:Nat):iz (l.map nI) none (some (a:Int))=(l.take a).map nI:=by
 unfold iz;rw[HT.sIx_none,HT.sIx_nat,List.length_map,List.drop_zero,Nat.sub_zero,List.map_take]
 by_cases h:a<=l.length
 ·rw[Nat.min_eq_left h]
 ·rw[Nat.min_eq_right (by omega),List.take_of_length_le (by simp),List.take_of_length_le (by simp;omega)]
theorem zR(l m:List Nat)(h:l.length+m.length<=900):gz (.lst (l.map nI)) (.lst (m.map nI))=some (.lst ((l++m).map nI)):=by
 have:gz (.lst (l.map nI)) (.lst (m.map nI))=some (.lst (l.map nI++m.map nI)):=if_pos (by rw[List.length_map,List.length_map];exact Nat.le_trans h (by decide))
 rw[this,List.map_append]
theorem kS {f:FE}{ρ:aF}{l:List Nat}{g:FE}{a:Nat}(h1:f ρ=some (.lst (l.map nI)))(h2:g ρ=some (nI a)):fu f (gF g) jd ρ=some (.lst ((l.drop a).map nI)):=by
 unfold fu gF jd;rw[h1,Option.bind_some];dsimp only;rw[h2];show some (D.lst (iz (l.map nI) (some (a:Int)) none))=_;rw[r8]
theorem qC {f:FE}{ρ:aF}{l:List Nat}{g:FE}{a:Nat}(h1:f ρ=some (.lst (l.map nI)))(h2:g ρ=some (nI a)):fu f jd (gF g) ρ=some (.lst ((l.take a).map nI)):=by
 unfold fu gF jd;rw[h1,Option.bind_some];dsimp only;rw[h2];show some (D.lst (iz (l.map nI) none (some (a:Int))))=_;rw[u4]
abbrev eO(bg:List D)(n:Nat)(t:List Sl):aF:=.arg bg:: .v (nI n)::t
theorem Ce {N:Nat}{a b:Int}(B:Bag N a b)(hN:N<=1000)(n c:Nat): ∃(w0 w1 w2 w3:Int) (a' b':Int),(0<=w0/\w0<2)/\(0<=w1/\w1<2)/\(0<=w2/\w2<2)/\(0<=w3/\w3<2)/\Bag (N+4) a' b'/\
 fb 1 (bL (cN (aa (aA (.int 4)) (ai)))) (gN 14) (fq) (aN 0 1 aU (bL (aa (aA (.int 2)) (ai)))) (eO (aG a b) n [.v (nI c),.no,.no,.no,.no,.no,.no,.no,.no,.no,.no,.no])=some (.lst [.int w0,.int w1,.int w2,.int w3],eO (aG a' b') n [.v (nI c),.no,.no,.no,.no,.no,.no,.no,.no,.no,.no,.no]):=by
 have step: ∀ {N:Nat} {a b:Int} (B:Bag N a b) (hN:N<=2000) (k:Nat) (l:List D),∃(w a' b':Int),(0<=w/\w<2)/\Bag (N+1) a' b'/\
  eM (gN 14) (fq) (aN 0 1 aU (bL (aa (aA (.int 2)) (ai)))) (nI k::l) (eO (aG a b) n [.v (nI c),.no,.no,.no,.no,.no,.no,.no,.no,.no,.no,.no,.no])=(eM (gN 14) (fq) (aN 0 1 aU (bL (aa (aA (.int 2)) (ai)))) l (eO (aG a' b') n [.v (nI c),.no,.no,.no,.no,.no,.no,.no,.no,.no,.no,.no,.no])).map λz=>(D.int w::z.1,z.2):=by
  intro N a b B hN k l;obtain⟨d,a1,b1,e1,B1,d0,d1⟩:=lg (m:=2) B (by omega) (by decide) (by decide)
  refine⟨d,a1,b1,⟨d0,d1⟩,B1,?_⟩
  have hf:aN 0 1 aU (bL (aa (aA (.int 2)) (ai))) (eO (aG a b) n [.v (nI c),.no,.no,.no,.no,.no,.no,.no,.no,.no,.no,.no,.v (nI k)])=some (.int d,eO (aG a1 b1) n [.v (nI c),.no,.no,.no,.no,.no,.no,.no,.no,.no,.no,.no,.v (nI k)]):=
   cP (i:=0) (n:=1) (b0:=aG a b) (ds:=[.int 2]) rfl (br rfl) rfl rfl e1
  conv=>lhs;unfold eM
  rw[show gN 14 (nI k) (eO (aG a b) n [.v (nI c),.no,.no,.no,.no,.no,.no,.no,.no,.no,.no,.no,.no])=some (eO (aG a b) n [.v (nI c),.no,.no,.no,.no,.no,.no,.no,.no,.no,.no,.no,.v (nI k)]) from rfl,Option.bind_some,
   show fq (eO (aG a b) n [.v (nI c),.no,.no,.no,.no,.no,.no,.no,.no,.no,.no,.no,.v (nI k)])=some true from rfl,Option.bind_some,if_pos rfl,hf,Option.bind_some,if_pos (by rfl)]
  rw[show j3 (eO (aG a b) n [.v (nI c),.no,.no,.no,.no,.no,.no,.no,.no,.no,.no,.no,.no]) (eO (aG a1 b1) n [.v (nI c),.no,.no,.no,.no,.no,.no,.no,.no,.no,.no,.no,.v (nI k)])=some (eO (aG a1 b1) n [.v (nI c),.no,.no,.no,.no,.no,.no,.no,.no,.no,.no,.no,.no]) from rfl,Option.bind_some]
 obtain⟨w0,a0,b0,h0,B0,e0⟩:=step B (by omega) 0 [nI 1,nI 2,nI 3]
 obtain⟨w1,a1,b1,h1,B1,e1⟩:=step B0 (by omega) 1 [nI 2,nI 3]
 obtain⟨w2,a2,b2,h2,B2,e2⟩:=step B1 (by omega) 2 [nI 3]
 obtain⟨w3,a3,b3,h3,B3,e3⟩:=step B2 (by omega) 3 []
 refine⟨w0,w1,w2,w3,a3,b3,h0,h1,h2,h3,by rw[show N+4=N+1+1+1+1 by omega];exact B3,?_⟩
 unfold fb;rw[br (fP (n:=4) (av rfl rfl) (by omega)),Option.bind_some]
 dsimp only;rw[if_pos (by simp;decide)]
 have:eM (gN 14) (fq) (aN 0 1 aU (bL (aa (aA (.int 2)) (ai)))) ((List.range 4).map nI) (eO (aG a b) n [.v (nI c),.no,.no,.no,.no,.no,.no,.no,.no,.no,.no,.no]++List.replicate 1 .no)=some ([.int w0,.int w1,.int w2,.int w3],eO (aG a3 b3) n [.v (nI c),.no,.no,.no,.no,.no,.no,.no,.no,.no,.no,.no,.no]):=by
  show eM (gN 14) (fq) (aN 0 1 aU (bL (aa (aA (.int 2)) (ai)))) [nI 0,nI 1,nI 2,nI 3] (eO (aG a b) n [.v (nI c),.no,.no,.no,.no,.no,.no,.no,.no,.no,.no,.no,.no])=_;rw[e0,e1,e2,e3];rfl
 rw[this,Option.bind_some];rfl
theorem nK {ρ:aF}{p:FT}{q:Nat->Bool}(hg: ∀v,∃ρ1,gN 14 (nI v) ρ=some ρ1/\p ρ1=some (q v)/\ah 14 ρ1=some (nI v)/\j3 ρ ρ1=some ρ): ∀l:List Nat,eM (gN 14) p (pu (ah 14)) (l.map nI) ρ=some ((l.filter q).map nI,ρ)
 | []=>rfl
 |v::l=>by
  obtain⟨ρ1,h1,h2,h3,h4⟩:=hg v
  have ih:=nK hg l
  rw[List.map_cons];unfold eM;rw[h1,Option.bind_some,h2,Option.bind_some];cases e:q v with
  |false=>rw[if_neg (by decide),ih,List.filter_cons_of_neg (by rw[e];decide)]
  |true=>
   rw[if_pos rfl,show pu (ah 14) ρ1=some (nI v,ρ1) from gb h3,Option.bind_some,if_pos (by rfl),h4,Option.bind_some,ih,List.filter_cons_of_pos e]
   rfl
theorem Dw(L:List Nat)(c:Nat):ga true (nI c) (.tup (L.map nI))=some (.bl (!decide (c∈L))):=by
 unfold ga km;dsimp only;rw[lL,if_pos (by omega),zw]
 rfl
def D9(n:Nat):Bool:=(List.range n).all λa=>(List.range n).all λb=>a==b||((List.range n).filter λv=> !decide (v∈[a,b])).length==n-2
theorem Gp:D9 4=true:=by decide+kernel
theorem FU:D9 5=true:=by decide+kernel
theorem Bz {n:Nat}{o:List Nat}(O:Ord n o)(h4:4<=n)(h5:n<=5){a b:Nat}(ha:a<n)(hb:b<n)(ne:a≠b):(o.filter λv=> !decide (v∈[a,b])).length=n-2:=by
 rw[(O.perm.filter _).length_eq];have h:D9 n=true:=by
  have e:n=4\/n=5:=by omega
  rcases e with rfl|rfl
  ·exact Gp
  ·exact FU
 have h:=List.all_eq_true.mp h a (List.mem_range.mpr ha)
 have h:=List.all_eq_true.mp h b (List.mem_range.mpr hb)
 simpa [ne] using h
theorem Ec {f:FE}{ρ:aF}{ds:List D}(h:f ρ=some (.lst ds)):o0 f (gF (oZ (aA (.int 1)))) ρ=some (.lst ds.reverse):=by
 unfold o0;rw[h,Option.bind_some];dsimp only;rw[show gF (oZ (aA (.int 1))) ρ=some (some (-1)) from rfl,Option.bind_some,if_pos rfl]
theorem uy {f:FE}{ρ:aF}{w:Int}(h:f ρ=some (.int w)):bc (ak kj f (aA (.int 1))) ρ=some (decide (w=1)):=bn ((ar h (y:=.int 1) rfl).trans (by rw[mK (by rw[gh];omega),jQ]))
section
variable {n:Nat}(h4:4<=n)(h5:n<=5)
include h4 h5
theorem vy {N:Nat}{a b:Int}(B:Bag N a b)(hN:N<=1000)(t2 t3 t4 t5 s8:Sl)(L0 L1 R0 R1:Nat)(i:Int)(u v:Nat)(hs: ∀s∈[t2,t3,t4,t5,s8],vn s s=some s)
 (hu': ∀bg t,ak aP (ah 6) (aA (.int i)) (eO bg n (t2::t3::t4::t5:: .v (.lst ([L0,L1].map nI)):: .v (.lst ([R0,R1].map nI))::t))=some (nI u))
 (hv': ∀bg t,ak aP (ah 7) (aA (.int i)) (eO bg n (t2::t3::t4::t5:: .v (.lst ([L0,L1].map nI)):: .v (.lst ([R0,R1].map nI))::t))=some (nI v)) (hul:u<n) (hvl:v<n) (ne:u≠v):
 ∃(l:List Nat) (a' b':Int),l.length=n-2/\Bag (N+n) a' b'/\fb 1 (vb (aN 0 1 bi (bL (aa (ah 1) (ai))))) (gN 14) (bc (ak (ga true) (ah 14) (cw (aa (ak aP (ah 6) (aA (.int i))) (aa (ak aP (ah 7) (aA (.int i))) (ai)))))) (pu (ah 14))
  (eO (aG a b) n [t2,t3,t4,t5,.v (.lst ([L0,L1].map nI)),.v (.lst ([R0,R1].map nI)),s8,.no,.no,.no,.no,.no])=some (.lst (l.map nI),eO (aG a' b') n [t2,t3,t4,t5,.v (.lst ([L0,L1].map nI)),.v (.lst ([R0,R1].map nI)),s8,.no,.no,.no,.no,.no]):=by
 obtain⟨o,a',b',eo,O,B'⟩:=nY B (n:=n) (by omega) (by omega)
 refine⟨o.filter λz=> !decide (z∈[u,v]),a',b',Bz O h4 h5 hul hvl ne,B',?_⟩
 have m2:=hs t2 (by simp)
 have m3:=hs t3 (by simp)
 have m4:=hs t4 (by simp)
 have m5:=hs t5 (by simp)
 have m8:=hs s8 (by simp)
 have gi:vb (aN 0 1 bi (bL (aa (ah 1) (ai)))) (eO (aG a b) n [t2,t3,t4,t5,.v (.lst ([L0,L1].map nI)),.v (.lst ([R0,R1].map nI)),s8,.no,.no,.no,.no,.no])=some (o.map nI,eO (aG a' b') n [t2,t3,t4,t5,.v (.lst ([L0,L1].map nI)),.v (.lst ([R0,R1].map nI)),s8,.no,.no,.no,.no,.no]):=by
  unfold vb;rw[show aN 0 1 bi (bL (aa (ah 1) (ai))) (eO (aG a b) n [t2,t3,t4,t5,.v (.lst ([L0,L1].map nI)),.v (.lst ([R0,R1].map nI)),s8,.no,.no,.no,.no,.no])=some (.lst (o.map nI),eO (aG a' b') n [t2,t3,t4,t5,.v (.lst ([L0,L1].map nI)),.v (.lst ([R0,R1].map nI)),s8,.no,.no,.no,.no,.no]) from
   cP (i:=0) (n:=1) (b0:=aG a b) (ds:=[nI n]) rfl (br rfl) rfl rfl eo]
 have mx: ∀(sx:Sl),j3 (eO (aG a' b') n [t2,t3,t4,t5,.v (.lst ([L0,L1].map nI)),.v (.lst ([R0,R1].map nI)),s8,.no,.no,.no,.no,.no,.no]) (eO (aG a' b') n [t2,t3,t4,t5,.v (.lst ([L0,L1].map nI)),.v (.lst ([R0,R1].map nI)),s8,.no,.no,.no,.no,.no,sx])=some (eO (aG a' b') n [t2,t3,t4,t5,.v (.lst ([L0,L1].map nI)),.v (.lst ([R0,R1].map nI)),s8,.no,.no,.no,.no,.no,.no]):=λsx=>by
  simp only[j3,m2,m3,m4,m5,m8,Option.bind_some];rfl
 have mx0:j3 (eO (aG a' b') n [t2,t3,t4,t5,.v (.lst ([L0,L1].map nI)),.v (.lst ([R0,R1].map nI)),s8,.no,.no,.no,.no,.no]) (eO (aG a' b') n [t2,t3,t4,t5,.v (.lst ([L0,L1].map nI)),.v (.lst ([R0,R1].map nI)),s8,.no,.no,.no,.no,.no,.no])=some (eO (aG a' b') n [t2,t3,t4,t5,.v (.lst ([L0,L1].map nI)),.v (.lst ([R0,R1].map nI)),s8,.no,.no,.no,.no,.no]):=by
  simp only[j3,m2,m3,m4,m5,m8,Option.bind_some];rfl
 have lp:=nK (ρ:=eO (aG a' b') n [t2,t3,t4,t5,.v (.lst ([L0,L1].map nI)),.v (.lst ([R0,R1].map nI)),s8,.no,.no,.no,.no,.no,.no]) (p:=bc (ak (ga true) (ah 14) (cw (aa (ak aP (ah 6) (aA (.int i))) (aa (ak aP (ah 7) (aA (.int i))) (ai)))))) (q:=λz=> !decide (z∈[u,v])) (λz=>⟨eO (aG a' b') n [t2,t3,t4,t5,.v (.lst ([L0,L1].map nI)),.v (.lst ([R0,R1].map nI)),s8,.no,.no,.no,.no,.no,.v (nI z)],rfl,
  bn ((ar (x:=nI z) (y:=.tup ([u,v].map nI)) rfl (cI (av (hu' _ _) (av (hv' _ _) rfl)) (by simp))).trans (Dw _ _)),rfl,mx _⟩) o
 unfold fb;rw[gi,Option.bind_some];dsimp only;rw[if_pos (by rw[List.length_map,O.len];exact Nat.le_trans (show n<=900 by omega) (by decide))]
 rw[show eO (aG a' b') n [t2,t3,t4,t5,.v (.lst ([L0,L1].map nI)),.v (.lst ([R0,R1].map nI)),s8,.no,.no,.no,.no,.no]++List.replicate 1 Sl.no=eO (aG a' b') n [t2,t3,t4,t5,.v (.lst ([L0,L1].map nI)),.v (.lst ([R0,R1].map nI)),s8,.no,.no,.no,.no,.no,.no] from rfl,lp,Option.bind_some];dsimp only;rw[mx0];rfl
theorem tR(bg:List D)(t2 t3 t4 t5 t6 t7:Sl)(l:List Nat)(hl:l.length=n-2): ∀(k:Nat) (c:Nat) (x:List Nat) (s10 s11:Sl),c+k=n-2->x.length=n-2-> ∃(x':List Nat) (s10' s11':Sl),x'.length=n-2/\cF (gN 10) (aB (aQ 11 (ak bj (ak aS (ah 10) (aA (.int 1))) (ak eT (ah 1) (aA (.int 2)))))
 (cM (bc (ak kj (ak aP (cU 9) (ah 10)) (ak aP (ah 8) (ah 10)))) (cv (gT 2 (eU (bX 9 (ah 10)) (eU (bX 9 (ah 11)) (jI)))) (pu (cw (aa (ak aP (cU 9) (ah 11)) (aa (ak aP (cU 9) (ah 10)) (ai)))))) (skip))) ((List.range' c k).map nI)
 (eO bg n [t2,t3,t4,t5,t6,t7,.v (.lst (l.map nI)),.own (x.map nI),s10,s11,.no,.no])=.nx (eO bg n [t2,t3,t4,t5,t6,t7,.v (.lst (l.map nI)),.own (x'.map nI),s10',s11',.no,.no])
 |0,c,x,s10,s11,_,hx=>⟨x,s10,s11,hx,rfl⟩
 |k+1,c,x,s10,s11,h,hx=>by
  have hd:(c+1) % (n-2)<n-2:=Nat.mod_lt _ (by omega)
  let st:List Nat->Sl->aF:=λx s11=>eO bg n [t2,t3,t4,t5,t6,t7,.v (.lst (l.map nI)),.own (x.map nI),.v (nI c),s11,.no,.no]
  have sb: ∀s11,ak eT (ah 1) (aA (.int 2)) (st x s11)=some (nI (n-2)):=λs11=>by
   refine(ar (x:=nI n) (y:=.int 2) rfl rfl).trans ((jv _ _).trans ?_)
   show some (D.int _)=some (D.int _);congr 2
   omega
  have e1:aQ 11 (ak bj (ak aS (ah 10) (aA (.int 1))) (ak eT (ah 1) (aA (.int 2)))) (st x s11)=.nx (st x (.v (nI ((c+1) % (n-2))))):=
   (aV ((ar ((ar (x:=nI c) (y:=.int 1) rfl rfl).trans (lM c)) (sb _)).trans (AM (by omega)))).trans rfl
  have i1:ak aP (cU 9) (ah 10) (st x (.v (nI ((c+1) % (n-2)))))=some (nI (x.getD c 0)):=(ar (x:=.lst (x.map nI)) (y:=nI c) rfl rfl).trans (Av (by omega))
  have i2:ak aP (ah 8) (ah 10) (st x (.v (nI ((c+1) % (n-2)))))=some (nI (l.getD c 0)):=(ar (x:=.lst (l.map nI)) (y:=nI c) rfl rfl).trans (Av (by omega))
  have i3:ak aP (cU 9) (ah 11) (st x (.v (nI ((c+1) % (n-2)))))=some (nI (x.getD ((c+1) % (n-2)) 0)):=(ar (x:=.lst (x.map nI)) (y:=nI ((c+1) % (n-2))) rfl rfl).trans (Av (by omega))
  have tt:bc (ak kj (ak aP (cU 9) (ah 10)) (ak aP (ah 8) (ah 10))) (st x (.v (nI ((c+1) % (n-2)))))=some (decide (x.getD c 0=l.getD c 0)):=bn ((ar i1 i2).trans (by rw[mK (by rw[gh];omega),ji]))
  obtain⟨x2,hx2,e2⟩: ∃x2:List Nat,x2.length=n-2/\cM (bc (ak kj (ak aP (cU 9) (ah 10)) (ak aP (ah 8) (ah 10)))) (cv (gT 2 (eU (bX 9 (ah 10)) (eU (bX 9 (ah 11)) (jI)))) (pu (cw (aa (ak aP (cU 9) (ah 11)) (aa (ak aP (cU 9) (ah 10)) (ai)))))) (skip) (st x (.v (nI ((c+1) % (n-2)))))=.nx (st x2 (.v (nI ((c+1) % (n-2))))):=by
   by_cases e:x.getD c 0=l.getD c 0
   ·rw[decide_eq_true e] at tt
    refine⟨(x.set c (x.getD ((c+1) % (n-2)) 0)).set ((c+1) % (n-2)) (x.getD c 0),by simp[hx],(du tt).trans ?_⟩
    unfold cv;rw[gb (cI (av i3 (av i1 rfl)) (by simp))]
    simp only[gT,List.length_cons,List.length_nil,eU];rw[iu (bs:=x.map nI) (j:=c) rfl rfl (by simp;omega)]
    simp only[Option.bind_some];rw[iu (bs:=(x.map nI).set c (nI (x.getD ((c+1) % (n-2)) 0))) (j:=(c+1) % (n-2)) rfl rfl (by simp;omega)]
    rw[kT,kT];rfl
   ·rw[decide_eq_false e] at tt
    exact⟨x,hx,(j7 tt).trans rfl⟩
  obtain⟨x',s10',s11',h1,h2⟩:=tR bg t2 t3 t4 t5 t6 t7 l hl k (c+1) x2 (.v (nI c)) (.v (nI ((c+1) % (n-2)))) (by omega) hx2
  refine⟨x',s10',s11',h1,?_⟩
  rw[List.range'_succ,List.map_cons];exact(cb (ρ1:=st x s11) rfl ((ay e1).trans e2)).trans h2
theorem tS(l:List Nat)(c p q:Nat)(hc:c<=l.length):(l.take c++[p,q]++l.drop c).length=l.length+2/\(l.take c++[p,q]++l.drop c).getD c 0=p/\(l.take c++[p,q]++l.drop c).getD (c+1) 0=q:=by
 have e:(l.take c).length=c:=by rw[List.length_take];omega
 refine⟨by simp;omega,?_,?_⟩
 ·rw[List.getD_eq_getElem?_getD,List.append_assoc,List.getElem?_append_right (by omega),e,Nat.sub_self];rfl
 ·rw[List.getD_eq_getElem?_getD,List.append_assoc,List.getElem?_append_right (by omega),e,show c+1-c=1 by omega];rfl
theorem At {N:Nat}{a b:Int}(B:Bag N a b)(hN:N<=100): ∃(r x:List Nat) (c:Nat) (bg:List D),bT (aG a b) [nI n]=some (.tup [fJ r x,nI c],bg)/\(∃N' a' b',Bag N' a' b'/\N'<=400/\bg=aG a' b')/\r.length=n/\x.length=n/\c+1<n/\NI n (r.getD c 0) (x.getD c 0) (r.getD (c+1) 0) (x.getD (c+1) 0):=by
 obtain⟨d,a1,b1,e1,B1,d0,d1⟩:=lg (m:=(n:Int) -1) B (by omega) (by omega) (Nat.lt_of_lt_of_le (show((n:Int) -1).natAbs<10^10 by omega) (by decide))
 obtain⟨c,rfl⟩: ∃c:Nat,d=(c:Int):=⟨d.toNat,by omega⟩
 have hc:c+1<n:=by omega
 obtain⟨w0,w1,w2,w3,a2,b2,k0,k1,k2,k3,B2,ew⟩:=Ce B1 (by omega) n c
 obtain⟨o,a3,b3,eo,O,B3⟩:=nY B2 (n:=n) (by omega) (by omega)
 have ot:(o.take 4).length=4:=by rw[List.length_take,O.len];omega
 obtain⟨f0,f1,f2,f3,es,l01,l12,l23,l3⟩:=GH (n:=n) ot ((O.perm.nodup_iff.mpr List.nodup_range).sublist (List.take_sublist _ _)) (λv hv=>O.lt (List.mem_of_mem_take hv))
 let W:D:=.lst [.int w0,.int w1,.int w2,.int w3]
 have q1:jc 2 (aN 0 1 aU (bL (aa (ak eT (ah 1) (aA (.int 1))) (ai)))) (nW 14 (aG a b) [nI n])=.nx (eO (aG a1 b1) n [.v (nI c),.no,.no,.no,.no,.no,.no,.no,.no,.no,.no,.no]):=
  (jX (cP (i:=0) (n:=1) (b0:=aG a b) (ds:=[.int ((n:Int) -1)]) rfl (br (av ((ar (x:=nI n) (y:=.int 1) rfl rfl).trans (jv _ _)) rfl)) rfl rfl e1)).trans rfl
 have q2:jc 3 (fb 1 (bL (cN (aa (aA (.int 4)) (ai)))) (gN 14) (fq) (aN 0 1 aU (bL (aa (aA (.int 2)) (ai))))) (eO (aG a1 b1) n [.v (nI c),.no,.no,.no,.no,.no,.no,.no,.no,.no,.no,.no])=.nx (eO (aG a2 b2) n [.v (nI c),.v W,.no,.no,.no,.no,.no,.no,.no,.no,.no,.no]):=(jX ew).trans rfl
 have q3:jc 4 (gq eB (da (yO (aN 0 1 bi (bL (aa (ah 1) (ai)))) jd (gF (aA (.int 4)))) (bL (ai)))) (eO (aG a2 b2) n [.v (nI c),.v W,.no,.no,.no,.no,.no,.no,.no,.no,.no,.no])=.nx (eO (aG a3 b3) n [.v (nI c),.v W,.v (.lst ([f0,f1,f2,f3].map nI)),.no,.no,.no,.no,.no,.no,.no,.no,.no]):=by
  refine(jX (nJ (ρ1:=eO (aG a3 b3) n [.v (nI c),.v W,.no,.no,.no,.no,.no,.no,.no,.no,.no,.no]) (ds:=[.lst ((o.take 4).map nI)]) (fN ?_ (br rfl)) es)).trans rfl
  unfold yO;rw[show aN 0 1 bi (bL (aa (ah 1) (ai))) (eO (aG a2 b2) n [.v (nI c),.v W,.no,.no,.no,.no,.no,.no,.no,.no,.no,.no])=some (.lst (o.map nI),eO (aG a3 b3) n [.v (nI c),.v W,.no,.no,.no,.no,.no,.no,.no,.no,.no,.no]) from cP (i:=0) (n:=1) (b0:=aG a2 b2) (ds:=[nI n]) rfl (br rfl) rfl rfl eo,Option.bind_some];show some (D.lst (iz (o.map nI) none (some ((4:Nat):Int))),_)=_;rw[u4]
 have iw: ∀(j:Nat) (w:Int) (bg:List D) (t:List Sl),[D.int w0,.int w1,.int w2,.int w3][j]? =some (.int w)->ak aP (ah 3) (aA (.int j)) (eO bg n (.v (nI c):: .v W::t))=some (.int w):=λj w bg t hw=>(ar (x:=W) (y:=.int j) rfl rfl).trans (qO hw)
 obtain⟨g0,g1,g2,g3,q4,NI0⟩: ∃g0 g1 g2 g3:Nat,aQ 4 (ak gz (fu (ah 4) (gF (ak aP (ah 3) (aA (.int 0)))) jd) (fu (ah 4) jd (gF (ak aP (ah 3) (aA (.int 0)))))) (eO (aG a3 b3) n [.v (nI c),.v W,.v (.lst ([f0,f1,f2,f3].map nI)),.no,.no,.no,.no,.no,.no,.no,.no,.no])=.nx (eO (aG a3 b3) n [.v (nI c),.v W,.v (.lst ([g0,g1,g2,g3].map nI)),.no,.no,.no,.no,.no,.no,.no,.no,.no])/\NI n g0 g1 g2 g3:=by
  obtain⟨w,rfl⟩: ∃w:Nat,w0=(w:Int):=⟨w0.toNat,by omega⟩
  have i0:=iw 0 w (aG a3 b3) [.v (.lst ([f0,f1,f2,f3].map nI)),.no,.no,.no,.no,.no,.no,.no,.no,.no] rfl
  have z:=(aV (i:=4) ((ar (kS (f:=ah 4) (l:=[f0,f1,f2,f3]) rfl i0) (qC (f:=ah 4) (l:=[f0,f1,f2,f3]) rfl i0)).trans (zR _ _ (by simp;omega))))
  have hw:w=0\/w=1:=by omega
  rcases hw with rfl|rfl
  ·refine⟨f0,f1,f2,f3,z.trans rfl,by omega,by omega,by omega,by omega,by omega,by omega,by omega,by omega,by omega,by omega,?_⟩
   unfold j4;rw[Bool.eq_iff_iff];simp only[Bool.and_eq_true,decide_eq_true_eq];omega
  ·refine⟨f1,f2,f3,f0,z.trans rfl,by omega,by omega,by omega,by omega,by omega,by omega,by omega,by omega,by omega,by omega,?_⟩
   unfold j4;rw[Bool.eq_iff_iff];simp only[Bool.and_eq_true,decide_eq_true_eq];omega
 have q5:aQ 5 (cg (aa (fu (ah 4) jd (gF (aA (.int 2)))) (aa (fu (ah 4) (gF (aA (.int 2))) jd) (ai)))) (eO (aG a3 b3) n [.v (nI c),.v W,.v (.lst ([g0,g1,g2,g3].map nI)),.no,.no,.no,.no,.no,.no,.no,.no,.no])=.nx (eO (aG a3 b3) n [.v (nI c),.v W,.v (.lst ([g0,g1,g2,g3].map nI)),.v (.lst [.lst ([g0,g1].map nI),.lst ([g2,g3].map nI)]),.no,.no,.no,.no,.no,.no,.no,.no]):=
  (aV (dM (av (qC (f:=ah 4) (l:=[g0,g1,g2,g3]) (a:=2) rfl rfl) (av (kS (f:=ah 4) (l:=[g0,g1,g2,g3]) (a:=2) rfl rfl) rfl)) (by simp))).trans rfl
 obtain⟨p0,p1,p2,p3,q6,NI1⟩: ∃p0 p1 p2 p3:Nat,cM (bc (ak kj (ak aP (ah 3) (aA (.int 1))) (aA (.int 1)))) (aQ 5 (o0 (ah 5) (gF (oZ (aA (.int 1)))))) (skip) (eO (aG a3 b3) n [.v (nI c),.v W,.v (.lst ([g0,g1,g2,g3].map nI)),.v (.lst [.lst ([g0,g1].map nI),.lst ([g2,g3].map nI)]),.no,.no,.no,.no,.no,.no,.no,.no])=.nx (eO (aG a3 b3) n [.v (nI c),.v W,.v (.lst ([g0,g1,g2,g3].map nI)),.v (.lst [.lst ([p0,p1].map nI),.lst ([p2,p3].map nI)]),.no,.no,.no,.no,.no,.no,.no,.no])/\NI n p0 p1 p2 p3:=by
  have tt:=uy (iw 1 w1 (aG a3 b3) [.v (.lst ([g0,g1,g2,g3].map nI)),.v (.lst [.lst ([g0,g1].map nI),.lst ([g2,g3].map nI)]),.no,.no,.no,.no,.no,.no,.no,.no] rfl)
  by_cases e:w1=1
  ·rw[decide_eq_true e] at tt
   exact⟨g2,g3,g0,g1,(du tt).trans ((aV (Ec (f:=ah 5) (ds:=[.lst ([g0,g1].map nI),.lst ([g2,g3].map nI)]) rfl)).trans rfl),NI0.swap h5⟩
  ·rw[decide_eq_false e] at tt
   exact⟨g0,g1,g2,g3,(j7 tt).trans rfl,NI0⟩
 have q7:cv (gL 2 (eU (gN 6) (eU (gN 7) (jI)))) (pu (ah 5)) (eO (aG a3 b3) n [.v (nI c),.v W,.v (.lst ([g0,g1,g2,g3].map nI)),.v (.lst [.lst ([p0,p1].map nI),.lst ([p2,p3].map nI)]),.no,.no,.no,.no,.no,.no,.no,.no])=.nx (eO (aG a3 b3) n [.v (nI c),.v W,.v (.lst ([g0,g1,g2,g3].map nI)),.v (.lst [.lst ([p0,p1].map nI),.lst ([p2,p3].map nI)]),.v (.lst ([p0,p1].map nI)),.v (.lst ([p2,p3].map nI)),.no,.no,.no,.no,.no,.no]):=fU (gb rfl) rfl
 generalize hG:(Sl.v (.lst ([g0,g1,g2,g3].map nI)))=G4 at q7
 generalize hP:(Sl.v (.lst [.lst ([p0,p1].map nI),.lst ([p2,p3].map nI)]))=G5 at q7
 obtain⟨l0,l1,q8,NI2⟩: ∃l0 l1:Nat,cM (bc (ak kj (ak aP (ah 3) (aA (.int 2))) (aA (.int 1)))) (aQ 6 (o0 (ah 6) (gF (oZ (aA (.int 1)))))) (skip) (eO (aG a3 b3) n [.v (nI c),.v W,G4,G5,.v (.lst ([p0,p1].map nI)),.v (.lst ([p2,p3].map nI)),.no,.no,.no,.no,.no,.no])=.nx (eO (aG a3 b3) n [.v (nI c),.v W,G4,G5,.v (.lst ([l0,l1].map nI)),.v (.lst ([p2,p3].map nI)),.no,.no,.no,.no,.no,.no])/\NI n l0 l1 p2 p3:=by
  have tt:=uy (iw 2 w2 (aG a3 b3) [G4,G5,.v (.lst ([p0,p1].map nI)),.v (.lst ([p2,p3].map nI)),.no,.no,.no,.no,.no,.no] rfl)
  by_cases e:w2=1
  ·rw[decide_eq_true e] at tt
   exact⟨p1,p0,(du tt).trans ((aV (Ec (f:=ah 6) (ds:=[p0,p1].map nI) rfl)).trans rfl),NI1.revL⟩
  ·rw[decide_eq_false e] at tt
   exact⟨p0,p1,(j7 tt).trans rfl,NI1⟩
 obtain⟨r0,r1,q9,NI3⟩: ∃r0 r1:Nat,cM (bc (ak kj (ak aP (ah 3) (aA (.int 3))) (aA (.int 1)))) (aQ 7 (o0 (ah 7) (gF (oZ (aA (.int 1)))))) (skip) (eO (aG a3 b3) n [.v (nI c),.v W,G4,G5,.v (.lst ([l0,l1].map nI)),.v (.lst ([p2,p3].map nI)),.no,.no,.no,.no,.no,.no])=.nx (eO (aG a3 b3) n [.v (nI c),.v W,G4,G5,.v (.lst ([l0,l1].map nI)),.v (.lst ([r0,r1].map nI)),.no,.no,.no,.no,.no,.no])/\NI n l0 l1 r0 r1:=by
  have tt:=uy (iw 3 w3 (aG a3 b3) [G4,G5,.v (.lst ([l0,l1].map nI)),.v (.lst ([p2,p3].map nI)),.no,.no,.no,.no,.no,.no] rfl)
  by_cases e:w3=1
  ·rw[decide_eq_true e] at tt
   exact⟨p3,p2,(du tt).trans ((aV (Ec (f:=ah 7) (ds:=[p2,p3].map nI) rfl)).trans rfl),NI2.revR⟩
  ·rw[decide_eq_false e] at tt
   exact⟨p2,p3,(j7 tt).trans rfl,NI2⟩
 have m4:vn G4 G4=some G4:=by rw[<-hG];rfl
 have m5:vn G5 G5=some G5:=by rw[<-hP];rfl
 obtain⟨lr,a4,b4,hlr,B4,er⟩:=vy h4 h5 B3 (by omega) (.v (nI c)) (.v W) G4 G5 .no l0 l1 r0 r1 0 l0 r0 (λs hs=>by
  simp only[List.mem_cons,List.not_mem_nil,or_false] at hs;rcases hs with rfl|rfl|rfl|rfl|rfl
  ·rfl
  ·rfl
  ·exact m4
  ·exact m5
  ·rfl) (λbg t=>rfl) (λbg t=>rfl) NI3.ha NI3.hp NI3.ap
 have q10:=(jX (i:=8) er).trans (show Out.nx _=Out.nx (eO (aG a4 b4) n [.v (nI c),.v W,G4,G5,.v (.lst ([l0,l1].map nI)),.v (.lst ([r0,r1].map nI)),.v (.lst (lr.map nI)),.no,.no,.no,.no,.no]) from rfl)
 obtain⟨lx,a5,b5,hlx,B5,ex⟩:=vy h4 h5 B4 (by omega) (.v (nI c)) (.v W) G4 G5 (.v (.lst (lr.map nI))) l0 l1 r0 r1 1 l1 r1 (λs hs=>by
  simp only[List.mem_cons,List.not_mem_nil,or_false] at hs;rcases hs with rfl|rfl|rfl|rfl|rfl
  ·rfl
  ·rfl
  ·exact m4
  ·exact m5
  ·rfl) (λbg t=>rfl) (λbg t=>rfl) NI3.hb NI3.hq NI3.bq
 have q11:=(Bm (i:=9) ex).trans (show Out.nx _=Out.nx (eO (aG a5 b5) n [.v (nI c),.v W,G4,G5,.v (.lst ([l0,l1].map nI)),.v (.lst ([r0,r1].map nI)),.v (.lst (lr.map nI)),.own (lx.map nI),.no,.no,.no,.no]) from rfl)
 obtain⟨lx',s10,s11,hlx',e12⟩:=tR h4 h5 (aG a5 b5) (.v (nI c)) (.v W) G4 G5 (.v (.lst ([l0,l1].map nI))) (.v (.lst ([r0,r1].map nI))) lr hlr (n-2) 0 lx .no .no (by omega) hlx
 let S:Sl->Sl->aF:=λs12 s13=>eO (aG a5 b5) n [.v (nI c),.v W,G4,G5,.v (.lst ([l0,l1].map nI)),.v (.lst ([r0,r1].map nI)),.v (.lst (lr.map nI)),.own (lx'.map nI),s10,s11,s12,s13]
 have sb:ak eT (ah 1) (aA (.int 2)) (eO (aG a5 b5) n [.v (nI c),.v W,G4,G5,.v (.lst ([l0,l1].map nI)),.v (.lst ([r0,r1].map nI)),.v (.lst (lr.map nI)),.own (lx.map nI),.no,.no,.no,.no])=some (nI (n-2)):=by
  refine(ar (x:=nI n) (y:=.int 2) rfl rfl).trans ((jv _ _).trans ?_)
  show some (D.int _)=some (D.int _);congr 2
  omega
 have q12:dn (bL (cN (aa (ak eT (ah 1) (aA (.int 2))) (ai)))) (gN 10) (aB (aQ 11 (ak bj (ak aS (ah 10) (aA (.int 1))) (ak eT (ah 1) (aA (.int 2)))))
  (cM (bc (ak kj (ak aP (cU 9) (ah 10)) (ak aP (ah 8) (ah 10)))) (cv (gT 2 (eU (bX 9 (ah 10)) (eU (bX 9 (ah 11)) (jI)))) (pu (cw (aa (ak aP (cU 9) (ah 11)) (aa (ak aP (cU 9) (ah 10)) (ai)))))) (skip))) (eO (aG a5 b5) n [.v (nI c),.v W,G4,G5,.v (.lst ([l0,l1].map nI)),.v (.lst ([r0,r1].map nI)),.v (.lst (lr.map nI)),.own (lx.map nI),.no,.no,.no,.no])=.nx (S .no .no):=
  (cK (ds:=(List.range' 0 (n-2)).map nI) (br ((fP (n:=n-2) (av sb rfl) (by omega)).trans (by rw[List.range_eq_range'])))).trans e12
 have q13:aQ 12 (ak gz (ak gz (fu (ah 8) jd (gF (ah 2))) (cg (aa (ak aP (ah 6) (aA (.int 0))) (aa (ak aP (ah 7) (aA (.int 0))) (ai))))) (fu (ah 8) (gF (ah 2)) jd)) (S .no .no)=.nx (S (.v (.lst ((lr.take c++[l0,r0]++lr.drop c).map nI))) .no):=by
  refine(aV ((ar ((ar (qC (f:=ah 8) (l:=lr) (g:=ah 2) (a:=c) rfl rfl) (dM (ds:=[l0,r0].map nI) rfl (by simp))).trans (zR _ _ (by simp;omega))) (kS (f:=ah 8) (l:=lr) (g:=ah 2) (a:=c) rfl rfl)).trans (zR _ _ (by simp;omega)))).trans rfl
 have q14:aQ 13 (ak gz (ak gz (fu (cU 9) jd (gF (ah 2))) (cg (aa (ak aP (ah 6) (aA (.int 1))) (aa (ak aP (ah 7) (aA (.int 1))) (ai))))) (fu (cU 9) (gF (ah 2)) jd)) (S (.v (.lst ((lr.take c++[l0,r0]++lr.drop c).map nI))) .no)=.nx (S (.v (.lst ((lr.take c++[l0,r0]++lr.drop c).map nI))) (.v (.lst ((lx'.take c++[l1,r1]++lx'.drop c).map nI)))):=by
  refine(aV ((ar ((ar (qC (f:=cU 9) (l:=lx') (g:=ah 2) (a:=c) rfl rfl) (dM (ds:=[l1,r1].map nI) rfl (by simp))).trans (zR _ _ (by simp;omega))) (kS (f:=cU 9) (l:=lx') (g:=ah 2) (a:=c) rfl rfl)).trans (zR _ _ (by simp;omega)))).trans rfl
 obtain⟨z1,z2,z3⟩:=tS h4 h5 lr c l0 r0 (by omega)
 obtain⟨y1,y2,y3⟩:=tS h4 h5 lx' c l1 r1 (by omega)
 refine⟨lr.take c++[l0,r0]++lr.drop c,lx'.take c++[l1,r1]++lx'.drop c,c,aG a5 b5,?_,⟨_,_,_,B5,by omega,rfl⟩,by rw[z1,hlr];omega,by rw[y1,hlx'];omega,hc,by rw[z2,z3,y2,y3];exact NI3⟩
 subst hG hP;unfold bT uZ ic;rw[ay q1,ay q2,ay q3,ay q4,ay q5,ay q6,ay q7,ay q8,ay q9,ay q10,ay q11,ay q12,ay q13,ay q14];rfl
end
def j6(l:List Nat)(c:Nat):List Nat:=l.take c++[l.getD (c+1) 0,l.getD c 0]++l.drop (c+2)
theorem wk {n c:Nat}{l:List Nat}(hl:l.length=n)(hc:c+1<n):(j6 l c).length=n/\(j6 l c).getD c 0=l.getD (c+1) 0/\(j6 l c).getD (c+1) 0=l.getD c 0:=by
 have e:(l.take c).length=c:=by rw[List.length_take];omega
 unfold j6;refine⟨by simp;omega,?_,?_⟩
 ·rw[List.getD_eq_getElem?_getD,List.append_assoc,List.getElem?_append_right (by omega),e,Nat.sub_self];rfl
 ·rw[List.getD_eq_getElem?_getD (l:=l.take c++_++_),List.append_assoc,List.getElem?_append_right (by omega),e,show c+1-c=1 by omega];rfl
theorem Cg {n:Nat}{r x:List Nat}{c:Nat}(hr:r.length=n)(hx:x.length=n)(hc:c+1<n)(hn:n<=8):dW [fJ r x,nI c]=some (fJ (j6 r c) (j6 x c)):=by
 refine jw (kd:=.s) (n:=4) (t:=gY) ?_
 unfold gY;have q1:fX 2 (cg (ai)) (ii 4 [fJ r x,nI c])=.nx [.v (fJ r x),.v (nI c),.own [],.no]:=(iJ (dM (ds:=[]) rfl (by simp))).trans rfl
 have one: ∀(l:List Nat) (F:List D),l.length=n->F.length<=2->ca (aN 2 1 gG (bL (aa (ak ka (ak ka (m6 (ah 3) jd (gF (ah 1))) (cw (aa (ak aP (ah 3) (ak aS (ah 1) (aA (.int 1)))) (aa (ak aP (ah 3) (ah 1)) (ai))))) (m6 (ah 3) (gF (ak aS (ah 1) (aA (.int 2)))) jd)) (ai)))) [.v (fJ r x),.v (nI c),.own F,.v (ax l)]=.nx [.v (fJ r x),.v (nI c),.own (F++[ax (j6 l c)]),.v (ax l)]:=λl F hl hF=>by
  let ρ:aF:=[.v (fJ r x),.v (nI c),.own F,.v (ax l)]
  have s1:m6 (ah 3) jd (gF (ah 1)) ρ=some (.tup ((l.take c).map nI)):=by
   unfold m6;rw[show ah 3 ρ=some (.tup (l.map nI)) from rfl,Option.bind_some];show(if jk (l.map nI) none (some (c:Int))=false then some (D.tup (iz (l.map nI) none (some (c:Int)))) else none)=_
   rw[if_pos,u4];unfold jk;rw[HT.sIx_nat,List.length_map,Bool.and_eq_false_iff];exact .inr (decide_eq_false (by omega))
  have a2:ak aS (ah 1) (aA (.int 2)) ρ=some (nI (c+2)):=(ar (x:=nI c) (y:=.int 2) rfl rfl).trans (Am c 2)
  have s2:m6 (ah 3) (gF (ak aS (ah 1) (aA (.int 2)))) jd ρ=some (.tup ((l.drop (c+2)).map nI)):=by
   unfold m6 gF;rw[show ah 3 ρ=some (.tup (l.map nI)) from rfl,Option.bind_some,a2];show(if jk (l.map nI) (some ((c+2:Nat):Int)) none=false then some (D.tup (iz (l.map nI) (some ((c+2:Nat):Int)) none)) else none)=_
   rw[if_pos,r8];unfold jk;rw[HT.sIx_nat,List.length_map,Bool.and_eq_false_iff];exact .inl (decide_eq_false (by omega))
  have cat: ∀xs ys:List D,xs.length+ys.length<=900->ka (.tup xs) (.tup ys)=some (.tup (xs++ys)):=λxs ys h=>if_pos (Nat.le_trans h (by decide))
  have m1:cw (aa (ak aP (ah 3) (ak aS (ah 1) (aA (.int 1)))) (aa (ak aP (ah 3) (ah 1)) (ai))) ρ=some (.tup ([l.getD (c+1) 0,l.getD c 0].map nI)):=
   cI (av ((ar (x:=ax l) rfl ((ar (x:=nI c) (y:=.int 1) rfl rfl).trans (lM c))).trans (cA (by omega))) (av ((ar (x:=ax l) (y:=nI c) rfl rfl).trans (cA (by omega))) rfl)) (by simp)
  have e:ak ka (ak ka (m6 (ah 3) jd (gF (ah 1))) (cw (aa (ak aP (ah 3) (ak aS (ah 1) (aA (.int 1)))) (aa (ak aP (ah 3) (ah 1)) (ai))))) (m6 (ah 3) (gF (ak aS (ah 1) (aA (.int 2)))) jd) ρ=some (ax (j6 l c)):=by
   refine(ar ((ar s1 m1).trans (cat _ _ (by simp;omega))) s2).trans ((cat _ _ (by simp;omega)).trans ?_)
   unfold ax j6;rw[List.map_append,List.map_append]
  exact(oG (i:=2) (b0:=F) (bs:=F) (d:=ax (j6 l c)) rfl (br (av e rfl)) rfl (by omega)).trans rfl
 refine⟨_,(ay q1).trans ((ay ((cK (ds:=[ax r,ax x]) (br (zY rfl))).trans ((cb (ρ1:=[.v (fJ r x),.v (nI c),.own [],.v (ax r)]) rfl (one r [] hr (by simp))).trans ((cb (ρ1:=[.v (fJ r x),.v (nI c),.own [ax (j6 r c)],.v (ax x)]) rfl (one x [ax (j6 r c)] hx (by simp))).trans rfl)))).trans (bC ((bU (ds:=[.lst [ax (j6 r c),ax (j6 x c)]]) rfl).trans rfl)))⟩
theorem zt {p q:FT}{ρ:aF}{a b:Bool}(h1:p ρ=some a)(h2:q ρ=some b):ft p q ρ=some (a&&b):=nn h1 (λz=>by rw[z,Bool.true_and];exact h2) (λz=>by rw[z];rfl)
theorem y9 {n:Nat}{S:i9}(h:Ln n S){c:Nat}(hc:c<n)(y:Nat):dN [bd S,nI c,nI y]=some (.bl (lK S c y)):=by
 apply bZ (kd:=.s) (n:=3) (t:=iP)
 unfold iP;refine bC (ko ?_)
 have e:lK S c y=(decide (S.1.getD c 0=y)||decide (S.2.getD c 0=y)):=by
  unfold lK;rw[Bool.eq_iff_iff,Bool.or_eq_true,decide_eq_true_eq,decide_eq_true_eq,decide_eq_true_eq];exact or_congr eq_comm eq_comm
 rw[e];exact vi (bn ((ar ((ar (x:=ax S.1) (y:=nI c) rfl rfl).trans (cA (by rw[h.1];exact hc))) (y:=nI y) rfl).trans (qX _ _))) (bn ((ar ((ar (x:=ax S.2) (y:=nI c) rfl rfl).trans (cA (by rw[h.2];exact hc))) (y:=nI y) rfl).trans (qX _ _)))
theorem Hy {f g:FE}{ρ:aF}{a c:Nat}(h1:f ρ=some (nI a))(h2:g ρ=some (nI c)):bc (ak kj f (ak aS g (aA (.int 1)))) ρ=some (decide (a=c+1)):=bn ((ar h1 ((ar h2 (y:=.int 1) rfl).trans (lM c))).trans (qX _ _))
theorem Ii {f g:FE}{ρ:aF}{a c:Nat}(h1:f ρ=some (nI a))(h2:g ρ=some (nI c)):bc (ak kj f g) ρ=some (decide (a=c)):=bn ((ar h1 h2).trans (qX _ _))
theorem GK {f g:FE}{ρ:aF}{a c:Nat}(h1:f ρ=some (nI a))(h2:g ρ=some (nI c)):bc (ak Az f g) ρ=some (decide (c<=a)):=bn ((ar h1 h2).trans ((qH _ _).trans (by congr 2;rw[Bool.eq_iff_iff];simp)))
def GV(sd f g col h:Nat):Bool:=decide (col=sd)&&(decide (f<h)&&decide (h<=g))
def qM(S O:i9)(sd f g col h:Nat):i9:=if GV sd f g col h=true then O else S
theorem FJ {n:Nat}{S O:i9}(hS:Ln n S)(hO:Ln n O)(sd f g col h:Nat):Ln n (qM S O sd f g col h):=by unfold qM;split;exact hO;exact hS
def xy:FS:=aB (aQ 14 (ah 0))
 (aB (cM (ft (bc (ak kj (ah 12) (ah 10))) (bc (ub rR ye (ah 8) (ah 13) (ah 9)))) (aQ 14 (ah 1)) (skip))
 (cM (dI (ao (nF 3 dN) (aa (ah 14) (aa (ah 12) (aa (ak bj (ak aS (ak aP (ah 3) (ah 4)) (ah 13)) (ah 6)) (ai)))))) (aY (aA (.bl false))) (skip)))
def BI:FS:=aB (aQ 12 (ak bj (ak aS (ah 4) (ah 11)) (ah 6)))
 (aB (cM (ft (bc (ak Hg (ah 11) (aA (.int 0)))) (bc (ak rR (ak bj (ak eT (ak aP (ah 3) (ah 12)) (ak aP (ah 3) (ah 4))) (ah 6)) (ah 7)))) (aY (aA (.bl false))) (skip))
 (dn (bL (cN (aa (ah 7) (ai)))) (gN 13) xy))
def vR:FS:=aB (cM (rC (bc (ak Az (ah 8) (ah 9))) (bc (ak Az (ah 9) (ah 7)))) (aY (aA (.bl false))) (skip))
 (aB (dn (bL (cN (aa (ak bj (ak eT (ah 5) (ah 4)) (ah 6)) (ai)))) (gN 11) BI) (aY (aA (.bl true))))
theorem BX {n:Nat}{S O:i9}{o:List Nat}{a b c f g sd:Nat}(h:0<n)(hn:n<=8)(hS:Ln n S)(hO:Ln n O)(ho:o.length=n)(ha:a<n)(hb:b<n):
 ∃ρ',vR [.v (bd S),.v (bd O),.v (nI c),.v (ax o),.v (nI a),.v (nI b),.v (nI n),.v (nI (((o.getD b 0:Int) -o.getD a 0) % n).toNat),.v (nI f),.v (nI g),.v (nI sd),.no,.no,.no,.no]=.rt (.bl ((decide (f<g)&&decide (g<(((o.getD b 0:Int) -o.getD a 0) % n).toNat))&&jS n o a b (qM S O sd f g))) ρ':=by
 have mh:=Ba ((o.getD b 0:Int) -o.getD a 0) h
 have mk:=Ba ((b:Int) -a) h
 have ehi:((o.getD b 0:Int) -o.getD a 0) % n=((((o.getD b 0:Int) -o.getD a 0) % n).toNat:Int):=mh.2.symm
 unfold jS uN
 let hi:=(((o.getD b 0:Int) -o.getD a 0) % n).toNat
 have hhi:hi<n:=mh.1
 let st:Sl->Sl->Sl->Sl->aF:=λs9 s10 s11 s12=>[.v (bd S),.v (bd O),.v (nI c),.v (ax o),.v (nI a),.v (nI b),.v (nI n),.v (nI hi),.v (nI f),.v (nI g),.v (nI sd),s9,s10,s11,s12]
 have low: ∀ {i:Nat},i<n-> ∀(ρ:aF) (f:FE),f ρ=some (nI i)->ah 3 ρ=some (ax o)->ak aP (ah 3) f ρ=some (nI (o.getD i 0)):=λ{i} hi ρ f h1 h2=>(ar h2 h1).trans (cA (by omega))
 have inn: ∀k,((List.range hi).all (λh'=> !lK (qM S O sd f g ((a+k) % n) h') ((a+k) % n) ((o.getD a 0+h') % n))=true-> ∀s11 s12,∃ρ',cF (gN 13) xy ((List.range hi).map nI) (st (.v (nI k)) (.v (nI ((a+k) % n))) s11 s12)=.nx ρ'/\ ∃s11 s12,ρ'=st (.v (nI k)) (.v (nI ((a+k) % n))) s11 s12)/\
  ((List.range hi).all (λh'=> !lK (qM S O sd f g ((a+k) % n) h') ((a+k) % n) ((o.getD a 0+h') % n))=false-> ∀s11 s12,∃ρ',cF (gN 13) xy ((List.range hi).map nI) (st (.v (nI k)) (.v (nI ((a+k) % n))) s11 s12)=.rt (.bl false) ρ'):=by
  intro k;have hcol:(a+k) % n<n:=Nat.mod_lt _ h
  generalize (a+k) % n=col at hcol
  have key:=λs11 s12=>oo (g:=gN 13) (h:=nI) (ok:=λh'=> !lK (qM S O sd f g col h') col ((o.getD a 0+h') % n)) (d:=.bl false) (b:=xy) (P:=λρ=> ∃s11 s12,ρ=st (.v (nI k)) (.v (nI col)) s11 s12) (List.range hi) (λh' _ ρ hρ=>by
   obtain⟨s11,s12,rfl⟩:=hρ
   refine⟨st (.v (nI k)) (.v (nI col)) (.v (nI h')) s12,rfl,?_⟩
   have q1:aQ 14 (ah 0) (st (.v (nI k)) (.v (nI col)) (.v (nI h')) s12)=.nx (st (.v (nI k)) (.v (nI col)) (.v (nI h')) (.v (bd S))):=(aV rfl).trans rfl
   have w3:bc (ub rR ye (ah 8) (ah 13) (ah 9)) (st (.v (nI k)) (.v (nI col)) (.v (nI h')) (.v (bd S)))=some (decide (f<h')&&decide (h'<=g)):=by
    refine bn (rj (x:=nI f) (y:=nI h') (z:=nI g) rfl rfl ((jY _ _).trans (by rw[show decide ((f:Int)<h')=decide (f<h') by rw[Bool.eq_iff_iff];simp])) rfl ((BK _ _).trans (by rw[show decide ((h':Int)<=g)=decide (h'<=g) by rw[Bool.eq_iff_iff];simp])))
   have w:ft (bc (ak kj (ah 12) (ah 10))) (bc (ub rR ye (ah 8) (ah 13) (ah 9))) (st (.v (nI k)) (.v (nI col)) (.v (nI h')) (.v (bd S)))=some (GV sd f g col h'):=zt (Ii rfl rfl) w3
   have q2:cM (ft (bc (ak kj (ah 12) (ah 10))) (bc (ub rR ye (ah 8) (ah 13) (ah 9)))) (aQ 14 (ah 1)) (skip) (st (.v (nI k)) (.v (nI col)) (.v (nI h')) (.v (bd S)))=.nx (st (.v (nI k)) (.v (nI col)) (.v (nI h')) (.v (bd (qM S O sd f g col h')))):=by
    unfold qM;cases e:GV sd f g col h' with
    |true=>rw[e] at w;rw[du w,if_pos rfl];rfl
    |false=>rw[e] at w;rw[dz w,if_neg (by decide)]
   have m:dI (ao (nF 3 dN) (aa (ah 14) (aa (ah 12) (aa (ak bj (ak aS (ak aP (ah 3) (ah 4)) (ah 13)) (ah 6)) (ai))))) (st (.v (nI k)) (.v (nI col)) (.v (nI h')) (.v (bd (qM S O sd f g col h'))))=some (lK (qM S O sd f g col h') col ((o.getD a 0+h') % n)):=
    fT ((bQ (ds:=[bd (qM S O sd f g col h'),nI col,nI ((o.getD a 0+h') % n)]) (av rfl (av rfl (av ((ar ((ar (low ha _ _ rfl rfl) (y:=nI h') rfl).trans (Am _ _)) (y:=nI n) rfl).trans (AM h)) rfl))) rfl).trans (y9 (FJ hS hO _ _ _ _ _) hcol _))
   refine⟨λe=>?_,λe=>?_⟩
   ·have e:lK (qM S O sd f g col h') col ((o.getD a 0+h') % n)=false:=by simpa using e
    rw[e] at m;exact⟨_,(ay q1).trans ((ay q2).trans (dz m)),_,_,rfl⟩
   ·have e:lK (qM S O sd f g col h') col ((o.getD a 0+h') % n)=true:=by simpa using e
    rw[e] at m;exact⟨_,(ay q1).trans ((ay q2).trans ((du m).trans rfl))⟩) (st (.v (nI k)) (.v (nI col)) s11 s12) ⟨_,_,rfl⟩
  exact⟨λe s11 s12=>(key s11 s12).1 e,λe s11 s12=>(key s11 s12).2 e⟩
 have out:=oo (g:=gN 11) (h:=nI) (ok:=λk=> !(decide (0<k)&&rH n (o.getD a 0) (o.getD b 0) (o.getD ((a+k) % n) 0))&&(List.range hi).all λh'=> !lK (qM S O sd f g ((a+k) % n) h') ((a+k) % n) ((o.getD a 0+h') % n)) (d:=.bl false) (b:=BI) (P:=λρ=> ∃s9 s10 s11 s12,ρ=st s9 s10 s11 s12) (List.range (((b:Int) -a) % n).toNat) (λk _ ρ hρ=>by
  obtain⟨s9,s10,s11,s12,rfl⟩:=hρ
  refine⟨st (.v (nI k)) s10 s11 s12,rfl,?_⟩
  have hcol:(a+k) % n<n:=Nat.mod_lt _ h
  let ρ2:=st (.v (nI k)) (.v (nI ((a+k) % n))) s11 s12
  have q1:aQ 12 (ak bj (ak aS (ah 4) (ah 11)) (ah 6)) (st (.v (nI k)) s10 s11 s12)=.nx ρ2:=(aV ((ar ((ar (x:=nI a) (y:=nI k) rfl rfl).trans (Am _ _)) (y:=nI n) rfl).trans (AM h))).trans rfl
  have c1:bc (ak rR (ak bj (ak eT (ak aP (ah 3) (ah 12)) (ak aP (ah 3) (ah 4))) (ah 6)) (ah 7)) ρ2=some (rH n (o.getD a 0) (o.getD b 0) (o.getD ((a+k) % n) 0)):=by
   refine bn ((ar ((ar ((ar (low hcol _ _ rfl rfl) (low ha _ _ rfl rfl)).trans (xW _ _)) (y:=nI n) rfl).trans (dc (by omega))) (y:=nI hi) rfl).trans ((jY _ _).trans ?_))
   unfold rH;rw[ehi]
  have g1:bc (ak Hg (ah 11) (aA (.int 0))) ρ2=some (decide (0<k)):=bn ((ar (x:=nI k) (y:=.int 0) rfl rfl).trans ((C6 _ _).trans (by congr 2;rw[Bool.eq_iff_iff];simp)))
  have a1:=zt g1 c1
  have fo: ∀ {o':Out},cF (gN 13) xy ((List.range hi).map nI) ρ2=o'->dn (bL (cN (aa (ah 7) (ai)))) (gN 13) xy ρ2=o':=λ{o'} e=>(cK (br (fP (n:=hi) (av rfl rfl) (by omega)))).trans e
  refine⟨λe=>?_,λe=>?_⟩
  ·rw[Bool.and_eq_true,Bool.not_eq_true'] at e
   rw[e.1] at a1;obtain⟨ρ',e1,s11',s12',rfl⟩:=(inn k).1 e.2 s11 s12
   exact⟨_,(ay q1).trans ((ay (dz a1)).trans (fo e1)),_,_,_,_,rfl⟩
  ·cases e1:(decide (0<k)&&rH n (o.getD a 0) (o.getD b 0) (o.getD ((a+k) % n) 0)) with
   |true=>
    rw[e1] at a1;exact⟨_,(ay q1).trans (gW ((du a1).trans rfl))⟩
   |false=>
    rw[e1] at a1 e;rw[Bool.not_false,Bool.true_and] at e;obtain⟨ρ',e2⟩:=(inn k).2 e s11 s12
    exact⟨_,(ay q1).trans ((ay (dz a1)).trans (fo e2))⟩) (st .no .no .no .no) ⟨_,_,_,_,rfl⟩
 have gg:rC (bc (ak Az (ah 8) (ah 9))) (bc (ak Az (ah 9) (ah 7))) (st .no .no .no .no)=some (decide (g<=f)||decide (hi<=g)):=vi (GK rfl rfl) (GK rfl rfl)
 have fo: ∀ {o':Out},cF (gN 11) BI ((List.range (((b:Int) -a) % n).toNat).map nI) (st .no .no .no .no)=o'->dn (bL (cN (aa (ak bj (ak eT (ah 5) (ah 4)) (ah 6)) (ai)))) (gN 11) BI (st .no .no .no .no)=o':=λ{o'} e=>
  (cK (br (fP (n:=(((b:Int) -a) % n).toNat) (av ((ar ((ar (x:=nI b) (y:=nI a) rfl rfl).trans (xW _ _)) (y:=nI n) rfl).trans (zW h)) rfl) (by omega)))).trans e
 unfold vR
 by_cases c1:f<g/\g<hi
 ·rw[decide_eq_false (show¬g<=f by omega),decide_eq_false (show¬hi<=g by omega)] at gg
  have c2:decide (g<(((o.getD b 0:Int) -o.getD a 0) % n).toNat)=true:=decide_eq_true c1.2
  rw[decide_eq_true c1.1,c2,Bool.true_and,Bool.true_and]
  generalize hok:((List.range (((b:Int) -a) % n).toNat).all λk=> !(decide (0<k)&&rH n (o.getD a 0) (o.getD b 0) (o.getD ((a+k) % n) 0))&&(List.range (((o.getD b 0:Int) -o.getD a 0) % n).toNat).all λh'=> !lK (qM S O sd f g ((a+k) % n) h') ((a+k) % n) ((o.getD a 0+h') % n))=v
  cases v with
  |true=>
   obtain⟨ρ',e,_⟩:=out.1 hok
   exact⟨ρ',(ay (dz gg)).trans ((ay (fo e)).trans rfl)⟩
  |false=>
   obtain⟨ρ',e⟩:=out.2 hok
   exact⟨ρ',(ay (dz gg)).trans (gW (fo e))⟩
 ·have g2:(decide (g<=f)||decide (hi<=g))=true:=by rw[Bool.or_eq_true,decide_eq_true_eq,decide_eq_true_eq];omega
  rw[g2] at gg;have c2:(decide (f<g)&&decide (g<(((o.getD b 0:Int) -o.getD a 0) % n).toNat))=false:=by
   rw[Bool.and_eq_false_iff,decide_eq_false_iff_not,decide_eq_false_iff_not];show¬f<g\/ ¬g<hi;omega
  rw[c2,Bool.false_and];exact⟨_,gW ((du gg).trans rfl)⟩
theorem AH {n:Nat}{S O:i9}{o:List Nat}{a b c T U:Nat}(h:0<n)(hn:n<=8)(hS:Ln n S)(hO:Ln n O)(ho:o.length=n)(ha:a<n)(hb:b<n)(hT:cD [bd S,nI c]=some (nI T))(hU:cD [bd O,nI c]=some (nI U)){f g sd:Nat}
 (hx:(b≠c+1/\f=(((T:Int) -o.getD a 0) % n).toNat/\g=(((U:Int) -o.getD a 0) % n).toNat/\sd=c+1)\/(b=c+1/\f=(((U:Int) -o.getD a 0) % n).toNat/\g=(((T:Int) -o.getD a 0) % n).toNat/\sd=c)):
 bM [bd S,bd O,nI c,ax o,nI a,nI b]=some (.bl ((decide (f<g)&&decide (g<(((o.getD b 0:Int) -o.getD a 0) % n).toNat))&&jS n o a b (qM S O sd f g))):=by
 let hi:=(((o.getD b 0:Int) -o.getD a 0) % n).toNat
 have low: ∀ {i:Nat},i<n-> ∀(ρ:aF) (f:FE),f ρ=some (nI i)->ah 3 ρ=some (ax o)->ak aP (ah 3) f ρ=some (nI (o.getD i 0)):=λ{i} hi ρ f h1 h2=>(ar h2 h1).trans (cA (by omega))
 refine jw (kd:=.s) (n:=15) (t:=jF) ?_
 have q6:aQ 6 (ao cV (aa (ah 3) (ai))) (ii 15 [bd S,bd O,nI c,ax o,nI a,nI b])=.nx [.v (bd S),.v (bd O),.v (nI c),.v (ax o),.v (nI a),.v (nI b),.v (nI n),.no,.no,.no,.no,.no,.no,.no,.no]:=(aV (d:=nI n) (by rw[gw o _ _ rfl,ho])).trans rfl
 have q7:aQ 7 (ak bj (ak eT (ak aP (ah 3) (ah 5)) (ak aP (ah 3) (ah 4))) (ah 6)) [.v (bd S),.v (bd O),.v (nI c),.v (ax o),.v (nI a),.v (nI b),.v (nI n),.no,.no,.no,.no,.no,.no,.no,.no]=.nx [.v (bd S),.v (bd O),.v (nI c),.v (ax o),.v (nI a),.v (nI b),.v (nI n),.v (nI hi),.no,.no,.no,.no,.no,.no,.no]:=
  (aV ((ar ((ar (low hb _ _ rfl rfl) (low ha _ _ rfl rfl)).trans (xW _ _)) (y:=nI n) rfl).trans (zW h))).trans rfl
 have q8:aQ 8 (ak bj (ak eT (ao (nF 2 cD) (aa (ah 0) (aa (ah 2) (ai)))) (ak aP (ah 3) (ah 4))) (ah 6)) [.v (bd S),.v (bd O),.v (nI c),.v (ax o),.v (nI a),.v (nI b),.v (nI n),.v (nI hi),.no,.no,.no,.no,.no,.no,.no]=.nx [.v (bd S),.v (bd O),.v (nI c),.v (ax o),.v (nI a),.v (nI b),.v (nI n),.v (nI hi),.v (nI (((T:Int) -o.getD a 0) % n).toNat),.no,.no,.no,.no,.no,.no]:=
  (aV ((ar ((ar ((bQ (ds:=[bd S,nI c]) rfl rfl).trans hT) (low ha _ _ rfl rfl)).trans (xW _ _)) (y:=nI n) rfl).trans (zW h))).trans rfl
 have q9:aQ 9 (ak bj (ak eT (ao (nF 2 cD) (aa (ah 1) (aa (ah 2) (ai)))) (ak aP (ah 3) (ah 4))) (ah 6)) [.v (bd S),.v (bd O),.v (nI c),.v (ax o),.v (nI a),.v (nI b),.v (nI n),.v (nI hi),.v (nI (((T:Int) -o.getD a 0) % n).toNat),.no,.no,.no,.no,.no,.no]=.nx [.v (bd S),.v (bd O),.v (nI c),.v (ax o),.v (nI a),.v (nI b),.v (nI n),.v (nI hi),.v (nI (((T:Int) -o.getD a 0) % n).toNat),.v (nI (((U:Int) -o.getD a 0) % n).toNat),.no,.no,.no,.no,.no]:=
  (aV ((ar ((ar ((bQ (ds:=[bd O,nI c]) rfl rfl).trans hU) (low ha _ _ rfl rfl)).trans (xW _ _)) (y:=nI n) rfl).trans (zW h))).trans rfl
 let st:Nat->Nat->Nat->aF:=λf g sd=>[.v (bd S),.v (bd O),.v (nI c),.v (ax o),.v (nI a),.v (nI b),.v (nI n),.v (nI hi),.v (nI f),.v (nI g),.v (nI sd),.no,.no,.no,.no]
 have q10:aQ 10 (ak aS (ah 2) (aA (.int 1))) [.v (bd S),.v (bd O),.v (nI c),.v (ax o),.v (nI a),.v (nI b),.v (nI n),.v (nI hi),.v (nI (((T:Int) -o.getD a 0) % n).toNat),.v (nI (((U:Int) -o.getD a 0) % n).toNat),.no,.no,.no,.no,.no]=.nx (st (((T:Int) -o.getD a 0) % n).toNat (((U:Int) -o.getD a 0) % n).toNat (c+1)):=(aV ((ar (x:=nI c) (y:=.int 1) rfl rfl).trans (lM c))).trans rfl
 have w:bc (ak kj (ah 5) (ak aS (ah 2) (aA (.int 1)))) (st (((T:Int) -o.getD a 0) % n).toNat (((U:Int) -o.getD a 0) % n).toNat (c+1))=some (decide (b=c+1)):=Hy rfl rfl
 have q11:cM (bc (ak kj (ah 5) (ak aS (ah 2) (aA (.int 1))))) (aB (vd 8 9 (aa (ah 9) (aa (ah 8) (ai)))) (aQ 10 (ah 2))) (skip) (st (((T:Int) -o.getD a 0) % n).toNat (((U:Int) -o.getD a 0) % n).toNat (c+1))=.nx (st f g sd):=by
  rcases hx with⟨e,rfl,rfl,rfl⟩|⟨e,rfl,rfl,rfl⟩
  ·rw[decide_eq_false e] at w
   rw[dz w]
  ·rw[decide_eq_true e] at w
   rw[du w];exact(ay (ρ':=st (((U:Int) -o.getD a 0) % n).toNat (((T:Int) -o.getD a 0) % n).toNat (sd+1)) ((AF rfl).trans rfl)).trans ((aV (d:=nI sd) rfl).trans rfl)
 obtain⟨ρ',e⟩:=BX (c:=c) (f:=f) (g:=g) (sd:=sd) h hn hS hO ho ha hb
 refine⟨ρ',?_⟩
 unfold jF;exact(ay q6).trans ((ay q7).trans ((ay q8).trans ((ay q9).trans ((ay q10).trans ((ay q11).trans e)))))
theorem Ev: ∀n:Nat,n<=5-> ∀s:Nat,s<n-> ∀e:Nat,e<n-> ∀p:Nat,p<n-> ∀q:Nat,q<n->decide ((dU n s e).filter (λy=>decide (y∈[p,q]))=[p,q])=(decide ((((p:Int) -s) % n).toNat<(((q:Int) -s) % n).toNat)&&decide ((((q:Int) -s) % n).toNat<(((e:Int) -s) % n).toNat)):=by decide+kernel
def Ft(n s e p q h:Nat):Bool:= !decide ((((p:Int) -s) % n).toNat<(((q:Int) -s) % n).toNat)||(!decide ((((q:Int) -s) % n).toNat<(((e:Int) -s) % n).toNat)||decide ((((dU n s e).take h).filter λy=>decide (y∈[p,q])).length=(if(((p:Int) -s) % n).toNat<h then 1 else 0)+(if(((q:Int) -s) % n).toNat<h then 1 else 0))|| !decide (h<(((e:Int) -s) % n).toNat))
theorem Cc:((List.range 6).all λn=>(List.range n).all λs=>(List.range n).all λe=>(List.range n).all λp=>(List.range n).all λq=>(List.range n).all λh=>Ft n s e p q h)=true:=by decide+kernel
theorem Cq(n:Nat)(hn:n<=5)(s:Nat)(hs:s<n)(e:Nat)(he:e<n)(p:Nat)(hp:p<n)(q:Nat)(hq:q<n)(h1:(((p:Int) -s) % n).toNat<(((q:Int) -s) % n).toNat)(h:Nat)(hh:h<(((e:Int) -s) % n).toNat)(h2:(((q:Int) -s) % n).toNat<(((e:Int) -s) % n).toNat):(((dU n s e).take h).filter λy=>decide (y∈[p,q])).length=(if(((p:Int) -s) % n).toNat<h then 1 else 0)+(if(((q:Int) -s) % n).toNat<h then 1 else 0):=by
 have hl:h<n:=by have:=Ba ((e:Int) -s) (show 0<n by omega);omega
 have k:=Cc
 have k:=List.all_eq_true.mp k n (List.mem_range.mpr (by omega))
 have k:=List.all_eq_true.mp k s (List.mem_range.mpr hs)
 have k:=List.all_eq_true.mp k e (List.mem_range.mpr he)
 have k:=List.all_eq_true.mp k p (List.mem_range.mpr hp)
 have k:=List.all_eq_true.mp k q (List.mem_range.mpr hq)
 have k:=List.all_eq_true.mp k h (List.mem_range.mpr hl)
 unfold Ft at k;rw[decide_eq_true h1,decide_eq_true h2,decide_eq_true hh,Bool.not_true,Bool.false_or,Bool.false_or,Bool.or_false] at k;exact of_decide_eq_true k
theorem rP {n:Nat}(h5:n<=5){S O:i9}{o:List Nat}(Oo:Ord n o){a b col p q:Nat}(ha:a<n)(hb:b<n)(ne:a≠b)(hp:p<n)(hq:q<n)(hcol:col∈dU n a b){f g:Nat}(hf:f=(((p:Int) -o.getD a 0) % n).toNat)(hg:g=(((q:Int) -o.getD a 0) % n).toNat):
 dO n S o a b col [S,O,S] [p,q]=((decide (f<g)&&decide (g<(((o.getD b 0:Int) -o.getD a 0) % n).toNat))&&jS n o a b (qM S O col f g)):=by
 have la:=Oo.get ha
 have lb:=Oo.get hb
 unfold dO;rw[Ev n h5 _ la _ lb p hp q hq,<-hf,<-hg]
 by_cases c1:f<g/\g<(((o.getD b 0:Int) -o.getD a 0) % n).toNat
 ·rw[decide_eq_true c1.1,decide_eq_true c1.2,Bool.true_and,Bool.true_and]
  rw[Bool.true_and];refine um Oo ha hb ne hcol (λc' h hne=>?_) λh hh=>?_
  ·unfold qM GV
   rw[decide_eq_false hne];simp
  ·rw[Cq n h5 _ la _ lb p hp q hq (by omega) h hh (by omega),<-hf,<-hg]
   unfold qM GV;rw[decide_eq_true (rfl:col=col),Bool.true_and]
   by_cases e1:f<h
   ·by_cases e2:g<h
    ·rw[if_pos e1,if_pos e2,decide_eq_true e1,decide_eq_false (show¬h<=g by omega)];simp
    ·rw[if_pos e1,if_neg e2,decide_eq_true e1,decide_eq_true (show h<=g by omega)];simp
   ·rw[if_neg e1,if_neg (show¬g<h by omega),decide_eq_false e1];simp
 ·have c2:(decide (f<g)&&decide (g<(((o.getD b 0:Int) -o.getD a 0) % n).toNat))=false:=by
   rw[Bool.and_eq_false_iff,decide_eq_false_iff_not,decide_eq_false_iff_not];omega
  rw[c2,Bool.false_and,Bool.false_and]
theorem xA {n c j:Nat}(hc:c+1<n)(hj:j<n)(ne:j≠c+1):c+1∈dU n (c+1) j:=by
 rw[jN (by omega) hc]
 refine⟨hc,?_⟩
 unfold rH;rw[decide_eq_true_eq,Int.sub_self,Int.zero_emod];have e:((j:Int) - (c+1:Nat)) % n=if c+1<=j then(j:Int) - (c+1:Nat) else(j:Int) - (c+1:Nat)+n:=by
  split
  ·exact Int.emod_eq_of_lt (by omega) (by omega)
  ·rw[<-Int.add_emod_right];exact Int.emod_eq_of_lt (by omega) (by omega)
 rw[e];split<;>omega
theorem zc {n c j:Nat}(hc:c+1<n)(hj:j<n)(ne:j≠c+1):c∈dU n j (c+1):=by
 rw[jN (by omega) hj]
 refine⟨by omega,?_⟩
 unfold rH;rw[decide_eq_true_eq];have e1:((c:Int) -j) % n=if j<=c then(c:Int) -j else(c:Int) -j+n:=by
  split
  ·exact Int.emod_eq_of_lt (by omega) (by omega)
  ·rw[<-Int.add_emod_right];exact Int.emod_eq_of_lt (by omega) (by omega)
 have e2:(((c+1:Nat):Int) -j) % n=if j<=c+1 then((c+1:Nat):Int) -j else((c+1:Nat):Int) -j+n:=by
  split
  ·exact Int.emod_eq_of_lt (by omega) (by omega)
  ·rw[<-Int.add_emod_right];exact Int.emod_eq_of_lt (by omega) (by omega)
 rw[e1,e2];split<;>split<;>omega
def zs(l:List Nat):List Int:=l.map Int.ofNat
theorem y8(l:List Nat):ax l=cW (zs l):=by unfold ax cW zs;rw[List.map_map];rfl
theorem oK(L:List (List Nat)):L.map ax=(L.map zs).map cW:=by rw[List.map_map];exact List.map_congr_left λl _=>y8 l
theorem BF(l:List Nat):gP (l.map nI)=some (zs l):=by
 have:=im (zs l)
 unfold zs at this⊢;rw[List.map_map] at this;exact this
def Aq(n:Nat)(P Q:List Nat->Nat->Bool)(i:Nat)(o:List Nat):List (List Nat):=pA n (P o) (Q o) o i
def sH(n:Nat)(P Q:List Nat->Nat->Bool)(i:Nat)(cr:List (List Nat)):List (List Int):=(cr.flatMap (Aq n P Q i)).map zs
theorem tX(P Q:Nat->Bool)(o:List Nat)(i j:Nat):(jb P Q o i j).length<=2:=by unfold jb;split<;>split<;>simp
theorem yp {P Q:Nat->Bool}{j:Nat}(h: ¬(P j=true/\Q j=true))(o:List Nat)(i:Nat):(jb P Q o i j).length<=1:=by
 unfold jb;cases e1:P j<;>cases e2:Q j<;>cases e3:decide (j≠i)<;>simp_all
theorem kX {α β:Type}(f:α->List β)(m:Nat): ∀l:List α,(∀x∈l,(f x).length<=m)->(l.flatMap f).length<=m*l.length
 | [],_=>by simp
 |x::l,h=>by
  rw[List.flatMap_cons,List.length_append,List.length_cons,Nat.mul_succ];have:=kX f m l λy hy=>h y (by simp[hy])
  have:=h x (by simp)
  omega
theorem vx {n:Nat}{P Q:List Nat->Nat->Bool}{i:Nat}{cr:List (List Nat)}(hn:n<=5)(hcl:cr.length<=8)(hPQ: ∀o∈cr,∀j,j<n-> ¬(P o j=true/\Q o j=true)):(sH n P Q i cr).length<=40:=by
 unfold sH;rw[List.length_map];have:=kX (Aq n P Q i) 5 cr λo ho=>by
  have:=kX (jb (P o) (Q o) o i) 1 (List.range n) λj hj=>yp (hPQ o ho j (List.mem_range.mp hj)) o i
  rw[List.length_range] at this;show(pA n (P o) (Q o) o i).length<=5;unfold pA;omega
 omega
theorem v9(o:List Nat)(a b:Nat):(lJ o a b).length=o.length:=by unfold lJ;simp
theorem Ah {n:Nat}{P Q:List Nat->Nat->Bool}{i:Nat}{cr:List (List Nat)}(h0:0<n)(hO: ∀o∈cr,Ord n o): ∀k∈sH n P Q i cr,k≠[]:=by
 intro k hk;unfold sH at hk;obtain⟨w,hw,rfl⟩:=List.mem_map.mp hk
 obtain⟨o,ho,hw⟩:=List.mem_flatMap.mp hw
 unfold Aq pA at hw;obtain⟨j,_,hw⟩:=List.mem_flatMap.mp hw
 have hl:w.length=n:=by
  rw[<-(hO o ho).len];unfold jb at hw;rcases List.mem_append.mp hw with q|q
  ·split at q
   ·rw[List.mem_singleton] at q;rw[q,v9]
   ·simp at q
  ·split at q
   ·rw[List.mem_singleton] at q;rw[q,v9]
   ·simp at q
 intro e;have:=congrArg List.length e
 unfold zs at this;simp at this;rw[this] at hl;simp at hl;omega
def FW:FS:=cM (ft (bc (ak lu (ah 6) (ak aS (ah 1) (aA (.int 1))))) (dI (ao (nF 6 bM) (aa (ah 0) (aa (ah 3) (aa (ah 1) (aa (ah 5) (aa (ah 7) (aa (ah 8) (ai)))))))))) (aB (fX 9 (ao mT (aa (ah 5) (ai))))
 (aB (cv (gT 2 (eU (bX 9 (ah 7)) (eU (bX 9 (ah 8)) (jI)))) (pu (cw (aa (ak aP (ah 5) (ah 8)) (aa (ak aP (ah 5) (ah 7)) (ai))))))
 (ph 4 (g9 (cU 9)) (rL (gH (bc (oa 4 (g9 (cU 9)) (aA (.bl false))))))))) (skip)
def Ee:FS:=dn (bL (de (cg (aa (cw (aa (ak aS (ah 1) (aA (.int 1))) (aa (ah 6) (ai)))) (aa (cw (aa (ah 6) (aa (ak aS (ah 1) (aA (.int 1))) (ai)))) (ai)))))) (gT 2 (eU (gN 7) (eU (gN 8) (jI)))) FW
def Gx:FS:=dn (bL (cN (aa (ao cV (aa (ah 5) (ai))) (ai)))) (gN 6) Ee
section
variable {n:Nat}{S O:i9}{c:Nat}{P Q:List Nat->Nat->Bool}(hn4:4<=n)(hn:n<=5)(hc:c+1<n)
 (hP: ∀o,Ord n o-> ∀j,j<n->j≠c+1->bM [bd S,bd O,nI c,ax o,nI (c+1),nI j]=some (.bl (P o j)))
 (hQ: ∀o,Ord n o-> ∀j,j<n->j≠c+1->bM [bd S,bd O,nI c,ax o,nI j,nI (c+1)]=some (.bl (Q o j)))
include hn4 hn hc
theorem sA(C:D){o:List Nat}(Oo:Ord n o){kvs:rG}{ks:List (List Int)}(I:PInv kvs ks)(hl:ks.length<=900){j a b:Nat}(ha:a<n)(hb:b<n){v:Bool}(hv:j≠c+1->bM [bd S,bd O,nI c,ax o,nI a,nI b]=some (.bl v))(s9:Sl):
 ∃kvs' s9',FW [.v (bd S),.v (nI c),.v C,.v (bd O),.ob (.dT kvs),.v (ax o),.v (nI j),.v (nI a),.v (nI b),s9]=.nx [.v (bd S),.v (nI c),.v C,.v (bd O),.ob (.dT kvs'),.v (ax o),.v (nI j),.v (nI a),.v (nI b),s9']/\PInv kvs' (ks++(if(decide (j≠c+1)&&v)=true then [lJ o a b] else []).map zs):=by
 have ol:=Oo.len
 let st:rG->Sl->aF:=λkvs s9=>[.v (bd S),.v (nI c),.v C,.v (bd O),.ob (.dT kvs),.v (ax o),.v (nI j),.v (nI a),.v (nI b),s9]
 have ne:bc (ak lu (ah 6) (ak aS (ah 1) (aA (.int 1)))) (st kvs s9)=some (decide (j≠c+1)):=by
  refine bn ((ar (x:=nI j) rfl ((ar (x:=nI c) (y:=.int 1) rfl rfl).trans (lM c))).trans ?_)
  rw[kn (by rw[gh];omega),ji]
  congr 2
  rw[Bool.eq_iff_iff];simp
 have w:ft (bc (ak lu (ah 6) (ak aS (ah 1) (aA (.int 1))))) (dI (ao (nF 6 bM) (aa (ah 0) (aa (ah 3) (aa (ah 1) (aa (ah 5) (aa (ah 7) (aa (ah 8) (ai))))))))) (st kvs s9)=some (decide (j≠c+1)&&v):=
  nn ne (λz=>by
   rw[z,Bool.true_and];exact fT ((bQ (ds:=[bd S,bd O,nI c,ax o,nI a,nI b]) rfl rfl).trans (hv (of_decide_eq_true z)))) (λz=>by rw[z];rfl)
 cases e:(decide (j≠c+1)&&v) with
 |false=>
  rw[e] at w;refine⟨kvs,s9,dz w,?_⟩
  rw[if_neg (by decide),List.map_nil,List.append_nil];exact I
 |true=>
  rw[e] at w;have q1:fX 9 (ao mT (aa (ah 5) (ai))) (st kvs s9)=.nx (st kvs (.own (o.map nI))):=(iJ (ds:=o.map nI) rfl).trans rfl
  have q2:cv (gT 2 (eU (bX 9 (ah 7)) (eU (bX 9 (ah 8)) (jI)))) (pu (cw (aa (ak aP (ah 5) (ah 8)) (aa (ak aP (ah 5) (ah 7)) (ai))))) (st kvs (.own (o.map nI)))=.nx (st kvs (.own ((lJ o a b).map nI))):=by
   refine fU (gb (cI (av ((ar (x:=ax o) (y:=nI b) rfl rfl).trans (cA (by omega))) (av ((ar (x:=ax o) (y:=nI a) rfl rfl).trans (cA (by omega))) rfl)) (by simp))) ?_
   simp only[gT,List.length_cons,List.length_nil,eU];rw[iu (bs:=o.map nI) (j:=a) rfl rfl (by simp;omega)]
   simp only[Option.bind_some];rw[iu (bs:=(o.map nI).set a (nI (o.getD b 0))) (j:=b) rfl rfl (by simp;omega)]
   simp only[Option.bind_some,jI,kT];rfl
  have ky:g9 (cU 9) (st kvs (.own ((lJ o a b).map nI)))=some (zs (lJ o a b)):=BF _
  have vl:rL (gH (bc (oa 4 (g9 (cU 9)) (aA (.bl false))))) (st kvs (.own ((lJ o a b).map nI)))=some (.bl (match fM kvs (iK (zs (lJ o a b))) with|some (.bl b)=> !b|_=>true)):=by
   have dg:oa 4 (g9 (cU 9)) (aA (.bl false)) (st kvs (.own ((lJ o a b).map nI)))=some ((fM kvs (iK (zs (lJ o a b)))).getD (.bl false)):=by
    unfold oa;show(some kvs).bind _=_;rw[Option.bind_some,ky,Option.bind_some];rfl
   by_cases m:zs (lJ o a b)∈ks
   ·rw[I.val _ m] at dg⊢
    exact ko (iN (bn dg))
   ·rw[I.non _ m] at dg⊢
    exact ko (iN (b:=false) (bn dg))
  have q3:ph 4 (g9 (cU 9)) (rL (gH (bc (oa 4 (g9 (cU 9)) (aA (.bl false)))))) (st kvs (.own ((lJ o a b).map nI)))=.nx (st (xu kvs (zs (lJ o a b))) (.own ((lJ o a b).map nI))):=by
   unfold ph;rw[show rZ 4 (st kvs (.own ((lJ o a b).map nI)))=some kvs from rfl];dsimp only;rw[vl];dsimp only;rw[ky];dsimp only;rw[if_pos (by have:=I.len;omega)]
   rfl
  refine⟨_,_,(du w).trans ((ay q1).trans ((ay q2).trans q3)),?_⟩
  rw[if_pos rfl];exact I.step _
include hP hQ
theorem Au(C:D){o:List Nat}(Oo:Ord n o){kvs:rG}{ks:List (List Int)}(I:PInv kvs ks)(hl:ks.length<=800){j:Nat}(hj:j<n)(s7 s8 s9:Sl):
 ∃kvs' s7' s8' s9',Ee [.v (bd S),.v (nI c),.v C,.v (bd O),.ob (.dT kvs),.v (ax o),.v (nI j),s7,s8,s9]=.nx [.v (bd S),.v (nI c),.v C,.v (bd O),.ob (.dT kvs'),.v (ax o),.v (nI j),s7',s8',s9']/\PInv kvs' (ks++(jb (P o) (Q o) o (c+1) j).map zs):=by
 obtain⟨k1,t9,e1,I1⟩:=sA (S:=S) (O:=O) hn4 hn hc C Oo I (by omega) (j:=j) (a:=c+1) (b:=j) hc hj (λne=>hP o Oo j hj ne) s9
 have l1:(ks++(if(decide (j≠c+1)&&P o j)=true then [lJ o (c+1) j] else []).map zs).length<=900:=by
  rw[List.length_append,List.length_map];split<;>simp<;>omega
 obtain⟨k2,u9,e2,I2⟩:=sA (S:=S) (O:=O) hn4 hn hc C Oo I1 l1 (j:=j) (a:=j) (b:=c+1) hj hc (λne=>hQ o Oo j hj ne) t9
 have q:bL (de (cg (aa (cw (aa (ak aS (ah 1) (aA (.int 1))) (aa (ah 6) (ai)))) (aa (cw (aa (ah 6) (aa (ak aS (ah 1) (aA (.int 1))) (ai)))) (ai))))) [.v (bd S),.v (nI c),.v C,.v (bd O),.ob (.dT kvs),.v (ax o),.v (nI j),s7,s8,s9]=some ([.tup [nI (c+1),nI j],.tup [nI j,nI (c+1)]],[.v (bd S),.v (nI c),.v C,.v (bd O),.ob (.dT kvs),.v (ax o),.v (nI j),s7,s8,s9]):=
  br (fV (dM (av (cI (av ((ar (x:=nI c) (y:=.int 1) rfl rfl).trans (lM c)) rfl) (by simp)) (av (cI (av rfl (av ((ar (x:=nI c) (y:=.int 1) rfl rfl).trans (lM c)) rfl)) (by simp)) rfl)) (by simp)))
 refine⟨k2,_,_,u9,(cK q).trans ((cb (ρ1:=[.v (bd S),.v (nI c),.v C,.v (bd O),.ob (.dT kvs),.v (ax o),.v (nI j),.v (nI (c+1)),.v (nI j),s9]) rfl e1).trans ((cb (ρ1:=[.v (bd S),.v (nI c),.v C,.v (bd O),.ob (.dT k1),.v (ax o),.v (nI j),.v (nI j),.v (nI (c+1)),t9]) rfl e2).trans rfl)),?_⟩
 unfold jb;rw[List.map_append,<-List.append_assoc];exact I2
theorem wP(C:D){o:List Nat}(Oo:Ord n o){kvs:rG}{ks:List (List Int)}(I:PInv kvs ks)(hl:ks.length<=600)(s6 s7 s8 s9:Sl):
 ∃kvs' s6' s7' s8' s9',Gx [.v (bd S),.v (nI c),.v C,.v (bd O),.ob (.dT kvs),.v (ax o),s6,s7,s8,s9]=.nx [.v (bd S),.v (nI c),.v C,.v (bd O),.ob (.dT kvs'),.v (ax o),s6',s7',s8',s9']/\PInv kvs' (ks++(Aq n P Q (c+1) o).map zs):=by
 obtain⟨ρ',hf,kvs',s6',s7',s8',s9',rfl,I'⟩:=qK (g:=gN 6) (b:=Ee) (P:=λj ρ=> ∃kvs' s6' s7' s8' s9',ρ=[.v (bd S),.v (nI c),.v C,.v (bd O),.ob (.dT kvs'),.v (ax o),s6',s7',s8',s9']/\PInv kvs' (ks++((List.range j).flatMap (jb (P o) (Q o) o (c+1))).map zs)) n 0 (λj ρ _ hj hρ=>by
  obtain⟨kvs',s6',s7',s8',s9',rfl,I'⟩:=hρ
  rw[Nat.zero_add] at hj;have fl:=kX (jb (P o) (Q o) o (c+1)) 2 (List.range j) λi _=>tX _ _ _ _ _
  rw[List.length_range] at fl;obtain⟨k2,t7,t8,t9,e,I2⟩:=Au hn4 hn hc hP hQ C Oo I' (by rw[List.length_append,List.length_map];omega) hj s7' s8' s9'
  refine⟨_,_,rfl,e,k2,_,_,_,_,rfl,?_⟩
  rw[List.range_succ,List.flatMap_append,List.flatMap_singleton,List.map_append,<-List.append_assoc];exact I2) [.v (bd S),.v (nI c),.v C,.v (bd O),.ob (.dT kvs),.v (ax o),s6,s7,s8,s9] ⟨_,_,_,_,_,rfl,by simpa using I⟩
 rw[Nat.zero_add] at I';refine⟨kvs',s6',s7',s8',s9',(cK (ds:=(List.range n).map nI) (br (fP (n:=n) (av ((gw o _ _ rfl).trans (by rw[Oo.len])) rfl) (by omega)))).trans (by rw[List.range_eq_range'];exact hf),I'⟩
theorem pB(C:D): ∀(cr:List (List Nat)) (kvs:rG) (ks:List (List Int)) (s5 s6 s7 s8 s9:Sl),(∀o∈cr,Ord n o)->PInv kvs ks->ks.length+10*cr.length<=500->
 ∃kvs' s5' s6' s7' s8' s9',cF (gN 5) Gx (cr.map ax) [.v (bd S),.v (nI c),.v C,.v (bd O),.ob (.dT kvs),s5,s6,s7,s8,s9]=.nx [.v (bd S),.v (nI c),.v C,.v (bd O),.ob (.dT kvs'),s5',s6',s7',s8',s9']/\PInv kvs' (ks++sH n P Q (c+1) cr)
 | [],kvs,ks,s5,s6,s7,s8,s9,_,I,_=>⟨kvs,_,_,_,_,_,rfl,by unfold sH;simpa using I⟩
 |o::cr,kvs,ks,s5,s6,s7,s8,s9,hO,I,hl=>by
  rw[List.length_cons] at hl;obtain⟨k1,t6,t7,t8,t9,e1,I1⟩:=wP hn4 hn hc hP hQ C (hO o (by simp)) I (by omega) s6 s7 s8 s9
  have fl:(Aq n P Q (c+1) o).length<=10:=by
   have fl:=kX (jb (P o) (Q o) o (c+1)) 2 (List.range n) λi _=>tX _ _ _ _ _
   rw[List.length_range] at fl;unfold Aq pA;omega
  obtain⟨k2,u5,u6,u7,u8,u9,e2,I2⟩:=pB C cr k1 _ (.v (ax o)) t6 t7 t8 t9 (λo ho=>hO o (by simp[ho])) I1 (by rw[List.length_append,List.length_map];omega)
  refine⟨k2,u5,u6,u7,u8,u9,(cb (ρ1:=[.v (bd S),.v (nI c),.v C,.v (bd O),.ob (.dT kvs),.v (ax o),s6,s7,s8,s9]) rfl e1).trans e2,?_⟩
  unfold sH at I2⊢;rw[List.flatMap_cons,List.map_append,<-List.append_assoc];exact I2
theorem Bp(hsw:dW [bd S,nI c]=some (bd O)){cr:List (List Nat)}(hcl:cr.length<=8)(hO: ∀o∈cr,Ord n o)(hPQ: ∀o∈cr,∀j,j<n-> ¬(P o j=true/\Q o j=true)):
 h8 [bd S,nI c,.lst (cr.map ax)]=some (.lst ((lU (sH n P Q (c+1) cr)).map cW)):=by
 obtain⟨kvs,s5,s6,s7,s8,s9,e,I⟩:=pB hn4 hn hc hP hQ (.lst (cr.map ax)) cr [] [] .no .no .no .no .no hO .start (by simp;omega)
 rw[List.nil_append] at I;have hl:=vx (i:=c+1) hn hcl hPQ
 obtain⟨l,i1,i2,i3,i4,i5⟩:=I.srt
 have kl:=I.len
 apply bZ (kd:=.n) (n:=10) (t:=lW)
 unfold lW;refine(ay (ρ':=[.v (bd S),.v (nI c),.v (.lst (cr.map ax)),.v (bd O),.no,.no,.no,.no,.no,.no]) ((aV ((bQ (ds:=[bd S,nI c]) rfl rfl).trans hsw)).trans rfl)).trans ?_
 refine(ay (ρ':=[.v (bd S),.v (nI c),.v (.lst (cr.map ax)),.v (bd O),.ob (.dT []),.no,.no,.no,.no,.no]) rfl).trans ?_
 refine(ay ((cK (br (fV rfl))).trans e)).trans ?_
 show aY _ [.v (bd S),.v (nI c),.v (.lst (cr.map ax)),.v (bd O),.ob (.dF kvs),s5,s6,s7,s8,s9]=_;refine bC ?_
 have c1:cx 1 (wl 4) (gN 10) (dI (C1 4 (ah 10))) (ah 10) [.v (bd S),.v (nI c),.v (.lst (cr.map ax)),.v (bd O),.ob (.dF kvs),s5,s6,s7,s8,s9]=some (.lst ((l.filter λz=>decide (((sH n P Q (c+1) cr).count z) % 2=1)).map cW)):=by
  refine gt (ds:=l.map cW) ?_ (by rw[List.length_map];omega) (gm (h:=cW) (o:=cW) l λz hz=>⟨_,rfl,?_,λ_=>rfl⟩)
  ·unfold wl
   show(some kvs).bind _=_;rw[Option.bind_some,i1];rfl
  ·refine fT ?_
   unfold C1;show(some kvs).bind _=_;rw[Option.bind_some];show((some (cW z)).bind rV).bind _=_;rw[Option.bind_some,show rV (cW z)=some z from im z,Option.bind_some];exact i3 z hz
 rw[bU (av c1 rfl),Db (by have:=List.length_filter_le (λz=>decide (((sH n P Q (c+1) cr).count z) % 2=1)) l;omega) (λk hk=>Ah (by omega) hO k (i2 k (List.mem_filter.mp hk).1)),i4]
end
theorem E5(K:List (List Int))(k:List Int):ga true (cW k) (.lst (K.map cW))=some (.bl (!decide (k∈K))):=by
 have q:=IQ K k
 have d:=qy K
 unfold ga km at q⊢;dsimp only at q⊢;rw[if_pos (by omega)] at q⊢
 injection q with q
 injection q with q
 rw[<-q];rfl
theorem xj {N:Nat}{a b:Int}(B:Bag N a b)(hN:N<=100000){n:Nat}(h0:0<n)(hn:n<=8): ∃(cr:List (List Nat)) (bg:List D),gK (aG a b) [nI n]=some (.lst (cr.map ax),bg)/\cr.length<=8/\ ∀o∈cr,Ord n o:=by
 obtain⟨d,a1,b1,e1,B1,d0,d1⟩:=lg (m:=9) B (by omega) (by decide) (by decide)
 obtain⟨m,rfl⟩: ∃m:Nat,d=m:=⟨d.toNat,by omega⟩
 have q1:fX 2 (cg (ai)) (nW 5 (aG a b) [nI n])=.nx [.arg (aG a b),.v (nI n),.own [],.no,.no]:=(iJ (dM rfl (by simp))).trans rfl
 have q2:zS (da (aN 0 1 aU (bL (aa (aA (.int 9)) (ai)))) (bL (ai))) [.arg (aG a b),.v (nI n),.own [],.no,.no]=some (o3 0 m,[.arg (aG a1 b1),.v (nI n),.own (([]:List (List Nat)).map ax),.no,.no]):=by
  have:da (aN 0 1 aU (bL (aa (aA (.int 9)) (ai)))) (bL (ai)) [.arg (aG a b),.v (nI n),.own [],.no,.no]=some ([.int m],[.arg (aG a1 b1),.v (nI n),.own (([]:List (List Nat)).map ax),.no,.no]):=
   fN (cP (i:=0) (n:=1) (b0:=aG a b) (ds:=[.int 9]) rfl (br rfl) rfl rfl e1) rfl
  unfold zS;rw[this];show(if(m:Int).natAbs<4000000000 then _ else _)=_
  rw[if_pos (by omega),Int.toNat_natCast]
 have ul:(o3 0 m).length=m:=by unfold o3;simp
 obtain⟨ρ',lp,L,a',b',s3,s4,hL,hO,B',rfl⟩:=sh (g:=gN 3) (b:=aB (jc 4 (gq gV (da (aN 0 1 bi (bL (aa (ah 1) (ai)))) (bL (ai)))))
  (cM (bc (ak (ga true) (ah 4) (cU 2))) (ca (aN 2 1 gG (bL (aa (ah 4) (ai))))) (skip)))
  (P:=λi ρ=> ∃(L:List (List Nat)) (a' b':Int) (s3 s4:Sl),L.length<=i/\(∀o∈L,Ord n o)/\Bag (N+1+n*i) a' b'/\ρ=[.arg (aG a' b'),.v (nI n),.own (L.map ax),s3,s4]) (o3 0 m) 0 (λd hd i ρ hi hρ=>by
    obtain⟨L,a',b',s3,s4,hL,hO,B',rfl⟩:=hρ
    have hi:i<m:=by rw[ul] at hi;omega
    have hm:n*i<=8*8:=Nat.mul_le_mul hn (by omega)
    obtain⟨o,a2,b2,e2,Oo,B2⟩:=nY B' (n:=n) (by omega) (by omega)
    have t1:jc 4 (gq gV (da (aN 0 1 bi (bL (aa (ah 1) (ai)))) (bL (ai)))) [.arg (aG a' b'),.v (nI n),.own (L.map ax),.v d,s4]=.nx [.arg (aG a2 b2),.v (nI n),.own (L.map ax),.v d,.v (ax o)]:=
     (jX (nJ (ds:=[.lst (o.map nI)]) (d:=ax o) (fN (cP (i:=0) (n:=1) (b0:=aG a' b') (ds:=[nI n]) rfl (br rfl) rfl rfl e2) rfl) rfl)).trans rfl
    have t2:bc (ak (ga true) (ah 4) (cU 2)) [.arg (aG a2 b2),.v (nI n),.own (L.map ax),.v d,.v (ax o)]=some (!decide (zs o∈L.map zs)):=bn ((ar (x:=ax o) (y:=.lst (L.map ax)) rfl rfl).trans (by rw[y8,oK];exact E5 _ _))
    have B3:Bag (N+1+n*(i+1)) a2 b2:=by rw[Nat.mul_succ,<-Nat.add_assoc];exact B2
    by_cases c:zs o∈L.map zs
    ·rw[decide_eq_true c] at t2
     exact⟨_,_,rfl,(ay t1).trans (dz t2),L,a2,b2,_,_,by omega,hO,B3,rfl⟩
    ·rw[decide_eq_false c] at t2
     refine⟨_,_,rfl,(ay t1).trans ((du t2).trans (oG (i:=2) (b0:=L.map ax) (bs:=L.map ax) (d:=ax o) rfl (br rfl) rfl (by rw[List.length_map];omega))),L++[o],a2,b2,_,_,by simp;omega,λu hu=>?_,B3,by rw[List.map_append];rfl⟩
     rcases List.mem_append.mp hu with q|q
     ·exact hO u q
     ·rw[List.mem_singleton] at q;rw[q];exact Oo) [.arg (aG a1 b1),.v (nI n),.own (([]:List (List Nat)).map ax),.no,.no] ⟨[],a1,b1,.no,.no,by simp,by simp,by simpa using B1,rfl⟩
 rw[ul] at hL;have hs:=Db (ks:=L.map zs) (by rw[List.length_map];omega) (λk hk=>by
  obtain⟨o,ho,rfl⟩:=List.mem_map.mp hk
  intro e;have l1:=(hO o ho).len
  have:=congrArg List.length e
  unfold zs at this;simp at this;rw[this] at l1;simp at l1;omega)
 obtain⟨cr,p,e⟩:=nH zs (dv (lt:=cm) (L.map zs)) L rfl
 refine⟨cr,aG a' b',?_,by rw[p.length_eq];omega,λo ho=>hO o (p.mem_iff.mp ho)⟩
 refine Fa (kd:=.n) (n:=5) (t:=je) (ρ:=[.arg (aG a' b'),.v (nI n),.own (L.map ax),s3,s4]) ?_ rfl
 unfold je;refine(ay q1).trans ((ay ((cK q2).trans lp)).trans (bC ((bU (ds:=[.lst (L.map ax)]) rfl).trans ?_)))
 rw[oK,hs,e,<-oK]
theorem wj {n:Nat}{S:i9}{o:List Nat}(Oo:Ord n o){a b col:Nat}(ha:a<n){sides:List i9}{turns:List Nat}(h:dO n S o a b col sides turns=true){T:Nat}(hT:T∈turns):T<n/\rH n (o.getD a 0) (o.getD b 0) T=true:=by
 unfold dO at h;rw[Bool.and_eq_true] at h;have e:=of_decide_eq_true h.1
 rw[<-e] at hT;exact(jN (by omega) (Oo.get ha) _ _).mp (List.mem_filter.mp hT).1
theorem E3: ∀n,n<=5-> ∀a,a<n-> ∀b,b<n-> ∀x,x<n-> ¬(rH n a b x=true/\rH n b a x=true):=by decide+kernel
theorem z8 {n:Nat}(hn:n<=5){S S':i9}{o:List Nat}(Oo:Ord n o){a b col col':Nat}(ha:a<n)(hb:b<n){s1 s2:List i9}{t1 t2:List Nat}{T:Nat}(h1:T∈t1)(h2:T∈t2): ¬(dO n S o a b col s1 t1=true/\dO n S' o b a col' s2 t2=true):=λhq_=>by
 obtain⟨q1,q2⟩:=hq_
 obtain⟨hT,i1⟩:=wj Oo ha q1 h1
 obtain⟨_,i2⟩:=wj Oo hb q2 h2
 exact E3 n hn _ (Oo.get ha) _ (Oo.get hb) T hT ⟨i1,i2⟩
theorem AW: ∀(c:Nat) (l:List Nat),c+1<l.length->lJ l c (c+1)=j6 l c
 |0,a::b::l,_=>rfl
 |c+1,a::l,h=>by
  rw[List.length_cons] at h;have:=AW c l (by omega)
  unfold lJ j6 at this⊢;rw[List.set_cons_succ,List.set_cons_succ,List.take_succ_cons,List.drop_succ_cons,List.cons_append,List.cons_append];exact congrArg (a:: ·) this
 |0,[],h=>by simp at h
 |0,[_],h=>by simp at h
 |_+1,[],h=>by simp at h
theorem EU {n:Nat}{r x:List Nat}{c:Nat}(hr:r.length=n)(hx:x.length=n)(hc:c+1<n)(h4:n<=6)(h:NI n (r.getD c 0) (x.getD c 0) (r.getD (c+1) 0) (x.getD (c+1) 0)):cT [fJ r x,nI c]=some (fJ (j6 r c) (j6 x c)):=by
 have hm:zp r x (c:Int)=true:=by
  unfold zp EW;rw[Int.toNat_natCast];have n1:=h.ni
  unfold j4 at n1;unfold C9;rw[n1];simp only[Bool.and_eq_true,decide_eq_true_eq,beq_self_eq_true,Bool.not_eq_true',Bool.or_eq_false_iff,decide_eq_false_iff_not];exact⟨⟨by omega,by omega⟩,⟨⟨h.ap,h.aq⟩,h.bp,h.bq⟩,trivial⟩
 have p1:gH (dI (ao (nF 2 ge) (aa (ah 0) (aa (ah 1) (ai))))) (ii 4 [fJ r x,nI c])=some (!zp r x c):=iN (fT ((bQ (ds:=[fJ r x,nI c]) rfl rfl).trans (Cz hr hx (by omega) h4 c)))
 rw[hm] at p1;have a1: ∀(i:Nat) (l:List Nat),l.length=n->ah i [.v (fJ r x),.v (nI c),.v (ax r),.v (ax x)]=some (ax l)->ao (nF 3 bv) (aa (ah i) (aa (ah 1) (aa (ak aS (ah 1) (aA (.int 1))) (ai)))) [.v (fJ r x),.v (nI c),.v (ax r),.v (ax x)]=some (ax (j6 l c)):=λi l hl hi=>by
  rw[<-AW c l (by omega)]
  exact(bQ (ds:=[ax l,nI c,nI (c+1)]) (av hi (av rfl (av ((ar (x:=nI c) (y:=.int 1) rfl rfl).trans (lM c)) rfl))) rfl).trans (vF hl (by omega) hc)
 apply bZ (kd:=.s) (n:=4) (t:=eW) (ρ:=[.v (fJ r x),.v (nI c),.v (ax r),.v (ax x)])
 unfold eW;exact(ay (dz p1)).trans ((ay (ρ':=[.v (fJ r x),.v (nI c),.v (ax r),.v (ax x)]) (fU (gb rfl) rfl)).trans (bC (cI (av (a1 2 r hr rfl) (av (a1 3 x hx rfl) rfl)) (by simp))))
theorem AU {n:Nat}{S:i9}{c:Nat}{rs ls:List i9}{rt lt:List Nat}(hn4:4<=n)(hn:n<=5)(hS:Ln n S)(hc:c+1<n)(hrs: ∀S∈rs,Ln n S)(hls: ∀S∈ls,Ln n S)(hrt:rt.length<rs.length)(hlt:lt.length<ls.length){cr:List (List Nat)}(hO: ∀o∈cr,Ord n o)
 (hl:(sH n (λo j=>dO n S o (c+1) j (c+1) rs rt) (λo j=>dO n S o j (c+1) c ls lt) (c+1) cr).length<=40) {i5 i6 i7 i8:Nat} {ρ:aF}
 (hg: ∀o,∃ρ1,gN i7 (ax o) (ρ++[.no,.no])=some ρ1/\aa (ah 0) (aa (ah 1) (aa (ah i7) (aa (ah i5) (aa (ah i6) (ai))))) ρ1=some [bd S,nI c,ax o,dY rs rt,dY ls lt]/\ ∀e,∃ρ2,gN i8 (ax e) ρ1=some ρ2/\ah i8 ρ2=some (ax e))
 (h2:ah 2 ρ=some (.lst (cr.map ax))):
 ao (nF 1 fI) (aa (o6 2 (de (ah 2)) (gN i7) (fq) (de (ao (nF 5 eR) (aa (ah 0) (aa (ah 1) (aa (ah i7) (aa (ah i5) (aa (ah i6) (ai)))))))) (gN i8) (fq) (ah i8)) (ai)) ρ=some (.lst ((lU (sH n (λo j=>dO n S o (c+1) j (c+1) rs rt) (λo j=>dO n S o j (c+1) c ls lt) (c+1) cr)).map cW)):=by
 let P:List Nat->Nat->Bool:=λo j=>dO n S o (c+1) j (c+1) rs rt
 let Q:List Nat->Nat->Bool:=λo j=>dO n S o j (c+1) c ls lt
 have hl':=hl
 unfold sH at hl';rw[List.length_map] at hl';have cp:o6 2 (de (ah 2)) (gN i7) (fq) (de (ao (nF 5 eR) (aa (ah 0) (aa (ah 1) (aa (ah i7) (aa (ah i5) (aa (ah i6) (ai)))))))) (gN i8) (fq) (ah i8) ρ=some (.lst ((sH n P Q (c+1) cr).map cW)):=by
  have e:(sH n P Q (c+1) cr).map cW=cr.flatMap λo=>(Aq n P Q (c+1) o).map ax:=by
   unfold sH;rw[<-oK,List.map_flatMap]
  rw[e];refine vZ (ds:=cr.map ax) (fV h2) ?_ (by rw[<-List.map_flatMap,List.length_map];exact Nat.le_trans hl' (by omega))
  refine(lG (h:=ax) (q:=λ_=>true) (o:=λo=>(Aq n P Q (c+1) o).map ax) cr λo ho=>?_).trans ?_
  ·obtain⟨ρ1,g1,g2,g3⟩:=hg o
   refine⟨ρ1,g1,rfl,λ_=>?_⟩
   refine zN (ds:=(Aq n P Q (c+1) o).map ax) (fV ((bQ g2 rfl).trans (Be (by omega) (by omega) hS (hO o ho).len hc hrs hls hrt hlt))) ?_
   refine(lG (h:=ax) (q:=λ_=>true) (o:=λe=>[ax e]) (Aq n P Q (c+1) o) λe _=>?_).trans ?_
   ·obtain⟨ρ2,g4,g5⟩:=g3 e
    exact⟨ρ2,g4,rfl,λ_=>wo g5⟩
   ·rw[List.filter_eq_self.mpr λ_ _=>rfl]
    congr 1
    induction Aq n P Q (c+1) o with
    |nil=>rfl
    |cons y l ih=>rw[List.flatMap_cons,ih];rfl
  ·rw[List.filter_eq_self.mpr λ_ _=>rfl]
 rw[bU (av cp rfl)];exact E2 (ks:=sH n P Q (c+1) cr) (Nat.lt_of_le_of_lt hl (by omega)) (Ah (by omega) hO)
theorem A0 {n:Nat}{S:i9}{c:Nat}{cr:List (List Nat)}{E:List (List Int)}(hd:h8 [bd S,nI c,.lst (cr.map ax)]=some (.lst (E.map cW)))(hl:nG [bd S,nI c,.lst (cr.map ax)]=some (.lst (E.map cW)))(hE:E.length<=900):eQ [bd S,nI c,.lst (cr.map ax)]=some (.bl true):=by
 let st:Sl->aF:=λs5=>[.v (bd S),.v (nI c),.v (.lst (cr.map ax)),.v (.lst (cr.map ax)),.v (.lst (E.map cW)),s5]
 have dE:=Do E
 have dC:fw (.lst (cr.map ax))<=32:=by rw[oK];exact Do _
 apply bZ (kd:=.s) (n:=6) (t:=jg) (ρ:=st (.own (E.map cW++[.non])))
 unfold jg;have al:ao A3 (aa (cx 1 (nl (cU 5)) (gN 6) (fq) (xo "tuple" (ah 6))) (ai)) (st (.own (E.map cW)))=some (.bl true):=by
  have c1:cx 1 (nl (cU 5)) (gN 6) (fq) (xo "tuple" (ah 6)) (st (.own (E.map cW)))=some (.lst ((E.map λ_=>true).map D.bl)):=by
   refine gt (ds:=E.map cW) (Bd rfl) (by rw[List.length_map];omega) ((gm (h:=cW) (o:=λ_=>.bl true) (q:=λ_=>true) E λz _=>⟨_,rfl,rfl,λ_=>rfl⟩).trans ?_)
   rw[List.filter_eq_self.mpr λ_ _=>rfl,List.map_map];rfl
  rw[bU (av c1 rfl),Cv];congr 2
  rw[List.all_map];simp
 refine(ay (ρ':=[.v (bd S),.v (nI c),.v (.lst (cr.map ax)),.v (.lst (cr.map ax)),.no,.no]) ((aV (d:=.lst (cr.map ax)) rfl).trans rfl)).trans ?_
 refine(ay (ρ':=st .no) ((aV ((bQ (ds:=[bd S,nI c,.lst (cr.map ax)]) rfl rfl).trans hd)).trans rfl)).trans ?_
 refine(ay (ρ':=st (.own (E.map cW))) ((iJ ((bQ (ds:=[bd S,nI c,.lst (cr.map ax)]) rfl rfl).trans hl)).trans rfl)).trans ?_
 refine(ay (dz (n8 (iN (b:=true) (fT rfl)) (n8 (iN (b:=true) (fT al)) (bn ((ar (x:=.lst (E.map cW)) (y:=.lst (E.map cW)) rfl rfl).trans (CP dE))))))).trans ?_
 refine(ay (ρ':=st (.own (E.map cW++[.non]))) ((oG (i:=5) (b0:=E.map cW) (bs:=E.map cW) (d:=.non) rfl (br rfl) rfl (by rw[List.length_map];omega)).trans rfl)).trans ?_
 exact bC (ko (vp (bn ((ar (x:=.lst (cr.map ax)) (y:=.lst (cr.map ax)) rfl rfl).trans (v8 dC))) (bn ((ar ((bQ (ds:=[bd S,nI c,.lst (cr.map ax)]) rfl rfl).trans hl) (y:=.lst (E.map cW)) rfl).trans (v8 dE)))))
theorem DX(hR: ∀(n:Nat) (r x:List Nat) (c:Nat) (cr:List (List Nat)),4<=n->n<=5->r.length=n->x.length=n->c+1<n->NI n (r.getD c 0) (x.getD c 0) (r.getD (c+1) 0) (x.getD (c+1) 0)->cr.length<=8->(∀o∈cr,Ord n o)->eQ [fJ r x,nI c,.lst (cr.map ax)]=some (.bl true))(ns:List Int)(hn:ns.length<=63):Ak [lz ns]=some (.bl true):=by
 refine jw (kd:=.s) (n:=6) (t:=yI) ?_
 unfold yI;refine DM (λρ=> ∃s1 s2 s3 s4 s5,ρ=[.v (lz ns),s1,s2,s3,s4,s5]) (Bg (ds:=(List.range 2).map nI) (br (fP (av rfl rfl) (by omega))) (wm _ (λd hd ρ hρ=>?_) _ ⟨_,_,_,_,_,rfl⟩)) λρ' hρ'=>⟨ρ',bC rfl⟩
 obtain⟨k,hk,rfl⟩:=List.mem_map.mp hd
 rw[List.mem_range] at hk;obtain⟨s1,s2,s3,s4,s5,rfl⟩:=hρ
 obtain⟨a0,b0,eb,B⟩:=EQ ns k (by omega) hn
 obtain⟨d1,a1,b1,et,B1,d10,d11⟩:=lg (m:=3) B (by omega) (by decide) (by decide)
 obtain⟨n,hm,hn1,hn2⟩: ∃m:Nat,aP (.lst [.int 4,.int 4,.int 5]) (.int d1)=some (nI m)/\4<=m/\m<=5:=by
  have:d1=0\/d1=1\/d1=2:=by omega
  rcases this with e|e|e<;>subst e
  ·exact⟨4,rfl,by omega,by omega⟩
  ·exact⟨4,rfl,by omega,by omega⟩
  ·exact⟨5,rfl,by omega,by omega⟩
 obtain⟨r,x,c,bg,en,⟨N2,a2,b2,B2,hN2,rfl⟩,hr,hx,hc,NI0⟩:=At hn1 hn2 B1 (by omega)
 obtain⟨cr,bg3,ec,hcl,hO⟩:=xj B2 (by omega) (n:=n) (by omega) (by omega)
 have hright:=hR n r x c cr hn1 hn2 hr hx hc NI0 hcl hO
 have q1:fX 2 (ao (nF 2 jW) (aa (ah 0) (aa (ah 1) (ai)))) [.v (lz ns),.v (nI k),s2,s3,s4,s5]=.nx [.v (lz ns),.v (nI k),.own (aG a0 b0),s3,s4,s5]:=(iJ ((bQ (ds:=[lz ns,nI k]) rfl rfl).trans eb)).trans rfl
 have q2:jc 3 (ue aP (pu (cg (aa (aA (.int 4)) (aa (aA (.int 4)) (aa (aA (.int 5)) (ai)))))) (aN 2 1 aU (bL (aa (aA (.int 3)) (ai))))) [.v (lz ns),.v (nI k),.own (aG a0 b0),s3,s4,s5]=.nx [.v (lz ns),.v (nI k),.own (aG a1 b1),.v (nI n),s4,s5]:=
  (jX (BP (gb (dM rfl (by simp))) (cP (i:=2) (n:=1) (b0:=aG a0 b0) (ds:=[.int 3]) rfl (br rfl) rfl rfl et) hm)).trans rfl
 have q3:cv (gT 2 (eU (gN 4) (eU (gN 5) (jI)))) (aN 2 1 bT (bL (aa (ah 3) (ai)))) [.v (lz ns),.v (nI k),.own (aG a1 b1),.v (nI n),s4,s5]=.nx [.v (lz ns),.v (nI k),.own (aG a2 b2),.v (nI n),.v (fJ r x),.v (nI c)]:=
  fU (cP (i:=2) (n:=1) (b0:=aG a1 b1) (ds:=[nI n]) rfl (br rfl) rfl rfl en) rfl
 refine⟨_,_,rfl,(ay q1).trans ((ay q2).trans ((ay q3).trans ((Gk (Cb (b:=true) (CD (D2 (ds:=[fJ r x,nI c,.lst (cr.map ax)]) (fN (gb rfl) (fN (gb rfl) (fN (cP (i:=2) (n:=1) (b0:=aG a2 b2) (ds:=[nI n]) rfl (br rfl) rfl rfl ec) rfl))) rfl hright)))).trans rfl))),⟨_,_,_,_,_,rfl⟩⟩
theorem zn {n a b p q:Nat}(h:NI n a b p q):(if j4 p a b=true then min a b else max a b)<n:=by
 have:=h.ha;have:=h.hb
 split<;>omega
theorem xP(n:Nat)(r x:List Nat)(c:Nat)(cr:List (List Nat))(h4:4<=n)(h5:n<=5)(hr:r.length=n)(hx:x.length=n)(hc:c+1<n)(h:NI n (r.getD c 0) (x.getD c 0) (r.getD (c+1) 0) (x.getD (c+1) 0))(hcl:cr.length<=8)(hO: ∀o∈cr,Ord n o):eQ [fJ r x,nI c,.lst (cr.map ax)]=some (.bl true):=by
 let S:i9:=(r,x)
 let O:i9:=(j6 r c,j6 x c)
 obtain⟨zr,zr1,zr2⟩:=wk hr hc
 obtain⟨zx,zx1,zx2⟩:=wk hx hc
 have hS:Ln n S:=⟨hr,hx⟩
 have hOo:Ln n O:=⟨zr,zx⟩
 have NI1:NI n ((j6 r c).getD c 0) ((j6 x c).getD c 0) ((j6 r c).getD (c+1) 0) ((j6 x c).getD (c+1) 0):=by rw[zr1,zr2,zx1,zx2];exact h.swap h5
 have t1:=vq hr hx hc h
 have t2:=tf hr hx hc h h4 h5
 have hT:=zn h
 generalize (if j4 (r.getD (c+1) 0) (r.getD c 0) (x.getD c 0)=true then min (r.getD c 0) (x.getD c 0) else max (r.getD c 0) (x.getD c 0))=T at t1 t2 hT
 have u1:=vq zr zx hc NI1
 have u2:=tf zr zx hc NI1 h4 h5
 have hU:=zn NI1
 generalize (if j4 ((j6 r c).getD (c+1) 0) ((j6 r c).getD c 0) ((j6 x c).getD c 0)=true then min ((j6 r c).getD c 0) ((j6 x c).getD c 0) else max ((j6 r c).getD c 0) ((j6 x c).getD c 0))=U at u1 u2 hU
 let P:List Nat->Nat->Bool:=λo j=>dO n S o (c+1) j (c+1) [S,O,S] [T,U]
 let Q:List Nat->Nat->Bool:=λo j=>dO n S o j (c+1) c [S,O,S] [U,T]
 have hP: ∀o,Ord n o-> ∀j,j<n->j≠c+1->bM [bd S,bd O,nI c,ax o,nI (c+1),nI j]=some (.bl (P o j)):=λo Oo j hj ne=>by
  rw[AH (T:=T) (U:=U) (by omega) (by omega) hS hOo Oo.len hc hj t2 u2 (.inl ⟨ne,rfl,rfl,rfl⟩)]
  show _=some (D.bl (dO n S o (c+1) j (c+1) [S,O,S] [T,U]));rw[rP h5 Oo hc hj (Ne.symm ne) hT hU (xA hc hj ne) rfl rfl]
 have hQ: ∀o,Ord n o-> ∀j,j<n->j≠c+1->bM [bd S,bd O,nI c,ax o,nI j,nI (c+1)]=some (.bl (Q o j)):=λo Oo j hj ne=>by
  rw[AH (T:=T) (U:=U) (by omega) (by omega) hS hOo Oo.len hj hc t2 u2 (.inr ⟨rfl,rfl,rfl,rfl⟩)]
  show _=some (D.bl (dO n S o j (c+1) c [S,O,S] [U,T]));rw[rP h5 Oo hj hc ne hU hT (zc hc hj ne) rfl rfl]
 have hPQ: ∀o∈cr,∀j,j<n-> ¬(P o j=true/\Q o j=true):=λo ho j hj=>z8 h5 (hO o ho) hc hj (T:=T) (by simp) (by simp)
 have hl:=vx (i:=c+1) h5 hcl hPQ
 have hd:=Bp h4 h5 hc hP hQ (Cg hr hx hc (by omega)) hcl hO hPQ
 refine A0 (n:=n) (S:=S) hd ?_ (by
  unfold lU;rw[(dv (lt:=cm) _).length_eq];exact Nat.le_trans (vY _) (by omega))
 have hSs: ∀S'∈[S,O,S],Ln n S':=λS' hS'=>by
  simp only[List.mem_cons,List.not_mem_nil,or_false] at hS';rcases hS' with q|q|q
  ·rw[q];exact hS
  ·rw[q];exact hOo
  ·rw[q];exact hS
 apply bZ (kd:=.n) (n:=9) (t:=uV)
 unfold uV;refine(ay (ρ':=[.v (bd S),.v (nI c),.v (.lst (cr.map ax)),.v (bd O),.no,.no,.no,.no,.no]) ((aV ((bQ (ds:=[bd S,nI c]) rfl rfl).trans (EU hr hx hc (by omega) h))).trans rfl)).trans ?_
 refine(ay (ρ':=[.v (bd S),.v (nI c),.v (.lst (cr.map ax)),.v (bd O),.v (nI T),.v (nI U),.no,.no,.no]) ((AF (av ((bQ (ds:=[bd S,nI c]) rfl rfl).trans t1) (av ((bQ (ds:=[bd O,nI c]) rfl rfl).trans u1) rfl))).trans rfl)).trans ?_
 refine(ay (ρ':=[.v (bd S),.v (nI c),.v (.lst (cr.map ax)),.v (bd O),.v (nI T),.v (nI U),.v (.lst [bd S,bd O,bd S]),.no,.no]) ((aV (dM rfl (by simp))).trans rfl)).trans ?_
 refine(ay (ρ':=[.v (bd S),.v (nI c),.v (.lst (cr.map ax)),.v (bd O),.v (nI T),.v (nI U),.v (.lst [bd S,bd O,bd S]),.v (dY [S,O,S] [T,U]),.v (dY [S,O,S] [U,T])]) (fU (gb (cI (av (cI (av rfl (av (dM rfl (by simp)) rfl)) (by simp)) (av (cI (av rfl (av (dM rfl (by simp)) rfl)) (by simp)) rfl)) (by simp))) rfl)).trans ?_
 exact bC (AU (i5:=7) (i6:=8) (i7:=9) (i8:=10) h4 h5 hS hc (rs:=[S,O,S]) (ls:=[S,O,S]) (rt:=[T,U]) (lt:=[U,T]) hSs hSs (by simp) (by simp) hO hl (λo=>⟨_,rfl,rfl,λe=>⟨_,rfl,rfl⟩⟩) rfl)
theorem D5(ns:List Int)(hn:ns.length<=63):Ak [lz ns]=some (.bl true):=DX xP ns hn
set_option maxHeartbeats 4000000
theorem all_mk {l:W.OpenLaw}{w:World}{K:W.Frag}{h:Heap}{mg:Str->Option Value}{fa:Addr}{f0:Addr}{od0 an0:Option Addr}{sl0:Array (Option Value)}{oc0 kV0 dc0 pm0 cd0 ct0:Value}{f1:Addr}{od1 an1:Option Addr}{sl1:Array (Option Value)}{oc1 kV1 dc1 pm1 cd1 ct1:Value}{f2:Addr}{od2 an2:Option Addr}{sl2:Array (Option Value)}{oc2 kV2 dc2 pm2 cd2 ct2:Value}{f3:Addr}{od3 an3:Option Addr}{sl3:Array (Option Value)}{oc3 kV3 dc3 pm3 cd3 ct3:Value}{f4:Addr}{od4 an4:Option Addr}{sl4:Array (Option Value)}{oc4 kV4 dc4 pm4 cd4 ct4:Value}{f5:Addr}{od5 an5:Option Addr}{sl5:Array (Option Value)}{oc5 kV5 dc5 pm5 cd5 ct5:Value}{f6:Addr}{od6 an6:Option Addr}{sl6:Array (Option Value)}{oc6 kV6 dc6 pm6 cd6 ct6:Value}{f7:Addr}{od7 an7:Option Addr}{sl7:Array (Option Value)}{oc7 kV7 dc7 pm7 cd7 ct7:Value}{f8:Addr}{od8 an8:Option Addr}{sl8:Array (Option Value)}{oc8 kV8 dc8 pm8 cd8 ct8:Value}{f9:Addr}{od9 an9:Option Addr}{sl9:Array (Option Value)}{oc9 kV9 dc9 pm9 cd9 ct9:Value}{f10:Addr}{od10 an10:Option Addr}{sl10:Array (Option Value)}{oc10 kV10 dc10 pm10 cd10 ct10:Value}{f11:Addr}{od11 an11:Option Addr}{sl11:Array (Option Value)}{oc11 kV11 dc11 pm11 cd11 ct11:Value}{f12:Addr}{od12 an12:Option Addr}{sl12:Array (Option Value)}{oc12 kV12 dc12 pm12 cd12 ct12:Value}{f13:Addr}{od13 an13:Option Addr}{sl13:Array (Option Value)}{oc13 kV13 dc13 pm13 cd13 ct13:Value}{f14:Addr}{od14 an14:Option Addr}{sl14:Array (Option Value)}{oc14 kV14 dc14 pm14 cd14 ct14:Value}{f15:Addr}{od15 an15:Option Addr}{sl15:Array (Option Value)}{oc15 kV15 dc15 pm15 cd15 ct15:Value}{f16:Addr}{od16 an16:Option Addr}{sl16:Array (Option Value)}{oc16 kV16 dc16 pm16 cd16 ct16:Value}{f17:Addr}{od17 an17:Option Addr}{sl17:Array (Option Value)}{oc17 kV17 dc17 pm17 cd17 ct17:Value}{f18:Addr}{od18 an18:Option Addr}{sl18:Array (Option Value)}{oc18 kV18 dc18 pm18 cd18 ct18:Value}{f19:Addr}{od19 an19:Option Addr}{sl19:Array (Option Value)}{oc19 kV19 dc19 pm19 cd19 ct19:Value}{f20:Addr}{od20 an20:Option Addr}{sl20:Array (Option Value)}{oc20 kV20 dc20 pm20 cd20 ct20:Value}{f21:Addr}{od21 an21:Option Addr}{sl21:Array (Option Value)}{oc21 kV21 dc21 pm21 cd21 ct21:Value}{f22:Addr}{od22 an22:Option Addr}{sl22:Array (Option Value)}{oc22 kV22 dc22 pm22 cd22 ct22:Value}{f23:Addr}{od23 an23:Option Addr}{sl23:Array (Option Value)}{oc23 kV23 dc23 pm23 cd23 ct23:Value}{f24:Addr}{od24 an24:Option Addr}{sl24:Array (Option Value)}{oc24 kV24 dc24 pm24 cd24 ct24:Value}{f25:Addr}{od25 an25:Option Addr}{sl25:Array (Option Value)}{oc25 kV25 dc25 pm25 cd25 ct25:Value}{f26:Addr}{od26 an26:Option Addr}{sl26:Array (Option Value)}{oc26 kV26 dc26 pm26 cd26 ct26:Value}{f27:Addr}{od27 an27:Option Addr}{sl27:Array (Option Value)}{oc27 kV27 dc27 pm27 cd27 ct27:Value}{f28:Addr}{od28 an28:Option Addr}{sl28:Array (Option Value)}{oc28 kV28 dc28 pm28 cd28 ct28:Value}{f29:Addr}{od29 an29:Option Addr}{sl29:Array (Option Value)}{oc29 kV29 dc29 pm29 cd29 ct29:Value}(X:K.In h)(G:h.Ns mainGlobals mg)(hfa:mg "law"=some (.ref fa))
 (a0:W.nsIn K mainGlobals "order_exchanged"=some (some (.ref f0))) (l0:K.lookup f0=some ⟨oc0,od0,.func (W.fnOf "order_exchanged" "order_exchanged" (aT bu) (aM bu) (am bu) .none kV0 dc0 pm0 an0 cd0 ct0),sl0⟩) (c0:W.codeIn K cd0 "order_exchanged"=true) (k0:W.keepIn K (.ref f0)=true)
 (a1:W.nsIn K mainGlobals "places_from"=some (some (.ref f1))) (l1:K.lookup f1=some ⟨oc1,od1,.func (W.fnOf "places_from" "places_from" (aT cf) (aM cf) (am cf) .none kV1 dc1 pm1 an1 cd1 ct1),sl1⟩) (c1:W.codeIn K cd1 "places_from"=true) (k1:W.keepIn K (.ref f1)=true)
 (a2:W.nsIn K mainGlobals "columns_of"=some (some (.ref f2))) (l2:K.lookup f2=some ⟨oc2,od2,.func (W.fnOf "columns_of" "columns_of" (aT cL) (aM cL) (am cL) .none kV2 dc2 pm2 an2 cd2 ct2),sl2⟩) (c2:W.codeIn K cd2 "columns_of"=true) (k2:W.keepIn K (.ref f2)=true)
 (a3:W.nsIn K mainGlobals "rows_of"=some (some (.ref f3))) (l3:K.lookup f3=some ⟨oc3,od3,.func (W.fnOf "rows_of" "rows_of" (aT fG) (aM fG) (am fG) .none kV3 dc3 pm3 an3 cd3 ct3),sl3⟩) (c3:W.codeIn K cd3 "rows_of"=true) (k3:W.keepIn K (.ref f3)=true)
 (a4:W.nsIn K mainGlobals "behind"=some (some (.ref f4))) (l4:K.lookup f4=some ⟨oc4,od4,.func (W.fnOf "behind" "behind" (aT gr) (aM gr) (am gr) .none kV4 dc4 pm4 an4 cd4 ct4),sl4⟩) (c4:W.codeIn K cd4 "behind"=true) (k4:W.keepIn K (.ref f4)=true)
 (a5:W.nsIn K mainGlobals "is_bare"=some (some (.ref f5))) (l5:K.lookup f5=some ⟨oc5,od5,.func (W.fnOf "is_bare" "is_bare" (aT fE) (aM fE) (am fE) .none kV5 dc5 pm5 an5 cd5 ct5),sl5⟩) (c5:W.codeIn K cd5 "is_bare"=true) (k5:W.keepIn K (.ref f5)=true)
 (a6:W.nsIn K mainGlobals "oddly_often"=some (some (.ref f6))) (l6:K.lookup f6=some ⟨oc6,od6,.func (W.fnOf "oddly_often" "oddly_often" (aT cj) (aM cj) (am cj) .none kV6 dc6 pm6 an6 cd6 ct6),sl6⟩) (c6:W.codeIn K cd6 "oddly_often"=true) (k6:W.keepIn K (.ref f6)=true)
 (a7:W.nsIn K mainGlobals "lies_between"=some (some (.ref f7))) (l7:K.lookup f7=some ⟨oc7,od7,.func (W.fnOf "lies_between" "lies_between" (aT bY) (aM bY) (am bY) .none kV7 dc7 pm7 an7 cd7 ct7),sl7⟩) (c7:W.codeIn K cd7 "lies_between"=true) (k7:W.keepIn K (.ref f7)=true)
 (a8:W.nsIn K mainGlobals "may_change"=some (some (.ref f8))) (l8:K.lookup f8=some ⟨oc8,od8,.func (W.fnOf "may_change" "may_change" (aT cB) (aM cB) (am cB) .none kV8 dc8 pm8 an8 cd8 ct8),sl8⟩) (c8:W.codeIn K cd8 "may_change"=true) (k8:W.keepIn K (.ref f8)=true)
 (a9:W.nsIn K mainGlobals "columns_changed"=some (some (.ref f9))) (l9:K.lookup f9=some ⟨oc9,od9,.func (W.fnOf "columns_changed" "columns_changed" (aT bx) (aM bx) (am bx) .none kV9 dc9 pm9 an9 cd9 ct9),sl9⟩) (c9:W.codeIn K cd9 "columns_changed"=true) (k9:W.keepIn K (.ref f9)=true)
 (a10:W.nsIn K mainGlobals "turn_of"=some (some (.ref f10))) (l10:K.lookup f10=some ⟨oc10,od10,.func (W.fnOf "turn_of" "turn_of" (aT fF) (aM fF) (am fF) .none kV10 dc10 pm10 an10 cd10 ct10),sl10⟩) (c10:W.codeIn K cd10 "turn_of"=true) (k10:W.keepIn K (.ref f10)=true)
 (a11:W.nsIn K mainGlobals "has_mark"=some (some (.ref f11))) (l11:K.lookup f11=some ⟨oc11,od11,.func (W.fnOf "has_mark" "has_mark" (aT eK) (aM eK) (am eK) .none kV11 dc11 pm11 an11 cd11 ct11),sl11⟩) (c11:W.codeIn K cd11 "has_mark"=true) (k11:W.keepIn K (.ref f11)=true)
 (a12:W.nsIn K mainGlobals "columns_clear"=some (some (.ref f12))) (l12:K.lookup f12=some ⟨oc12,od12,.func (W.fnOf "columns_clear" "columns_clear" (aT bP) (aM bP) (am bP) .none kV12 dc12 pm12 an12 cd12 ct12),sl12⟩) (c12:W.codeIn K cd12 "columns_clear"=true) (k12:W.keepIn K (.ref f12)=true)
 (a13:W.nsIn K mainGlobals "bend_clear"=some (some (.ref f13))) (l13:K.lookup f13=some ⟨oc13,od13,.func (W.fnOf "bend_clear" "bend_clear" (aT cG) (aM cG) (am cG) .none kV13 dc13 pm13 an13 cd13 ct13),sl13⟩) (c13:W.codeIn K cd13 "bend_clear"=true) (k13:W.keepIn K (.ref f13)=true)
 (a14:W.nsIn K mainGlobals "is_bent"=some (some (.ref f14))) (l14:K.lookup f14=some ⟨oc14,od14,.func (W.fnOf "is_bent" "is_bent" (aT fx) (aM fx) (am fx) .none kV14 dc14 pm14 an14 cd14 ct14),sl14⟩) (c14:W.codeIn K cd14 "is_bent"=true) (k14:W.keepIn K (.ref f14)=true)
 (a15:W.nsIn K mainGlobals "ends_from"=some (some (.ref f15))) (l15:K.lookup f15=some ⟨oc15,od15,.func (W.fnOf "ends_from" "ends_from" (aT dw) (aM dw) (am dw) .none kV15 dc15 pm15 an15 cd15 ct15),sl15⟩) (c15:W.codeIn K cd15 "ends_from"=true) (k15:W.keepIn K (.ref f15)=true)
 (a16:W.nsIn K mainGlobals "tied"=some (some (.ref f16))) (l16:K.lookup f16=some ⟨oc16,od16,.func (W.fnOf "tied" "tied" (aT kx) (aM kx) (am kx) .none kV16 dc16 pm16 an16 cd16 ct16),sl16⟩) (c16:W.codeIn K cd16 "tied"=true) (k16:W.keepIn K (.ref f16)=true)
 (a17:W.nsIn K mainGlobals "_law_cell"=some (some (.ref f17))) (l17:K.lookup f17=some ⟨oc17,od17,.func (W.fnOf "_law_cell" "_law_cell" (aT eC) (aM eC) (am eC) .none kV17 dc17 pm17 an17 cd17 ct17),sl17⟩) (c17:W.codeIn K cd17 "_law_cell"=true) (k17:W.keepIn K (.ref f17)=true)
 (a18:W.nsIn K mainGlobals "_law_bag"=some (some (.ref f18))) (l18:K.lookup f18=some ⟨oc18,od18,.func (W.fnOf "_law_bag" "_law_bag" (aT fA) (aM fA) (am fA) .none kV18 dc18 pm18 an18 cd18 ct18),sl18⟩) (c18:W.codeIn K cd18 "_law_bag"=true) (k18:W.keepIn K (.ref f18)=true)
 (a19:W.nsIn K mainGlobals "_law_take"=some (some (.ref f19))) (l19:K.lookup f19=some ⟨oc19,od19,.func (W.fnOf "_law_take" "_law_take" (aT eD) (aM eD) (am eD) .none kV19 dc19 pm19 an19 cd19 ct19),sl19⟩) (c19:W.codeIn K cd19 "_law_take"=true) (k19:W.keepIn K (.ref f19)=true)
 (a20:W.nsIn K mainGlobals "_law_order"=some (some (.ref f20))) (l20:K.lookup f20=some ⟨oc20,od20,.func (W.fnOf "_law_order" "_law_order" (aT dA) (aM dA) (am dA) .none kV20 dc20 pm20 an20 cd20 ct20),sl20⟩) (c20:W.codeIn K cd20 "_law_order"=true) (k20:W.keepIn K (.ref f20)=true)
 (a21:W.nsIn K mainGlobals "_law_neighbours"=some (some (.ref f21))) (l21:K.lookup f21=some ⟨oc21,od21,.func (W.fnOf "_law_neighbours" "_law_neighbours" (aT bH) (aM bH) (am bH) .none kV21 dc21 pm21 an21 cd21 ct21),sl21⟩) (c21:W.codeIn K cd21 "_law_neighbours"=true) (k21:W.keepIn K (.ref f21)=true)
 (a22:W.nsIn K mainGlobals "_law_crowd"=some (some (.ref f22))) (l22:K.lookup f22=some ⟨oc22,od22,.func (W.fnOf "_law_crowd" "_law_crowd" (aT di) (aM di) (am di) .none kV22 dc22 pm22 an22 cd22 ct22),sl22⟩) (c22:W.codeIn K cd22 "_law_crowd"=true) (k22:W.keepIn K (.ref f22)=true)
 (a23:W.nsIn K mainGlobals "_law_swapped"=some (some (.ref f23))) (l23:K.lookup f23=some ⟨oc23,od23,.func (W.fnOf "_law_swapped" "_law_swapped" (aT ck) (aM ck) (am ck) .none kV23 dc23 pm23 an23 cd23 ct23),sl23⟩) (c23:W.codeIn K cd23 "_law_swapped"=true) (k23:W.keepIn K (.ref f23)=true)
 (a24:W.nsIn K mainGlobals "_law_turn"=some (some (.ref f24))) (l24:K.lookup f24=some ⟨oc24,od24,.func (W.fnOf "_law_turn" "_law_turn" (aT eF) (aM eF) (am eF) .none kV24 dc24 pm24 an24 cd24 ct24),sl24⟩) (c24:W.codeIn K cd24 "_law_turn"=true) (k24:W.keepIn K (.ref f24)=true)
 (a25:W.nsIn K mainGlobals "_law_marked"=some (some (.ref f25))) (l25:K.lookup f25=some ⟨oc25,od25,.func (W.fnOf "_law_marked" "_law_marked" (aT cH) (aM cH) (am cH) .none kV25 dc25 pm25 an25 cd25 ct25),sl25⟩) (c25:W.codeIn K cd25 "_law_marked"=true) (k25:W.keepIn K (.ref f25)=true)
 (a26:W.nsIn K mainGlobals "_law_twice"=some (some (.ref f26))) (l26:K.lookup f26=some ⟨oc26,od26,.func (W.fnOf "_law_twice" "_law_twice" (aT df) (aM df) (am df) .none kV26 dc26 pm26 an26 cd26 ct26),sl26⟩) (c26:W.codeIn K cd26 "_law_twice"=true) (k26:W.keepIn K (.ref f26)=true)
 (a27:W.nsIn K mainGlobals "_law_due"=some (some (.ref f27))) (l27:K.lookup f27=some ⟨oc27,od27,.func (W.fnOf "_law_due" "_law_due" (aT fB) (aM fB) (am fB) .none kV27 dc27 pm27 an27 cd27 ct27),sl27⟩) (c27:W.codeIn K cd27 "_law_due"=true) (k27:W.keepIn K (.ref f27)=true)
 (a28:W.nsIn K mainGlobals "_law_right"=some (some (.ref f28))) (l28:K.lookup f28=some ⟨oc28,od28,.func (W.fnOf "_law_right" "_law_right" (aT dm) (aM dm) (am dm) .none kV28 dc28 pm28 an28 cd28 ct28),sl28⟩) (c28:W.codeIn K cd28 "_law_right"=true) (k28:W.keepIn K (.ref f28)=true)
 (a29:W.nsIn K mainGlobals "law"=some (some (.ref f29))) (l29:K.lookup f29=some ⟨oc29,od29,.func (W.fnOf "law" "law" (aT j5) (aM j5) (am j5) .none kV29 dc29 pm29 an29 cd29 ct29),sl29⟩) (c29:W.codeIn K cd29 "law"=true) (k29:W.keepIn K (.ref f29)=true)
 (z_abs:W.nsIn K mainGlobals "abs"=some none)
 (z_all:W.nsIn K mainGlobals "all"=some none)
 (z_any:W.nsIn K mainGlobals "any"=some none)
 (z_isinstance:W.nsIn K mainGlobals "isinstance"=some none)
 (z_len:W.nsIn K mainGlobals "len"=some none)
 (z_list:W.nsIn K mainGlobals "list"=some none)
 (z_max:W.nsIn K mainGlobals "max"=some none)
 (z_min:W.nsIn K mainGlobals "min"=some none)
 (z_range:W.nsIn K mainGlobals "range"=some none)
 (z_set:W.nsIn K mainGlobals "set"=some none)
 (z_sorted:W.nsIn K mainGlobals "sorted"=some none)
 (z_tuple:W.nsIn K mainGlobals "tuple"=some none):
 ∃fd:FuncData,(∀(s:Shared) (v:Value),BindsTo s fd ⟨[v],[]⟩ [("_law_script",v)])/\ ∀base:Heap,K.In base->base.Ns mainGlobals mg->FnOk l.prog w K mg base rM 8 fa fd ["_law_script"] (vJ K):=by
 have e:=hfa.symm.trans (W.mg_of X G a29)
 cases e
 have F0:=bt (st:=bu) l0 c0 k0
 have b0:=F0.binds (ps:=["order","one","other"]) λ_ _ _ _ _ _ us hl=>ar3 us hl (λ_ _ _=>rfl)
 have d0:Df K mg "order_exchanged" bu ["order","one","other"]:=⟨_,_,F0,W.mg_of X G a0,b0⟩
 have F1:=bt (st:=cf) l1 c1 k1
 have b1:=F1.binds (ps:=["size","start","end"]) λ_ _ _ _ _ _ us hl=>ar3 us hl (λ_ _ _=>rfl)
 have d1:Df K mg "places_from" cf ["size","start","end"]:=⟨_,_,F1,W.mg_of X G a1,b1⟩
 have F2:=bt (st:=cL) l2 c2 k2
 have b2:=F2.binds (ps:=["stand","a","b"]) λ_ _ _ _ _ _ us hl=>ar3 us hl (λ_ _ _=>rfl)
 have d2:Df K mg "columns_of" cL ["stand","a","b"]:=⟨_,_,F2,W.mg_of X G a2,b2⟩
 have F3:=bt (st:=fG) l3 c3 k3
 have b3:=F3.binds (ps:=["stand","a","b"]) λ_ _ _ _ _ _ us hl=>ar3 us hl (λ_ _ _=>rfl)
 have d3:Df K mg "rows_of" fG ["stand","a","b"]:=⟨_,_,F3,W.mg_of X G a3,b3⟩
 have F4:=bt (st:=gr) l4 c4 k4
 have b4:=F4.binds (ps:=["stand","a","b"]) λ_ _ _ _ _ _ us hl=>ar3 us hl (λ_ _ _=>rfl)
 have d4:Df K mg "behind" gr ["stand","a","b"]:=⟨_,_,F4,W.mg_of X G a4,b4⟩
 have F5:=bt (st:=fE) l5 c5 k5
 have b5:=F5.binds (ps:=["stand","a","b"]) λ_ _ _ _ _ _ us hl=>ar3 us hl (λ_ _ _=>rfl)
 have d5:Df K mg "is_bare" fE ["stand","a","b"]:=⟨_,_,F5,W.mg_of X G a5,b5⟩
 have F6:=bt (st:=cj) l6 c6 k6
 have b6:=F6.binds (ps:=["stands"]) λ_ _ _ _ _ _ us hl=>ar1 us hl (λ_=>rfl)
 have d6:Df K mg "oddly_often" cj ["stands"]:=⟨_,_,F6,W.mg_of X G a6,b6⟩
 have F7:=bt (st:=bY) l7 c7 k7
 have b7:=F7.binds (ps:=["at","one","other"]) λ_ _ _ _ _ _ us hl=>ar3 us hl (λ_ _ _=>rfl)
 have d7:Df K mg "lies_between" bY ["at","one","other"]:=⟨_,_,F7,W.mg_of X G a7,b7⟩
 have F8:=bt (st:=cB) l8 c8 k8
 have b8:=F8.binds (ps:=["square","c"]) λ_ _ _ _ _ _ us hl=>ar2 us hl (λ_ _=>rfl)
 have d8:Df K mg "may_change" cB ["square","c"]:=⟨_,_,F8,W.mg_of X G a8,b8⟩
 have F9:=bt (st:=bx) l9 c9 k9
 have b9:=F9.binds (ps:=["square","c"]) λ_ _ _ _ _ _ us hl=>ar2 us hl (λ_ _=>rfl)
 have d9:Df K mg "columns_changed" bx ["square","c"]:=⟨_,_,F9,W.mg_of X G a9,b9⟩
 have F10:=bt (st:=fF) l10 c10 k10
 have b10:=F10.binds (ps:=["square","c"]) λ_ _ _ _ _ _ us hl=>ar2 us hl (λ_ _=>rfl)
 have d10:Df K mg "turn_of" fF ["square","c"]:=⟨_,_,F10,W.mg_of X G a10,b10⟩
 have F11:=bt (st:=eK) l11 c11 k11
 have b11:=F11.binds (ps:=["square","column","row"]) λ_ _ _ _ _ _ us hl=>ar3 us hl (λ_ _ _=>rfl)
 have d11:Df K mg "has_mark" eK ["square","column","row"]:=⟨_,_,F11,W.mg_of X G a11,b11⟩
 have F12:=bt (st:=bP) l12 c12 k12
 have b12:=F12.binds (ps:=["square","columns","rows"]) λ_ _ _ _ _ _ us hl=>ar3 us hl (λ_ _ _=>rfl)
 have d12:Df K mg "columns_clear" bP ["square","columns","rows"]:=⟨_,_,F12,W.mg_of X G a12,b12⟩
 have F13:=bt (st:=cG) l13 c13 k13
 have b13:=F13.binds (ps:=["column","rows","bend"]) λ_ _ _ _ _ _ us hl=>ar3 us hl (λ_ _ _=>rfl)
 have d13:Df K mg "bend_clear" cG ["column","rows","bend"]:=⟨_,_,F13,W.mg_of X G a13,b13⟩
 have F14:=bt (st:=fx) l14 c14 k14
 have b14:=F14.binds (ps:=["square","stand","a","b","column","bend"]) λ_ _ _ _ _ _ us hl=>ar6 us hl (λ_ _ _ _ _ _=>rfl)
 have d14:Df K mg "is_bent" fx ["square","stand","a","b","column","bend"]:=⟨_,_,F14,W.mg_of X G a14,b14⟩
 have F15:=bt (st:=dw) l15 c15 k15
 have b15:=F15.binds (ps:=["square","c","stand","right","left"]) λ_ _ _ _ _ _ us hl=>ar5 us hl (λ_ _ _ _ _=>rfl)
 have d15:Df K mg "ends_from" dw ["square","c","stand","right","left"]:=⟨_,_,F15,W.mg_of X G a15,b15⟩
 have F16:=bt (st:=kx) l16 c16 k16
 have b16:=F16.binds (ps:=["square","c","crowd"]) λ_ _ _ _ _ _ us hl=>ar3 us hl (λ_ _ _=>rfl)
 have d16:Df K mg "tied" kx ["square","c","crowd"]:=⟨_,_,F16,W.mg_of X G a16,b16⟩
 have F17:=bt (st:=eC) l17 c17 k17
 have b17:=F17.binds (ps:=["_law_script","_law_k"]) λ_ _ _ _ _ _ us hl=>ar2 us hl (λ_ _=>rfl)
 have d17:Df K mg "_law_cell" eC ["_law_script","_law_k"]:=⟨_,_,F17,W.mg_of X G a17,b17⟩
 have F18:=bt (st:=fA) l18 c18 k18
 have b18:=F18.binds (ps:=["_law_script","_law_at"]) λ_ _ _ _ _ _ us hl=>ar2 us hl (λ_ _=>rfl)
 have d18:Df K mg "_law_bag" fA ["_law_script","_law_at"]:=⟨_,_,F18,W.mg_of X G a18,b18⟩
 have F19:=bt (st:=eD) l19 c19 k19
 have b19:=F19.binds (ps:=["_law_bag_here","_law_many"]) λ_ _ _ _ _ _ us hl=>ar2 us hl (λ_ _=>rfl)
 have d19:Df K mg "_law_take" eD ["_law_bag_here","_law_many"]:=⟨_,_,F19,W.mg_of X G a19,b19⟩
 have F20:=bt (st:=dA) l20 c20 k20
 have b20:=F20.binds (ps:=["_law_bag_here","_law_n"]) λ_ _ _ _ _ _ us hl=>ar2 us hl (λ_ _=>rfl)
 have d20:Df K mg "_law_order" dA ["_law_bag_here","_law_n"]:=⟨_,_,F20,W.mg_of X G a20,b20⟩
 have F21:=bt (st:=bH) l21 c21 k21
 have b21:=F21.binds (ps:=["_law_bag_here","_law_n"]) λ_ _ _ _ _ _ us hl=>ar2 us hl (λ_ _=>rfl)
 have d21:Df K mg "_law_neighbours" bH ["_law_bag_here","_law_n"]:=⟨_,_,F21,W.mg_of X G a21,b21⟩
 have F22:=bt (st:=di) l22 c22 k22
 have b22:=F22.binds (ps:=["_law_bag_here","_law_n"]) λ_ _ _ _ _ _ us hl=>ar2 us hl (λ_ _=>rfl)
 have d22:Df K mg "_law_crowd" di ["_law_bag_here","_law_n"]:=⟨_,_,F22,W.mg_of X G a22,b22⟩
 have F23:=bt (st:=ck) l23 c23 k23
 have b23:=F23.binds (ps:=["_law_square","_law_c"]) λ_ _ _ _ _ _ us hl=>ar2 us hl (λ_ _=>rfl)
 have d23:Df K mg "_law_swapped" ck ["_law_square","_law_c"]:=⟨_,_,F23,W.mg_of X G a23,b23⟩
 have F24:=bt (st:=eF) l24 c24 k24
 have b24:=F24.binds (ps:=["_law_square","_law_c"]) λ_ _ _ _ _ _ us hl=>ar2 us hl (λ_ _=>rfl)
 have d24:Df K mg "_law_turn" eF ["_law_square","_law_c"]:=⟨_,_,F24,W.mg_of X G a24,b24⟩
 have F25:=bt (st:=cH) l25 c25 k25
 have b25:=F25.binds (ps:=["_law_square","_law_column","_law_row"]) λ_ _ _ _ _ _ us hl=>ar3 us hl (λ_ _ _=>rfl)
 have d25:Df K mg "_law_marked" cH ["_law_square","_law_column","_law_row"]:=⟨_,_,F25,W.mg_of X G a25,b25⟩
 have F26:=bt (st:=df) l26 c26 k26
 have b26:=F26.binds (ps:=["_law_square","_law_other","_law_c","_law_stand","_law_a","_law_b"]) λ_ _ _ _ _ _ us hl=>ar6 us hl (λ_ _ _ _ _ _=>rfl)
 have d26:Df K mg "_law_twice" df ["_law_square","_law_other","_law_c","_law_stand","_law_a","_law_b"]:=⟨_,_,F26,W.mg_of X G a26,b26⟩
 have F27:=bt (st:=fB) l27 c27 k27
 have b27:=F27.binds (ps:=["_law_square","_law_c","_law_crowd_here"]) λ_ _ _ _ _ _ us hl=>ar3 us hl (λ_ _ _=>rfl)
 have d27:Df K mg "_law_due" fB ["_law_square","_law_c","_law_crowd_here"]:=⟨_,_,F27,W.mg_of X G a27,b27⟩
 have F28:=bt (st:=dm) l28 c28 k28
 have b28:=F28.binds (ps:=["_law_square","_law_c","_law_crowd_here"]) λ_ _ _ _ _ _ us hl=>ar3 us hl (λ_ _ _=>rfl)
 have d28:Df K mg "_law_right" dm ["_law_square","_law_c","_law_crowd_here"]:=⟨_,_,F28,W.mg_of X G a28,b28⟩
 have F29:=bt (st:=j5) l29 c29 k29
 have b29:=F29.binds (ps:=["_law_script"]) λ_ _ _ _ _ _ us hl=>ar1 us hl (λ_=>rfl)
 have d29:Df K mg "law" j5 ["_law_script"]:=⟨_,_,F29,W.mg_of X G a29,b29⟩
 have B:Bt mg:=⟨W.mg_none_of X G z_abs,W.mg_none_of X G z_all,W.mg_none_of X G z_any,W.mg_none_of X G z_isinstance,W.mg_none_of X G z_len,W.mg_none_of X G z_list,W.mg_none_of X G z_max,W.mg_none_of X G z_min,W.mg_none_of X G z_range,W.mg_none_of X G z_set,W.mg_none_of X G z_sorted,W.mg_none_of X G z_tuple⟩
 refine⟨W.fnOf "law" "law" (aT j5) (aM j5) (am j5) .none kV29 dc29 pm29 an29 cd29 ct29,λs v=>.of_eq rfl,λbase _ _=>?_⟩
 have bA:=lH (P:=l.prog) (w:=w) (base:=base) B d0
 have cQ:=o4 (P:=l.prog) (w:=w) (base:=base) B d1
 have dJ:=qz (P:=l.prog) (w:=w) (base:=base) B d2 cQ
 have gn:=xl (P:=l.prog) (w:=w) (base:=base) B d3 cQ
 have lq:=AT (P:=l.prog) (w:=w) (base:=base) B d4 bA
 have mo:=xf (P:=l.prog) (w:=w) (base:=base) B d5 dJ gn
 have gX:=oX (P:=l.prog) (w:=w) (base:=base) B d6
 have cq:=nB (P:=l.prog) (w:=w) (base:=base) B d7
 have iO:=qg (P:=l.prog) (w:=w) (base:=base) B d8 cq
 have eV:=lB (P:=l.prog) (w:=w) (base:=base) B d9 iO bA
 have jZ:=xM (P:=l.prog) (w:=w) (base:=base) B d10 cq
 have fz:=vg (P:=l.prog) (w:=w) (base:=base) B d11
 have fR:=mY (P:=l.prog) (w:=w) (base:=base) B d12 fz
 have iM:=qv (P:=l.prog) (w:=w) (base:=base) B d13 fz
 have jL:=xV (P:=l.prog) (w:=w) (base:=base) B d14 gn fR iM mo dJ
 have jt:=tu (P:=l.prog) (w:=w) (base:=base) B d15 jL lq
 have qQ:=D3 (P:=l.prog) (w:=w) (base:=base) B d16 eV gX jZ jt
 have kE:=up (P:=l.prog) (w:=w) (base:=base) B d17
 have mH:=xQ (P:=l.prog) (w:=w) (base:=base) B d18 kE
 have bG:=u3 (P:=l.prog) (w:=w) (base:=base) B d19
 have cz:=tH (P:=l.prog) (w:=w) (base:=base) B d20 bG
 have fy:=mG (P:=l.prog) (w:=w) (base:=base) B d21 bG cz
 have jx:=tL (P:=l.prog) (w:=w) (base:=base) B d22 bG cz
 have g8:=oP (P:=l.prog) (w:=w) (base:=base) B d23
 have iV:=uP (P:=l.prog) (w:=w) (base:=base) B d24
 have iL:=qa (P:=l.prog) (w:=w) (base:=base) B d25
 have jA:=tU (P:=l.prog) (w:=w) (base:=base) B d26 iV iL
 have mz:=wR (P:=l.prog) (w:=w) (base:=base) B d27 g8 jA
 have jo:=tT (P:=l.prog) (w:=w) (base:=base) B d28 mz qQ
 exact D8 (Ez (P:=l.prog) (w:=w) (base:=base) B F29 mH fy bG jo jx) D5
end L2
theorem PySem.W.Fast.tw17193118634260590042:True:=⟨⟩
theorem PySem.W.Fast.tw14491127383374275910:True:=⟨⟩
theorem PySem.W.Fast.tw6312264780593700131:True:=⟨⟩
theorem PySem.W.Fast.tw6756766622177689727:True:=⟨⟩
theorem PySem.W.Fast.tw3606696821630446914:True:=⟨⟩
theorem PySem.W.Fast.tw5203038694222668064:True:=⟨⟩
theorem PySem.W.Fast.tw18122327407129678676:True:=⟨⟩
theorem PySem.W.Fast.tw7937326194914793397:True:=⟨⟩
theorem PySem.W.Fast.tw11478360248842462403:True:=⟨⟩
theorem PySem.W.Fast.tw12335262449182239415:True:=⟨⟩
theorem PySem.W.Fast.tw13754089253931424064:True:=⟨⟩
theorem PySem.W.Fast.tw2428050524130666777:True:=⟨⟩
theorem PySem.W.Fast.tw12183263711413576762:True:=⟨⟩
theorem PySem.W.Fast.tw17124898980854300905:True:=⟨⟩
theorem PySem.W.Fast.tw601980918810988002:True:=⟨⟩
theorem PySem.W.Fast.tw8689897952513598031:True:=⟨⟩
theorem PySem.W.Fast.tw16565768594075612152:True:=⟨⟩
theorem PySem.W.Fast.tw326475948750774837:True:=⟨⟩
theorem PySem.W.Fast.tw18109438686686355385:True:=⟨⟩
theorem PySem.W.Fast.tw4016292663559558316:True:=⟨⟩
theorem PySem.W.Fast.tw769889441482749424:True:=⟨⟩
theorem PySem.W.Fast.tw18129182330380722138:True:=⟨⟩
theorem PySem.W.Fast.tw3719390386206490947:True:=⟨⟩
theorem PySem.W.Fast.tw9408314770824084332:True:=⟨⟩
open PySem PySem.W PyProof.Rows
set_option maxRecDepth 100000 in
set_option maxHeartbeats 0 in
theorem PySem.Challenge.cw_rookborders_k49_tied_crowds_holds : PySem.Challenge.rw_rookborders_k49_tied_crowds.Holds := by
 w_on;o_law;k_head;(case hw=>w_witness2)
 k_fill
 refine L2.walkD (l:=PySem.Challenge.rw_rookborders_k49_tied_crowds) (k:=8) (x:="_law_script") rfl rfl ⟨rfl,by decide,by decide⟩ (λw h Y=>W.kIn_of Y) ?F
 case F=>
  intro w mg fa h KX G hmg
  refine' L2.all_mk KX G hmg ?a0 ?l0 ?c0 ?k0 ?a1 ?l1 ?c1 ?k1 ?a2 ?l2 ?c2 ?k2 ?a3 ?l3 ?c3 ?k3 ?a4 ?l4 ?c4 ?k4 ?a5 ?l5 ?c5 ?k5 ?a6 ?l6 ?c6 ?k6 ?a7 ?l7 ?c7 ?k7 ?a8 ?l8 ?c8 ?k8 ?a9 ?l9 ?c9 ?k9 ?a10 ?l10 ?c10 ?k10 ?a11 ?l11 ?c11 ?k11 ?a12 ?l12 ?c12 ?k12 ?a13 ?l13 ?c13 ?k13 ?a14 ?l14 ?c14 ?k14 ?a15 ?l15 ?c15 ?k15 ?a16 ?l16 ?c16 ?k16 ?a17 ?l17 ?c17 ?k17 ?a18 ?l18 ?c18 ?k18 ?a19 ?l19 ?c19 ?k19 ?a20 ?l20 ?c20 ?k20 ?a21 ?l21 ?c21 ?k21 ?a22 ?l22 ?c22 ?k22 ?a23 ?l23 ?c23 ?k23 ?a24 ?l24 ?c24 ?k24 ?a25 ?l25 ?c25 ?k25 ?a26 ?l26 ?c26 ?k26 ?a27 ?l27 ?c27 ?k27 ?a28 ?l28 ?c28 ?k28 ?a29 ?l29 ?c29 ?k29 ?z_abs ?z_all ?z_any ?z_isinstance ?z_len ?z_list ?z_max ?z_min ?z_range ?z_set ?z_sorted ?z_tuple
  (case a0=>k_is)
  (case l0=>k_is)
  (case c0=>k_is)
  (case k0=>k_is)
  (case a1=>k_is)
  (case l1=>k_is)
  (case c1=>k_is)
  (case k1=>k_is)
  (case a2=>k_is)
  (case l2=>k_is)
  (case c2=>k_is)
  (case k2=>k_is)
  (case a3=>k_is)
  (case l3=>k_is)
  (case c3=>k_is)
  (case k3=>k_is)
  (case a4=>k_is)
  (case l4=>k_is)
  (case c4=>k_is)
  (case k4=>k_is)
  (case a5=>k_is)
  (case l5=>k_is)
  (case c5=>k_is)
  (case k5=>k_is)
  (case a6=>k_is)
  (case l6=>k_is)
  (case c6=>k_is)
  (case k6=>k_is)
  (case a7=>k_is)
  (case l7=>k_is)
  (case c7=>k_is)
  (case k7=>k_is)
  (case a8=>k_is)
  (case l8=>k_is)
  (case c8=>k_is)
  (case k8=>k_is)
  (case a9=>k_is)
  (case l9=>k_is)
  (case c9=>k_is)
  (case k9=>k_is)
  (case a10=>k_is)
  (case l10=>k_is)
  (case c10=>k_is)
  (case k10=>k_is)
  (case a11=>k_is)
  (case l11=>k_is)
  (case c11=>k_is)
  (case k11=>k_is)
  (case a12=>k_is)
  (case l12=>k_is)
  (case c12=>k_is)
  (case k12=>k_is)
  (case a13=>k_is)
  (case l13=>k_is)
  (case c13=>k_is)
  (case k13=>k_is)
  (case a14=>k_is)
  (case l14=>k_is)
  (case c14=>k_is)
  (case k14=>k_is)
  (case a15=>k_is)
  (case l15=>k_is)
  (case c15=>k_is)
  (case k15=>k_is)
  (case a16=>k_is)
  (case l16=>k_is)
  (case c16=>k_is)
  (case k16=>k_is)
  (case a17=>k_is)
  (case l17=>k_is)
  (case c17=>k_is)
  (case k17=>k_is)
  (case a18=>k_is)
  (case l18=>k_is)
  (case c18=>k_is)
  (case k18=>k_is)
  (case a19=>k_is)
  (case l19=>k_is)
  (case c19=>k_is)
  (case k19=>k_is)
  (case a20=>k_is)
  (case l20=>k_is)
  (case c20=>k_is)
  (case k20=>k_is)
  (case a21=>k_is)
  (case l21=>k_is)
  (case c21=>k_is)
  (case k21=>k_is)
  (case a22=>k_is)
  (case l22=>k_is)
  (case c22=>k_is)
  (case k22=>k_is)
  (case a23=>k_is)
  (case l23=>k_is)
  (case c23=>k_is)
  (case k23=>k_is)
  (case a24=>k_is)
  (case l24=>k_is)
  (case c24=>k_is)
  (case k24=>k_is)
  (case a25=>k_is)
  (case l25=>k_is)
  (case c25=>k_is)
  (case k25=>k_is)
  (case a26=>k_is)
  (case l26=>k_is)
  (case c26=>k_is)
  (case k26=>k_is)
  (case a27=>k_is)
  (case l27=>k_is)
  (case c27=>k_is)
  (case k27=>k_is)
  (case a28=>k_is)
  (case l28=>k_is)
  (case c28=>k_is)
  (case k28=>k_is)
  (case a29=>k_is)
  (case l29=>k_is)
  (case c29=>k_is)
  (case k29=>k_is)
  (case z_abs=>k_is)
  (case z_all=>k_is)
  (case z_any=>k_is)
  (case z_isinstance=>k_is)
  (case z_len=>k_is)
  (case z_list=>k_is)
  (case z_max=>k_is)
  (case z_min=>k_is)
  (case z_range=>k_is)
  (case z_set=>k_is)
  (case z_sorted=>k_is)
  (case z_tuple=>k_is)
