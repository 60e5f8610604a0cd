import PyProof.Rows.All
import Wide.All
import OpenK.AllK
import Wide.FinOn
import PyProof.EqAt
import PyProof.EqKinds
import PyProof.TupleCall
import PyProof.NeKinds
import PyProof.FactsAll.dict_1
import PyProof.FactsAll.dict_2
import PyProof.FactsAll.subtypes
import PyProof.FactsAll.tuple_2
import PyProof.FactsAll.tuple_3
import PyProof.ListRange
import KE.KSortTup
import PyProof.EnumMake
import PyProof.AutoSeq1
import PyProof.Rows.SeqMore
import KE.KIsAll
import PyProof.ExcArgsOwn
import PyProof.ExcBaseAll.ValueError
import PyProof.ExcAttrAll.ValueError
import OpenK.KOwn
import PyProof.RulesAs
import PyProof.AutoRange
import PyProof.SeqRoads2
import PyProof.ZipIter
import PyProof.StrCalls2
import KE.KDictSum
import PyProof.SumAny
import KE.KRevIter
import PyProof.Rows.FStr
import PyProof.Rows.FStrParts
import KE.KRevSl
import PyProof.Rows.SetFrom
import PyProof.Rows.SortRev
import Lean
import PySem.Challenge.RW_rookborders_k87_tables_written
set_option bootstrap.genMatcherCode false
set_option Elab.async false
set_option linter.all false
set_option maxRecDepth 100000
set_option maxHeartbeats 1000000
namespace L2
open PySem
theorem nz {n:Nat}{l:List Nat}(nd:l.Nodup)(h: ∀z∈l,z<n):l.length<=n:=by
 have p:l.Perm ((List.range n).filter λz=>decide (z∈l)):=(List.perm_ext_iff_of_nodup nd (List.Pairwise.filter _ List.nodup_range)).mpr λz=>by
  rw[List.mem_filter,List.mem_range,decide_eq_true_eq];exact⟨λq=>⟨h z q,q⟩,λq=>q.2⟩
 rw[p.length_eq];exact Nat.le_trans (List.length_filter_le _ _) (by simp)
def gb:Nat->Nat
 |0=>0
 |n+1=>5*gb n+1
theorem pq(m:Nat): ∀n,gb (m+n)=5^n*gb m+gb n
 |0=>by simp[gb]
 |n+1=>by
  show 5*gb (m+n)+1=_;rw[pq m n,Nat.pow_succ];show _=5^n*5*gb m+(5*gb n+1);rw[Nat.mul_add,Nat.mul_right_comm,Nat.mul_comm 5 (5^n*gb m)];omega
theorem va: ∀n,gb n % 2=n % 2
 |0=>rfl
 |n+1=>by have:=va n;show(5*gb n+1) % 2=_;omega
theorem lT: ∀n,5^n=4*gb n+1
 |0=>rfl
 |n+1=>by rw[Nat.pow_succ,lT n];show _=4*(5*gb n+1)+1;omega
theorem Gv(k a:Nat)(h:a % 2=1):Nat.Coprime (2^k) a:=by
 refine Nat.Coprime.pow_left k ?_
 show Nat.gcd 2 a=1;rw[Nat.gcd_rec,h];decide
theorem u6: ∀(k d:Nat),2^k∣gb d->2^k∣d
 |0,d,_=>by simp
 |k+1,d,h=>by
  have hp:=va d
  have h2:2∣gb d:=Nat.dvd_trans ⟨2^k,by rw[Nat.pow_succ,Nat.mul_comm]⟩ h
  obtain⟨e,rfl⟩: ∃e,d=e+e:=⟨d / 2,by have:=Nat.mod_eq_zero_of_dvd h2;omega⟩
  have e1:gb (e+e)=2*(gb e*(2*gb e+1)):=by
   rw[pq,lT];have:(4*gb e+1)*gb e+gb e=(2*(2*gb e+1))*gb e:=by
    rw[<-Nat.succ_mul];congr 1;omega
   rw[this,Nat.mul_assoc,Nat.mul_comm (2*gb e+1)]
  rw[e1,Nat.pow_succ,Nat.mul_comm] at h;have h3:=Nat.dvd_of_mul_dvd_mul_left (by omega) h
  have h4:=(Gv k (2*gb e+1) (by omega)).dvd_of_dvd_mul_right h3
  obtain⟨q,hq⟩:=u6 k e h4
  exact⟨q,by rw[Nat.pow_succ];rw[show 2^k*2*q=2^k*q+2^k*q by rw[Nat.mul_right_comm];omega,<-hq]⟩
def uF(M:Nat):Nat->Nat->Nat
 |0,i=>i
 |n+1,i=>(uF M n i*5+1) % M
theorem oY(M i:Nat): ∀n,uF M n i % M=(5^n*i+gb n) % M
 |0=>by simp[uF,gb]
 |n+1=>by
  show(uF M n i*5+1) % M % M=_;rw[Nat.mod_mod,Nat.add_mod,Nat.mul_mod,oY M i n,<-Nat.mul_mod,<-Nat.add_mod];congr 1
  show(5^n*i+gb n)*5+1=5^(n+1)*i+(5*gb n+1);rw[Nat.pow_succ,Nat.add_mul,Nat.mul_right_comm];omega
theorem AE {k i m d:Nat}(h:uF (2^k) m i % 2^k=uF (2^k) (m+d) i % 2^k):2^k∣d:=by
 rw[oY,oY,pq,Nat.pow_add] at h;have e:5^m*5^d*i+(5^d*gb m+gb d)=5^m*i+gb m+gb d*(4*(5^m*i+gb m)+1):=by
  rw[lT d]
  generalize 5^m=a;generalize gb m=b;generalize gb d=c
  grind
 rw[e] at h;have h2:(gb d*(4*(5^m*i+gb m)+1)) % 2^k=0:=by
  have hd:=Nat.sub_mod_eq_zero_of_mod_eq h.symm
  rw[Nat.add_sub_cancel_left] at hd;exact hd
 exact u6 k d ((Gv k _ (by omega)).dvd_of_dvd_mul_right (Nat.dvd_of_mod_eq_zero h2))
theorem Dd {k:Nat}{i:Nat}(hi:i<2^k){j:Nat}(hj:j<2^k): ∃n,n<2^k/\uF (2^k) n i=j:=by
 have lt: ∀n,uF (2^k) n i<2^k:=λn=>by
  cases n with
  |zero=>exact hi
  |succ n=>exact Nat.mod_lt _ (Nat.two_pow_pos k)
 have nd:((List.range (2^k)).map λn=>uF (2^k) n i).Nodup:=by
  rw[List.Nodup,List.pairwise_map];refine List.Pairwise.imp_of_mem (λ{a b} ha hb hab e=>?_) List.pairwise_lt_range
  rw[List.mem_range] at hb;obtain⟨d,rfl⟩:=Nat.exists_eq_add_of_lt hab
  have:=AE (k:=k) (i:=i) (m:=a) (d:=d+1) (by rw[show a+(d+1)=a+d+1 by omega,<-e])
  have:=Nat.le_of_dvd (by omega) this
  omega
 by_cases h:j∈(List.range (2^k)).map λn=>uF (2^k) n i
 ·obtain⟨n,hn,e⟩:=List.mem_map.mp h
  exact⟨n,List.mem_range.mp hn,e⟩
 ·exfalso
  have h1:=nz (n:=2^k) (List.nodup_cons.mpr ⟨h,nd⟩) (λz hz=>by
   rcases List.mem_cons.mp hz with rfl|hz
   ·exact hj
   ·obtain⟨n,_,rfl⟩:=List.mem_map.mp hz;exact lt n)
  simp at h1;omega
abbrev Pb:=SetTable.Probe
def uw(mask:Nat)(p:Pb):Pb:=
 if p.more>0 then {p with j:=p.j+1,more:=p.more-1} else
 {p with j:=(SetTable.leap mask p.i p.perturb).1,more:=SetTable.runEnd mask (SetTable.leap mask p.i p.perturb).1- (SetTable.leap mask p.i p.perturb).1,i:=(SetTable.leap mask p.i p.perturb).1,perturb:=(SetTable.leap mask p.i p.perturb).2}
theorem sk(t:SetTable)(p:Pb):t.advance p=uw t.mask p:=rfl
theorem wE(mask:Nat)(p:Pb)(d:Option Nat):uw mask {p with dummy:=d}={uw mask p with dummy:=d}:=by
 unfold uw;dsimp only;split<;>rfl
def ia(mask i perturb:Nat)(d:Option Nat):Pb:={j:=i,more:=SetTable.runEnd mask i-i,i:=i,perturb:=perturb,dummy:=d}
def cb(mask:Nat):Nat->Pb->Pb
 |0,p=>p
 |n+1,p=>cb mask n (uw mask p)
theorem jb(mask m:Nat): ∀(n:Nat) (p:Pb),cb mask (n+m) p=cb mask m (cb mask n p)
 |0,p=>by rw[Nat.zero_add];rfl
 |n+1,p=>by rw[Nat.succ_add];exact jb mask m n (uw mask p)
theorem fE(mask n:Nat)(p:Pb):cb mask (n+1) p=uw mask (cb mask n p):=jb mask 1 n p
theorem iP(mask:Nat)(d:Option Nat): ∀(n:Nat) (p:Pb),cb mask n {p with dummy:=d}={cb mask n p with dummy:=d}
 |0,p=>rfl
 |n+1,p=>by
  show cb mask n (uw mask {p with dummy:=d})=_
  rw[wE,iP mask d n];rfl
theorem pb(mask:Nat): ∀(n:Nat) (p:Pb),n<=p.more->cb mask n p={p with j:=p.j+n,more:=p.more-n}
 |0,p,_=>rfl
 |n+1,p,h=>by
  show cb mask n (uw mask p)=_;have:uw mask p={p with j:=p.j+1,more:=p.more-1}:=if_pos (by omega)
  rw[this,pb mask n _ (by show n<=p.more-1;omega)]
  show({p with j:=p.j+1+n,more:=p.more-1-n}:Pb)={p with j:=p.j+(n+1),more:=p.more- (n+1)}
  rw[show p.j+1+n=p.j+(n+1) by omega,show p.more-1-n=p.more- (n+1) by omega]
theorem qE(mask:Nat)(p:Pb):cb mask (p.more+1) p=ia mask ((p.i*5+1+p.perturb / 32) % (mask+1)) (p.perturb / 32) p.dummy:=by
 rw[fE,pb mask p.more p (Nat.le_refl _)];unfold uw;dsimp only;rw[Nat.sub_self,if_neg (by omega)]
 rfl
theorem v6(mask i perturb:Nat)(d:Option Nat):(ia mask i perturb d).more<=9:=by
 show SetTable.runEnd mask i-i<=9;unfold SetTable.runEnd;split<;>omega
def lp(mask:Nat):Nat->Nat×Nat->Nat×Nat
 |0,x=>x
 |n+1,x=>lp mask n ((x.1*5+1+x.2 / 32) % (mask+1),x.2 / 32)
theorem uc(mask:Nat)(d:Option Nat): ∀(n i perturb:Nat),∃m,m<=10*n/\cb mask m (ia mask i perturb d)=ia mask (lp mask n (i,perturb)).1 (lp mask n (i,perturb)).2 d
 |0,i,perturb=>⟨0,by omega,rfl⟩
 |n+1,i,perturb=>by
  obtain⟨m,h1,h2⟩:=uc mask d n ((i*5+1+perturb / 32) % (mask+1)) (perturb / 32)
  have lm:=v6 mask i perturb d
  refine⟨(ia mask i perturb d).more+1+m,by omega,?_⟩
  rw[jb,qE];exact h2
theorem Ab {k mask:Nat}(hk:mask+1=2^k): ∀(n i:Nat),lp mask n (i,0)=(uF (2^k) n i,0):=by
 have key: ∀(n:Nat) (x:Nat),uF (2^k) n ((x*5+1) % 2^k)=uF (2^k) (n+1) x:=by
  intro n
  induction n with
  |zero=>intro x;rfl
  |succ n ih=>intro x;show(uF (2^k) n ((x*5+1) % 2^k)*5+1) % 2^k=_;rw[ih x];rfl
 intro n
 induction n with
 |zero=>intro i;rfl
 |succ n ih=>
  intro i;show lp mask n ((i*5+1+0 / 32) % (mask+1),0 / 32)=_;rw[Nat.zero_div,Nat.add_zero,hk,ih,key]
theorem yY(mask:Nat): ∀(m n:Nat) (x:Nat×Nat),lp mask (m+n) x=lp mask n (lp mask m x)
 |0,n,x=>by rw[Nat.zero_add];rfl
 |m+1,n,x=>by rw[Nat.succ_add];exact yY mask m n _
theorem u9(mask:Nat): ∀(n i perturb:Nat),(lp mask n (i,perturb)).2=perturb / 32^n
 |0,i,perturb=>by simp[lp]
 |n+1,i,perturb=>by
  show(lp mask n _).2=_;rw[u9,Nat.div_div_eq_div_mul,<-Nat.pow_succ']
theorem Bl(mask:Nat): ∀(n:Nat) (x:Nat×Nat),x.1<=mask->(lp mask n x).1<=mask
 |0,x,h=>h
 |n+1,x,_=>Bl mask n _ (Nat.lt_succ_iff.mp (Nat.mod_lt _ (by omega)))
theorem xH {k mask:Nat}(hk:mask+1=2^k){i perturb:Nat}(hi:i<=mask)(hp:perturb<2^64){j:Nat}(hj:j<=mask): ∃n,n<=13+mask/\(lp mask n (i,perturb)).1=j:=by
 have e13:lp mask 13 (i,perturb)=((lp mask 13 (i,perturb)).1,0):=by
  have:=u9 mask 13 i perturb
  rw[Nat.div_eq_of_lt (Nat.lt_of_lt_of_le hp (by decide))] at this
  exact Prod.ext rfl this
 obtain⟨n,hn,e⟩:=Dd (k:=k) (i:=(lp mask 13 (i,perturb)).1) (by have:=Bl mask 13 (i,perturb) hi;omega) (j:=j) (by omega)
 refine⟨13+n,by omega,?_⟩
 rw[yY,e13,Ab hk];exact e
def oA(mask:Nat)(h:Int)(d:Option Nat):Pb:=ia mask (SetTable.bits h % (mask+1)) (SetTable.bits h) d
def Jx(mask:Nat)(h:Int)(m:Nat):Nat:=(cb mask m (oA mask h none)).j
theorem Dh(mask:Nat)(h:Int)(m:Nat)(d:Option Nat):(cb mask m (oA mask h d)).j=Jx mask h m:=by
 have:oA mask h d={oA mask h none with dummy:=d}:=rfl
 rw[this,iP];rfl
theorem vc(h:Int):SetTable.bits h<2^64:=by
 unfold SetTable.bits;have h1:0<=h % (2^64:Int):=Int.emod_nonneg _ (by decide)
 have h2:h % (2^64:Int)<2^64:=Int.emod_lt_of_pos _ (by decide)
 have h3:((2:Int)^64)=((2^64:Nat):Int):=by decide
 omega
theorem C4 {k mask:Nat}(hk:mask+1=2^k)(h:Int){j:Nat}(hj:j<=mask): ∃m,m<=10*(13+mask)/\Jx mask h m=j:=by
 obtain⟨n,hn,e⟩:=xH hk (i:=SetTable.bits h % (mask+1)) (perturb:=SetTable.bits h) (Nat.lt_succ_iff.mp (Nat.mod_lt _ (by omega))) (vc h) hj
 obtain⟨m,hm,e2⟩:=uc mask none n (SetTable.bits h % (mask+1)) (SetTable.bits h)
 refine⟨m,by omega,?_⟩
 show(cb mask m (ia mask (SetTable.bits h % (mask+1)) (SetTable.bits h) none)).j=j;rw[e2];exact e
def Ris(xs:Array Nat):Prop:=xs.toList.Pairwise (·< ·)
theorem Ris.lt {xs:Array Nat}(r:Ris xs){i j:Nat}(hij:i<j){a b:Nat}(ha:xs[i]? =some a)(hb:xs[j]? =some b):a<b:=by
 rw[<-Array.getElem?_toList] at ha hb;obtain⟨h1,e1⟩:=List.getElem?_eq_some_iff.mp ha
 obtain⟨h2,e2⟩:=List.getElem?_eq_some_iff.mp hb
 have:=List.pairwise_iff_getElem.mp r i j h1 h2 hij
 rw[e1,e2] at this;exact this
theorem Ris.inj {xs:Array Nat}(r:Ris xs){i j:Nat}{a:Nat}(ha:xs[i]? =some a)(hb:xs[j]? =some a):i=j:=by
 rcases Nat.lt_trichotomy i j with h|h|h
 ·exact absurd (r.lt h ha hb) (by omega)
 ·exact h
 ·exact absurd (r.lt h hb ha) (by omega)
structure Bel(xs:Array Nat)(j p:Nat):Prop where
 le:p<=xs.size
 lo: ∀i a,i<p->xs[i]? =some a->a<j
 hi: ∀i a,p<=i->xs[i]? =some a->j<=a
theorem tL {xs:Array Nat}(r:Ris xs)(j:Nat): ∀(fuel lo hi:Nat),hi-lo<=fuel->lo<=hi->hi<=xs.size->(∀i a,i<lo->xs[i]? =some a->a<j)->(∀i a,hi<=i->xs[i]? =some a->j<=a)->Bel xs j (SetTable.below.go xs j fuel lo hi)
 |0,lo,hi,h1,h2,h3,h4,h5=>by
  have:lo=hi:=by omega
  subst this;exact⟨h3,h4,h5⟩
 |fuel+1,lo,hi,h1,h2,h3,h4,h5=>by
  unfold SetTable.below.go
  by_cases hlt:lo<hi
  ·rw[if_pos hlt]
   dsimp only;have hm:(lo+hi) / 2<xs.size:=by omega
   have em:xs[(lo+hi) / 2]? =some xs[(lo+hi) / 2]:=Array.getElem?_eq_getElem hm
   have eg:xs.getD ((lo+hi) / 2) j=xs[(lo+hi) / 2]:=by simp[Array.getD,hm]
   rw[eg]
   by_cases c:xs[(lo+hi) / 2]<j
   ·rw[if_pos c]
    refine tL r j fuel _ hi (by omega) (by omega) h3 (λi a hi' ha=>?_) h5
    by_cases e:i=(lo+hi) / 2
    ·subst e;rw[em] at ha;cases ha;exact c
    ·exact Nat.lt_trans (r.lt (by omega) ha em) c
   ·rw[if_neg c]
    refine tL r j fuel lo _ (by omega) (by omega) (by omega) h4 (λi a hi' ha=>?_)
    by_cases e:i=(lo+hi) / 2
    ·subst e;rw[em] at ha;cases ha;omega
    ·have:=r.lt (by omega) em ha;omega
  ·rw[if_neg hlt]
   have:lo=hi:=by omega
   subst this;exact⟨h3,h4,h5⟩
theorem Es {xs:Array Nat}(r:Ris xs)(j:Nat):Bel xs j (SetTable.below xs j):=tL r j _ _ _ (by omega) (by omega) (by omega) (λi a h _=>absurd h (by omega)) λi a h e=>by
 rw[Array.getElem?_eq_none h] at e;cases e
theorem oE {xs:Array Nat}(r:Ris xs){j i:Nat}(h:xs[i]? =some j):SetTable.below xs j=i:=by
 have b:=Es r j
 rcases Nat.lt_trichotomy i (SetTable.below xs j) with c|c|c
 ·exact absurd (b.lo i j c h) (by omega)
 ·exact c.symm
 ·have lt:SetTable.below xs j<xs.size:=Nat.lt_trans c (Array.getElem?_eq_some_iff.mp h).1
  have e:xs[SetTable.below xs j]? =some xs[SetTable.below xs j]:=Array.getElem?_eq_getElem lt
  have h1:=b.hi _ _ (Nat.le_refl _) e
  have h2:=r.lt c e h
  omega
theorem gW {xs:Array Nat}(r:Ris xs)(j:Nat):SetTable.has xs j=true↔j∈xs.toList:=by
 unfold SetTable.has;rw[beq_iff_eq];constructor
 ·intro h
  rw[<-Array.getElem?_toList] at h;exact List.mem_of_getElem? h
 ·intro h
  obtain⟨i,hi⟩:=List.mem_iff_getElem?.mp h
  rw[Array.getElem?_toList] at hi;rw[oE r hi];exact hi
structure TOk(t:SetTable)(hs:List Int):Prop where
 pw: ∃k,3<=k/\k<=12/\t.mask+1=2^k
 sz:t.place.size=hs.length
 sp:Ris t.place
 sd:Ris t.dummies
 lp: ∀j∈t.place.toList,j<=t.mask
 ld: ∀j∈t.dummies.toList,j<=t.mask
 dj: ∀j∈t.dummies.toList,j∉t.place.toList
 fl:t.fill<=t.mask
 rc: ∀x∈hs.zip t.place.toList,∃m,Jx t.mask x.1 m=x.2/\ ∀m',m'<m->Jx t.mask x.1 m'∈t.place.toList\/Jx t.mask x.1 m'∈t.dummies.toList
def nv(t:SetTable)(j:Nat):Prop:=j∈t.place.toList\/j∈t.dummies.toList
section
variable {t:SetTable}{hs:List Int}(T:TOk t hs)
include T
theorem TOk.mask:t.mask<=4095:=by
 obtain⟨k,h3,h12,e⟩:=T.pw
 have:=Nat.pow_le_pow_right (n:=2) (by omega) h12
 have:(2:Nat)^12=4096:=by decide
 omega
theorem TOk.noway:t.gaveWay=false:=by
 obtain⟨k,h3,h12,e⟩:=T.pw
 unfold SetTable.gaveWay;have:2^k % 2=0:=by
  obtain⟨m,rfl⟩:=Nat.exists_eq_add_of_le h3
  rw[Nat.pow_add];omega
 rw[beq_eq_false_iff_ne];omega
theorem j3 {j i:Nat}(h:t.place[i]? =some j):t.slot j=.live i:=by
 unfold SetTable.slot;rw[oE T.sp h,if_pos (by rw[h];exact beq_self_eq_true _)]
theorem mj {j:Nat}(h:j∈t.dummies.toList):t.slot j=.dummy:=by
 unfold SetTable.slot;have e: ¬(t.place[SetTable.below t.place j]? ==some j)=true:=λw=>by
  rw[beq_iff_eq,<-Array.getElem?_toList] at w;exact T.dj j h (List.mem_of_getElem? w)
 dsimp only;rw[if_neg e,if_pos ((gW T.sd j).mpr h)]
theorem sD {j:Nat}(h: ¬nv t j):t.slot j=.empty:=by
 unfold SetTable.slot;have e: ¬(t.place[SetTable.below t.place j]? ==some j)=true:=λw=>by
  rw[beq_iff_eq,<-Array.getElem?_toList] at w;exact h (.inl (List.mem_of_getElem? w))
 dsimp only;rw[if_neg e,if_neg λw=>h (.inr ((gW T.sd j).mp w))]
theorem TOk.room: ∃j,j<=t.mask/\ ¬nv t j:=by
 refine Classical.byContradiction λh=>?_
 have all: ∀j,j<=t.mask->nv t j:=λj hj=>Classical.byContradiction λn=>h ⟨j,hj,n⟩
 have nd:(t.place.toList++t.dummies.toList).Nodup:=by
  refine List.nodup_append.mpr ⟨T.sp.imp λh=>Nat.ne_of_lt h,T.sd.imp λh=>Nat.ne_of_lt h,λa ha b hb e=>?_⟩
  subst e;exact T.dj _ hb ha
 have:t.mask+1<=(t.place.toList++t.dummies.toList).length:=by
  have h1:(List.range (t.mask+1)).length<=(t.place.toList++t.dummies.toList).length:=by
   refine List.Nodup.length_le_of_subset List.nodup_range λj hj=>?_
   rw[List.mem_range] at hj;rw[List.mem_append];exact all j (by omega)
  simpa using h1
 have fl:=T.fl
 unfold SetTable.fill at fl;rw[List.length_append,Array.length_toList,Array.length_toList] at this;omega
theorem TOk.first(h:Int): ∃M,M<=10*(13+t.mask)/\ ¬nv t (Jx t.mask h M)/\ ∀m,m<M->nv t (Jx t.mask h m):=by
 obtain⟨k,_,_,e⟩:=T.pw
 obtain⟨j,hj,hn⟩:=T.room
 obtain⟨m,hm,em⟩:=C4 e h hj
 have ex: ∀n,(∃m,m<=n/\ ¬nv t (Jx t.mask h m))-> ∃M,M<=n/\ ¬nv t (Jx t.mask h M)/\ ∀m,m<M->nv t (Jx t.mask h m):=by
  intro n
  induction n with
  |zero=>rintro⟨m,hm,q⟩;obtain rfl:m=0:=(by omega);exact⟨0,by omega,q,λ_ h=>absurd h (by omega)⟩
  |succ n ih=>
   rintro⟨m,hm,q⟩
   by_cases c: ∃m,m<=n/\ ¬nv t (Jx t.mask h m)
   ·obtain⟨M,h1,h2,h3⟩:=ih c;exact⟨M,by omega,h2,h3⟩
   ·have:m=n+1:=Classical.byContradiction λw=>c ⟨m,by omega,q⟩
    subst this;exact⟨n+1,by omega,q,λm' hm'=>Classical.byContradiction λw=>c ⟨m',by omega,w⟩⟩
 obtain⟨M,h1,h2,h3⟩:=ex (10*(13+t.mask)) ⟨m,hm,by rw[em];exact hn⟩
 exact⟨M,h1,h2,h3⟩
end
def EK(t:SetTable)(h:Int)(M:Nat)(d:Option Nat):Prop:= ∀x,d=some x->x∈t.dummies.toList/\ ∃m,m<M/\Jx t.mask h m=x
def Dv(t:SetTable)(hashAt:Nat->Int)(h:Int)(m n:Nat):Prop:= ∀m',m<=m'->m'<n-> ∀i:Nat,t.place[i]? =some (Jx t.mask h m')->hashAt i≠h
theorem pM(mask:Nat)(h:Int)(m:Nat)(d:Option Nat):cb mask m (oA mask h d)=⟨Jx mask h m,(cb mask m (oA mask h none)).more,(cb mask m (oA mask h none)).i,(cb mask m (oA mask h none)).perturb,d⟩:=iP mask d m (oA mask h none)
section
variable {t:SetTable}{hs:List Int}(T:TOk t hs)
include T
theorem l5(hashAt:Nat->Int){h:Int}{M:Nat}(h1: ¬nv t (Jx t.mask h M))(h2: ∀m,m<M->nv t (Jx t.mask h m)): ∀(fuel m:Nat) (d:Option Nat),M<m+fuel->m<=M->EK t h M d->
 ∃r,SetTable.probe.go t hashAt h fuel (cb t.mask m (oA t.mask h d))=some r/\
  ((∃d',r=.empty (Jx t.mask h M) d'/\EK t h M d'/\Dv t hashAt h m M)\/
   (∃c i d',m<=c/\c<M/\t.place[i]? =some (Jx t.mask h c)/\hashAt i=h/\r=.candidate (Jx t.mask h c) i (cb t.mask (c+1) (oA t.mask h d'))/\EK t h M d'/\Dv t hashAt h m c))
 |0,m,d,q1,q2,_=>absurd q1 (by omega)
 |fuel+1,m,d,q1,q2,hd=>by
  unfold SetTable.probe.go;rw[Dh]
  by_cases em:m=M
  ·subst em
   rw[sD T h1];have ed:(cb t.mask m (oA t.mask h d)).dummy=d:=by rw[pM]
   exact⟨_,rfl,.inl ⟨d,by rw[ed],hd,λm' a b=>absurd a (by omega)⟩⟩
  ·have lt:m<M:=by omega
   rcases h2 m lt with hu|hu
   ·obtain⟨i,hi⟩:=List.mem_iff_getElem?.mp hu
    rw[Array.getElem?_toList] at hi;rw[j3 T hi];dsimp only
    by_cases eh:hashAt i=h
    ·rw[if_pos (beq_iff_eq.mpr eh),sk,<-fE]
     exact⟨_,rfl,.inr ⟨m,i,d,Nat.le_refl _,lt,hi,eh,rfl,hd,λm' a b=>absurd a (by omega)⟩⟩
    ·rw[if_neg (λw=>eh (beq_iff_eq.mp w)),sk,<-fE]
     obtain⟨r,hr,hc⟩:=l5 hashAt h1 h2 fuel (m+1) d (by omega) (by omega) hd
     have nc: ∀n,Dv t hashAt h (m+1) n->Dv t hashAt h m n:=λn q m' a b i' hi'=>by
      by_cases e:m'=m
      ·subst e;rw[T.sp.inj hi' hi];exact eh
      ·exact q m' (by omega) b i' hi'
     refine⟨r,hr,?_⟩
     rcases hc with⟨d',e,dd,q⟩|⟨c,i',d',a,b,e1,e2,e3,dd,q⟩
     ·exact .inl ⟨d',e,dd,nc _ q⟩
     ·exact .inr ⟨c,i',d',by omega,b,e1,e2,e3,dd,nc _ q⟩
   ·rw[mj T hu]
    dsimp only;have e:(⟨Jx t.mask h m,(cb t.mask m (oA t.mask h d)).more,(cb t.mask m (oA t.mask h d)).i,(cb t.mask m (oA t.mask h d)).perturb,some (Jx t.mask h m)⟩:Pb)=cb t.mask m (oA t.mask h (some (Jx t.mask h m))):=by
     rw[pM,pM t.mask h m (some _)]
    rw[sk,e,<-fE];obtain⟨r,hr,hc⟩:=l5 hashAt h1 h2 fuel (m+1) (some (Jx t.mask h m)) (by omega) (by omega) (λx hx=>by cases hx;exact⟨hu,m,lt,rfl⟩)
    have nc: ∀n,Dv t hashAt h (m+1) n->Dv t hashAt h m n:=λn q m' a b i' hi'=>by
     by_cases e:m'=m
     ·subst e;exact absurd (List.mem_of_getElem? (by rw[Array.getElem?_toList];exact hi')) (T.dj _ hu)
     ·exact q m' (by omega) b i' hi'
    refine⟨r,hr,?_⟩
    rcases hc with⟨d',e,dd,q⟩|⟨c,i',d',a,b,e1,e2,e3,dd,q⟩
    ·exact .inl ⟨d',e,dd,nc _ q⟩
    ·exact .inr ⟨c,i',d',by omega,b,e1,e2,e3,dd,nc _ q⟩
end
theorem cQ {α:Type}(xs:Array α)(p:Nat):(SetTable.eraseAt xs p).toList=xs.toList.eraseIdx p:=by
 unfold SetTable.eraseAt;rw[List.eraseIdx_eq_take_drop_succ];simp[List.extract_eq_take_drop,List.take_of_length_le]
theorem nJ {l:List Nat}(r:l.Pairwise (·< ·)){p j:Nat}(hp:l[p]? =some j)(x:Nat):x∈l.eraseIdx p↔x∈l/\x≠j:=by
 rw[List.mem_eraseIdx_iff_getElem?];constructor
 ·rintro⟨i,ne,e⟩
  refine⟨List.mem_of_getElem? e,λw=>ne ?_⟩
  subst w;obtain⟨h1,e1⟩:=List.getElem?_eq_some_iff.mp e
  obtain⟨h2,e2⟩:=List.getElem?_eq_some_iff.mp hp
  rcases Nat.lt_trichotomy i p with c|c|c
  ·have:=List.pairwise_iff_getElem.mp r i p h1 h2 c;omega
  ·exact c
  ·have:=List.pairwise_iff_getElem.mp r p i h2 h1 c;omega
 ·rintro⟨h,ne⟩
  obtain⟨i,hi⟩:=List.mem_iff_getElem?.mp h
  exact⟨i,λw=>by subst w;rw[hp] at hi;cases hi;exact ne rfl,hi⟩
theorem lG {xs:Array Nat}(r:Ris xs){j:Nat}(n:j∉xs.toList):Ris (SetTable.insertAt xs (SetTable.below xs j) j):=by
 have b:=Es r j
 unfold Ris;rw[SetTable.toList_insertAt,List.pairwise_append];have hlo: ∀a∈xs.toList.take (SetTable.below xs j),a<j:=λa ha=>by
  obtain⟨i,hi⟩:=List.mem_iff_getElem?.mp ha
  rw[List.getElem?_take] at hi;split at hi
  ·rename_i c;rw[Array.getElem?_toList] at hi;exact b.lo i a c hi
  ·cases hi
 have hhi: ∀a∈xs.toList.drop (SetTable.below xs j),j<a:=λa ha=>by
  obtain⟨i,hi⟩:=List.mem_iff_getElem?.mp ha
  rw[List.getElem?_drop] at hi;have hm:=List.mem_of_getElem? hi
  rw[Array.getElem?_toList] at hi;have:=b.hi _ a (Nat.le_add_right _ _) hi
  have:a≠j:=λw=>n (w▸hm)
  omega
 refine⟨List.Pairwise.sublist (List.take_sublist _ _) r,?_,λa ha c hc=>?_⟩
 ·exact List.pairwise_cons.mpr ⟨hhi,List.Pairwise.sublist (List.drop_sublist _ _) r⟩
 ·rcases List.mem_cons.mp hc with rfl|hc
  ·exact hlo a ha
  ·exact Nat.lt_trans (hlo a ha) (hhi c hc)
theorem mI {α:Type}(xs:Array α)(p:Nat)(x y:α):y∈(SetTable.insertAt xs p x).toList↔y=x\/y∈xs.toList:=by
 rw[SetTable.toList_insertAt,List.mem_append,List.mem_cons]
 conv=>rhs;rw[<-List.take_append_drop p xs.toList,List.mem_append]
 constructor
 ·rintro(h|h|h)
  ·exact .inr (.inl h)
  ·exact .inl h
  ·exact .inr (.inr h)
 ·rintro(h|h|h)
  ·exact .inr (.inl h)
  ·exact .inl h
  ·exact .inr (.inr h)
def c4 {α:Type}(l:List α)(p:Nat)(x:α):List α:=l.take p++x::l.drop p
theorem zF {α β:Type}(l:List α)(m:List β)(p:Nat)(a:α)(b:β)(h:l.length=m.length):(c4 l p a).zip (c4 m p b)=c4 (l.zip m) p (a,b):=by
 unfold c4;rw[List.zip_append (by rw[List.length_take,List.length_take,h]),List.zip_cons_cons]
 unfold List.zip;rw[List.take_zipWith,List.drop_zipWith]
theorem TOk.put {t:SetTable}{hs:List Int}(T:TOk t hs){h:Int}{j:Nat}(hj:j<=t.mask)(n:j∉t.place.toList)(rc: ∃m,Jx t.mask h m=j/\ ∀m',m'<m->nv t (Jx t.mask h m'))
 (fl:(t.put j).1.fill<=t.mask):TOk (t.put j).1 (c4 hs (t.put j).2 h):=by
 have el:(t.put j).1.place.toList=c4 t.place.toList (t.put j).2 j:=SetTable.toList_insertAt _ _ _
 have mp: ∀y,y∈(t.put j).1.place.toList↔y=j\/y∈t.place.toList:=mI t.place _ j
 have md: ∀y,y∈(t.put j).1.dummies.toList↔y∈t.dummies.toList/\y≠j:=λy=>by
  show y∈(if SetTable.has t.dummies j=true then SetTable.eraseAt t.dummies (SetTable.below t.dummies j) else t.dummies).toList↔_
  split
  ·rename_i c
   have c2:=(gW T.sd j).mp c
   obtain⟨i,hi⟩:=List.mem_iff_getElem?.mp c2
   rw[cQ,oE T.sd (by rw[<-Array.getElem?_toList];exact hi)]
   exact nJ T.sd hi y
  ·rename_i c
   exact⟨λq=>⟨q,λw=>c ((gW T.sd j).mpr (w▸q))⟩,λq=>q.1⟩
 have us: ∀y,nv t y->y∈(t.put j).1.place.toList\/y∈(t.put j).1.dummies.toList:=λy q=>by
  rcases q with q|q
  ·exact .inl ((mp y).mpr (.inr q))
  ·by_cases e:y=j
   ·exact .inl ((mp y).mpr (.inl e))
   ·exact .inr ((md y).mpr ⟨q,e⟩)
 refine⟨T.pw,?_,lG T.sp n,?_,λy q=>?_,λy q=>T.ld y ((md y).mp q).1,λy q w=>?_,fl,λx hx=>?_⟩
 ·rw[<-Array.length_toList,el]
  unfold c4;have:=T.sz
  rw[<-Array.length_toList] at this;simp[this]
 ·show Ris (if SetTable.has t.dummies j=true then SetTable.eraseAt t.dummies (SetTable.below t.dummies j) else t.dummies)
  split
  ·unfold Ris
   rw[cQ];exact List.Pairwise.sublist (List.eraseIdx_sublist _ _) T.sd
  ·exact T.sd
 ·rcases(mp y).mp q with rfl|q
  ·exact hj
  ·exact T.lp y q
 ·have q':=(md y).mp q
  rcases(mp y).mp w with rfl|w
  ·exact q'.2 rfl
  ·exact T.dj y q'.1 w
 ·rw[el,zF _ _ _ _ _ (by rw[Array.length_toList];exact T.sz.symm)] at hx
  unfold c4 at hx;have hx:x=(h,j)\/x∈hs.zip t.place.toList:=by
   rcases List.mem_append.mp hx with q|q
   ·exact .inr (List.mem_of_mem_take q)
   ·rcases List.mem_cons.mp q with q|q
    ·exact .inl q
    ·exact .inr (List.mem_of_mem_drop q)
  rcases hx with rfl|hx
  ·obtain⟨m,e,q⟩:=rc
   exact⟨m,e,λm' hm=>us _ (q m' hm)⟩
  ·obtain⟨m,e,q⟩:=T.rc x hx
   exact⟨m,e,λm' hm=>us _ (q m' hm)⟩
theorem TOk.drop {t:SetTable}{hs:List Int}(T:TOk t hs){i j:Nat}(hi:t.place[i]? =some j):TOk (t.drop i) (hs.eraseIdx i):=by
 have ed:t.drop i={t with place:=SetTable.eraseAt t.place i,dummies:=SetTable.insertAt t.dummies (SetTable.below t.dummies j) j}:=by
  unfold SetTable.drop;rw[hi]
 have hi':t.place.toList[i]? =some j:=by rw[Array.getElem?_toList];exact hi
 have jm:j∈t.place.toList:=List.mem_of_getElem? hi'
 have lt:i<t.place.size:=(Array.getElem?_eq_some_iff.mp hi).1
 rw[ed];have el:(SetTable.eraseAt t.place i).toList=t.place.toList.eraseIdx i:=cQ _ _
 have mp: ∀y,y∈(SetTable.eraseAt t.place i).toList↔y∈t.place.toList/\y≠j:=λy=>by rw[el];exact nJ T.sp hi' y
 have md:=mI t.dummies (SetTable.below t.dummies j) j
 have us: ∀y,nv t y->y∈(SetTable.eraseAt t.place i).toList\/y∈(SetTable.insertAt t.dummies (SetTable.below t.dummies j) j).toList:=λy q=>by
  rcases q with q|q
  ·by_cases e:y=j
   ·exact .inr ((md y).mpr (.inl e))
   ·exact .inl ((mp y).mpr ⟨q,e⟩)
  ·exact .inr ((md y).mpr (.inr q))
 refine⟨T.pw,?_,?_,lG T.sd λw=>T.dj j w jm,λy q=>T.lp y ((mp y).mp q).1,λy q=>?_,λy q w=>?_,?_,λx hx=>?_⟩
 ·show(SetTable.eraseAt t.place i).size=_
  rw[<-Array.length_toList,el,List.length_eraseIdx,List.length_eraseIdx,Array.length_toList,T.sz]
 ·show Ris (SetTable.eraseAt t.place i)
  unfold Ris;rw[el];exact List.Pairwise.sublist (List.eraseIdx_sublist _ _) T.sp
 ·rcases(md y).mp q with rfl|q
  ·exact T.lp y jm
  ·exact T.ld y q
 ·have w':=(mp y).mp w
  rcases(md y).mp q with rfl|q
  ·exact w'.2 rfl
  ·exact T.dj y q w'.1
 ·show(SetTable.eraseAt t.place i).size+(SetTable.insertAt t.dummies (SetTable.below t.dummies j) j).size<=t.mask
  have fl:=T.fl
  unfold SetTable.fill at fl;rw[<-Array.length_toList,el,List.length_eraseIdx,<-Array.length_toList (xs:=SetTable.insertAt _ _ _),SetTable.toList_insertAt,if_pos (by rw[Array.length_toList];exact lt)]
  simp;omega
 ·have hx:x∈(hs.eraseIdx i).zip (t.place.toList.eraseIdx i):=by rw[<-el];exact hx
  have:x∈hs.zip t.place.toList:=by
   obtain⟨n,hn⟩:=List.mem_iff_getElem?.mp hx
   rw[List.getElem?_zip_eq_some,List.getElem?_eraseIdx,List.getElem?_eraseIdx] at hn;obtain⟨h1,h2⟩:=hn
   split at h1
   ·rw[if_pos (by assumption)] at h2;exact List.mem_iff_getElem?.mpr ⟨n,List.getElem?_zip_eq_some.mpr ⟨h1,h2⟩⟩
   ·rw[if_neg (by assumption)] at h2;exact List.mem_iff_getElem?.mpr ⟨n+1,List.getElem?_zip_eq_some.mpr ⟨h1,h2⟩⟩
  obtain⟨m,e,q⟩:=T.rc x this
  exact⟨m,e,λm' hm=>us _ (q m' hm)⟩
abbrev kj:=Array (Option Nat)
def zl(ow:kj)(j:Nat):Prop:=ow[j]? =some none
def zN(ow:kj)(j:Nat):Prop:= ∃k,ow[j]? =some (some k)
theorem fre_is {ow:kj}{j:Nat}:(ow.getD j (some 0)).isNone=true↔zl ow j:=by
 unfold zl Array.getD
 by_cases h:j<ow.size
 ·simp only[h,dite_true]
  rw[Array.getElem?_eq_getElem h];show(ow[j]).isNone=true↔_;rw[Option.isNone_iff_eq_none,Option.some.injEq]
 ·simp[h]
theorem tf {ow:kj}{j:Nat}(h:j<ow.size)(n: ¬zl ow j):zN ow j:=by
 unfold zl at n;unfold zN;rw[Array.getElem?_eq_getElem h] at n⊢;cases e:ow[j] with
 |none=>rw[e] at n;exact absurd rfl n
 |some k=>exact⟨k,rfl⟩
def Jl(mask i p m:Nat):Nat:=(cb mask m (ia mask i p none)).j
theorem ki {mask i:Nat}(hi:i<=mask):SetTable.runEnd mask i<=mask/\i<=SetTable.runEnd mask i:=by
 unfold SetTable.runEnd;split<;>omega
theorem sM {mask i p m:Nat}(h:i+m<=SetTable.runEnd mask i):Jl mask i p m=i+m:=by
 unfold Jl;rw[pb mask m _ (show m<=SetTable.runEnd mask i-i by omega)]
 rfl
theorem uE(mask i p m:Nat):Jl mask i p ((SetTable.runEnd mask i-i)+1+m)=Jl mask ((i*5+1+p / 32) % (mask+1)) (p / 32) m:=by
 unfold Jl;rw[jb];have:=qE mask (ia mask i p none)
 have e:(ia mask i p none).more=SetTable.runEnd mask i-i:=rfl
 rw[e] at this;rw[this];rfl
theorem uo {mask:Nat}{ow:kj}(hz:ow.size=mask+1): ∀(fuel i p:Nat),i<=mask->(∃n,n<fuel/\zl ow (lp mask n (i,p)).1)->
 ∃j m,SetTable.layClean.free mask ow fuel i p=some j/\zl ow j/\Jl mask i p m=j/\ ∀m',m'<m->zN ow (Jl mask i p m')
 |0,i,p,_,⟨n,h,_⟩=>absurd h (Nat.not_lt_zero _)
 |fuel+1,i,p,hi,⟨n,h,hf⟩=>by
  have re:=ki hi
  unfold SetTable.layClean.free;cases e:(List.range (SetTable.runEnd mask i+1-i)).find? λk=>(ow.getD (i+k) (some 0)).isNone with
  |some k=>
   have h1:=List.find?_some e
   have hk:k<SetTable.runEnd mask i+1-i:=List.mem_range.mp (List.mem_of_find?_eq_some e)
   refine⟨i+k,k,rfl,fre_is.mp h1,sM (by omega),λm' hm=>?_⟩
   rw[sM (by omega)]
   refine tf (by omega) λw=>?_
   rw[List.find?_range_eq_some] at e;have:=e.2.2 m' hm
   rw[fre_is.mpr w] at this;exact absurd this (by decide)
  |none=>
   have no: ∀k,k<SetTable.runEnd mask i+1-i-> ¬zl ow (i+k):=λk hk w=>by
    have:=List.find?_eq_none.mp e k (List.mem_range.mpr hk)
    exact this (fre_is.mpr w)
   dsimp only;obtain⟨j,m,g1,g2,g3,g4⟩:=uo hz fuel ((i*5+1+p / 32) % (mask+1)) (p / 32) (Nat.lt_succ_iff.mp (Nat.mod_lt _ (by omega))) (by
    cases n with
    |zero=>exact absurd hf (no 0 (by omega))
    |succ n=>exact⟨n,by omega,hf⟩)
   refine⟨j,(SetTable.runEnd mask i-i)+1+m,g1,g2,by rw[uE];exact g3,λm' hm=>?_⟩
   by_cases c:m'<=SetTable.runEnd mask i-i
   ·rw[sM (by omega)]
    exact tf (by omega) (no m' (by omega))
   ·obtain⟨m2,rfl⟩:=Nat.exists_eq_add_of_le (show SetTable.runEnd mask i-i+1<=m' by omega)
    rw[uE];exact g4 m2 (by omega)
structure LInv(mask:Nat)(ow:kj)(hs:List Int):Prop where
 sz:ow.size=mask+1
 lt: ∀(j k:Nat),ow[j]? =some (some k)->k<hs.length
 un: ∀(j j' k:Nat),ow[j]? =some (some k)->ow[j']? =some (some k)->j=j'
 ex: ∀(k:Nat) (h:Int),hs[k]? =some h-> ∃j m:Nat,ow[j]? =some (some k)/\Jx mask h m=j/\ ∀m',m'<m->zN ow (Jx mask h m')
theorem LInv.room {mask:Nat}{ow:kj}{hs:List Int}(I:LInv mask ow hs)(hl:hs.length<=mask): ∃j,j<=mask/\zl ow j:=by
 refine Classical.byContradiction λh=>?_
 have all: ∀j,j<=mask->zN ow j:=λj hj=>tf (by rw[I.sz];omega) λw=>h ⟨j,hj,w⟩
 let f:Nat->Nat:=λj=>((ow[j]?).getD none).getD 0
 have hf: ∀j,j<=mask->ow[j]? =some (some (f j)):=λj hj=>by
  obtain⟨k,e⟩:=all j hj
  show _=some (some (((ow[j]?).getD none).getD 0));rw[e];rfl
 have nd:((List.range (mask+1)).map f).Nodup:=by
  rw[List.Nodup,List.pairwise_map];refine List.Pairwise.imp_of_mem (λ{a b} ha hb hab e=>?_) List.pairwise_lt_range
  rw[List.mem_range] at ha hb;have:=I.un a b (f a) (hf a (by omega)) (by rw[e];exact hf b (by omega))
  omega
 have:=nz nd (n:=hs.length) λz hz=>by
  obtain⟨j,hj,rfl⟩:=List.mem_map.mp hz
  exact I.lt j _ (hf j (by rw[List.mem_range] at hj;omega))
 simp at this;omega
theorem yU {k mask:Nat}(hk:mask+1=2^k){ow:kj}{hs:List Int}(I:LInv mask ow hs)(hl:hs.length<=mask)(h:Int):
 ∃j,SetTable.layClean.free mask ow (SetTable.turns mask) (SetTable.bits h % (mask+1)) (SetTable.bits h)=some j/\LInv mask (ow.setIfInBounds j (some hs.length)) (hs++[h]):=by
 obtain⟨jf,h1,h2⟩:=I.room hl
 have hi:SetTable.bits h % (mask+1)<=mask:=Nat.lt_succ_iff.mp (Nat.mod_lt _ (by omega))
 obtain⟨n,hn,e⟩:=xH hk hi (vc h) h1
 obtain⟨j,m,g1,g2,g3,g4⟩:=uo I.sz (SetTable.turns mask) _ _ hi ⟨n,by unfold SetTable.turns;omega,by rw[e];exact h2⟩
 have jl:j<ow.size:=by
  unfold zl at g2;exact(Array.getElem?_eq_some_iff.mp g2).1
 have gs: ∀x,(ow.setIfInBounds j (some hs.length))[x]? =if j=x then some (some hs.length) else ow[x]? :=λx=>by
  rw[Array.getElem?_setIfInBounds];split<;>rfl
 have occ': ∀x,zN ow x->zN (ow.setIfInBounds j (some hs.length)) x:=λx hq_=>by
  obtain⟨q,hq⟩:=hq_
  unfold zN;rw[gs];split
  ·exact⟨_,rfl⟩
  ·exact⟨q,hq⟩
 refine⟨j,g1,by rw[Array.size_setIfInBounds];exact I.sz,λx q hq=>?_,λx x' q hq hq'=>?_,λq z hz=>?_⟩
 ·rw[gs] at hq
  rw[List.length_append,List.length_singleton];split at hq
  ·cases hq;omega
  ·have:=I.lt x q hq;omega
 ·rw[gs] at hq hq'
  split at hq
  ·rename_i c
   cases hq
   split at hq'
   ·rename_i c';rw[<-c,<-c']
   ·have:=I.lt _ _ hq';omega
  ·split at hq'
   ·cases hq';have:=I.lt _ _ hq;omega
   ·exact I.un x x' q hq hq'
 ·by_cases c:q<hs.length
  ·rw[List.getElem?_append_left c] at hz
   obtain⟨x,m',e1,e2,e3⟩:=I.ex q z hz
   refine⟨x,m',?_,e2,λm'' hm=>occ' _ (e3 m'' hm)⟩
   rw[gs,if_neg λw=>?_]
   ·exact e1
   ·subst w;unfold zl at g2;rw[g2] at e1;cases e1
  ·have hq:q=hs.length:=by
    have:=(List.getElem?_eq_some_iff.mp hz).1
    rw[List.length_append,List.length_singleton] at this;omega
   subst hq;rw[List.getElem?_append_right (Nat.le_refl _),Nat.sub_self] at hz;cases hz
   exact⟨j,m,by rw[gs,if_pos rfl],g3,λm' hm=>occ' _ (g4 m' hm)⟩
theorem uG {k mask:Nat}(hk:mask+1=2^k): ∀(rest hs:List Int) (ow:kj),LInv mask ow hs->hs.length+rest.length<=mask+1->
 ∃ow',rest.foldl (λacc h=>do
  let(owner,k) <-acc
  let j <-SetTable.layClean.free mask owner (SetTable.turns mask) (SetTable.bits h % (mask+1)) (SetTable.bits h)
  pure (owner.setIfInBounds j (some k),k+1)) (some (ow,hs.length))=some (ow',hs.length+rest.length)/\LInv mask ow' (hs++rest)
 | [],hs,ow,I,_=>⟨ow,rfl,by rw[List.append_nil];exact I⟩
 |h::rest,hs,ow,I,hl=>by
  rw[List.length_cons] at hl;obtain⟨j,e,I'⟩:=yU hk I (by omega) h
  obtain⟨ow',e2,I2⟩:=uG hk rest (hs++[h]) _ I' (by rw[List.length_append,List.length_singleton];omega)
  rw[List.length_append,List.length_singleton] at e2;refine⟨ow',?_,by rw[List.append_assoc] at I2;exact I2⟩
  rw[List.foldl_cons];have:(do
   let(owner,k) <-some (ow,hs.length)
   let j <-SetTable.layClean.free mask owner (SetTable.turns mask) (SetTable.bits h % (mask+1)) (SetTable.bits h)
   pure (owner.setIfInBounds j (some k),k+1):Option (kj×Nat))=some (ow.setIfInBounds j (some hs.length),hs.length+1):=by
   show(SetTable.layClean.free mask ow (SetTable.turns mask) (SetTable.bits h % (mask+1)) (SetTable.bits h)).bind (λj=>some (ow.setIfInBounds j (some hs.length),hs.length+1))=_
   rw[e];rfl
  rw[this,e2,List.length_cons];congr 2;omega
theorem vQ(mask:Nat):LInv mask (Array.replicate (mask+1) none) [] where
 sz:=by simp
 lt:=λj k h=>by
  rw[Array.getElem?_replicate] at h;split at h<;>cases h
 un:=λj j' k h=>by
  rw[Array.getElem?_replicate] at h;split at h<;>cases h
 ex:=λk h e=>by simp at e
def eY(mask:Nat)(ow:kj):List (Nat×Nat):=(List.range (mask+1)).filterMap λj=>(ow.getD j none).map (j, ·)
theorem xz {mask:Nat}{ow:kj}(hz:ow.size=mask+1){x:Nat×Nat}:x∈eY mask ow↔ow[x.1]? =some (some x.2):=by
 unfold eY;rw[List.mem_filterMap];constructor
 ·rintro⟨j,hj,e⟩
  rw[List.mem_range] at hj;have:j<ow.size:=by omega
  simp only[Array.getD,this,dite_true] at e;obtain⟨k,e1,rfl⟩:=Option.map_eq_some_iff.mp e
  show ow[j]? =some (some k);rw[Array.getElem?_eq_getElem this,<-e1];rfl
 ·intro h
  obtain⟨h1,h2⟩:=Array.getElem?_eq_some_iff.mp h
  refine⟨x.1,List.mem_range.mpr (by omega),?_⟩
  simp only[Array.getD,h1,dite_true];have:ow.getInternal x.1 h1=some x.2:=h2
  rw[this];rfl
theorem qK(mask:Nat)(ow:kj):((eY mask ow).map (·.1)).Pairwise (·< ·):=by
 unfold eY;have: ∀l:List Nat,(l.filterMap λj=>(ow.getD j none).map (j, ·)).map (·.1)=l.filter λj=>(ow.getD j none).isSome:=by
  intro l
  induction l with
  |nil=>rfl
  |cons j l ih=>
   rw[List.filterMap_cons,List.filter_cons];cases e:ow.getD j none with
   |none=>exact ih
   |some k=>show j::_=_;rw[ih];rfl
 rw[this];exact List.Pairwise.filter _ List.pairwise_lt_range
theorem uS {k mask:Nat}(h3:3<=k)(h12:k<=12)(hk:mask+1=2^k)(finger moves:Nat)(led plain:Bool)(hs:Array Int)(hl:hs.size<=mask):
 ∃place order:Array Nat,SetTable.laid mask finger moves led plain hs=some (⟨mask,place, #[],finger,led,moves,plain⟩,order)/\order.toList.Perm (List.range hs.size)/\
  TOk ⟨mask,place, #[],finger,led,moves,plain⟩ (order.toList.map λk=>hs.toList.getD k 0):=by
 obtain⟨ow,e,I⟩:=uG hk hs.toList [] _ (vQ mask) (by simp;omega)
 rw[List.nil_append] at I;have elay:SetTable.layClean mask hs=some ow:=by
  unfold SetTable.layClean;rw[<-Array.foldl_toList];have e:hs.toList.foldl _ (some (Array.replicate (mask+1) none,0))=_:=e
  rw[e];rfl
 have mem:= @xz mask ow I.sz
 have o1:((eY mask ow).map (·.2)).Nodup:=by
  rw[List.Nodup,List.pairwise_map];have:=qK mask ow
  rw[List.pairwise_map] at this;refine this.imp_of_mem λ{a b} ha hb hab w=>?_
  have h1:=mem.mp ha
  have h2:=mem.mp hb
  rw[<-w] at h2;have:=I.un _ _ _ h1 h2
  omega
 have o2: ∀k,k∈(eY mask ow).map (·.2)↔k∈List.range hs.size:=λk=>by
  rw[List.mem_map,List.mem_range];constructor
  ·rintro⟨x,hx,rfl⟩
   have:=I.lt _ _ (mem.mp hx)
   simpa using this
  ·intro h
   obtain⟨j,m,h1,_⟩:=I.ex k (hs.toList[k]'(by simpa using h)) (List.getElem?_eq_getElem _)
   exact⟨(j,k),mem.mpr h1,rfl⟩
 have occ: ∀x,zN ow x->x∈(eY mask ow).map (·.1):=λx ⟨q,hq⟩=>List.mem_map.mpr ⟨(x,q),mem.mpr hq,rfl⟩
 refine⟨((eY mask ow).map (·.1)).toArray,((eY mask ow).map (·.2)).toArray,?_,?_,⟨k,h3,h12,hk⟩,?_,?_,?_,?_,?_,?_,?_,?_⟩
 ·unfold SetTable.laid
  rw[elay];rfl
 ·exact(List.perm_ext_iff_of_nodup o1 List.nodup_range).mpr o2
 ·simp
 ·exact qK mask ow
 ·exact List.Pairwise.nil
 ·intro j hj
  obtain⟨x,hx,rfl⟩:=List.mem_map.mp hj
  have:=(Array.getElem?_eq_some_iff.mp (mem.mp hx)).1
  show x.1<=mask;rw[I.sz] at this;omega
 ·intro j hj;cases hj
 ·intro j hj;cases hj
 ·show((eY mask ow).map (·.1)).toArray.size+0<=mask
  have hp:=((List.perm_ext_iff_of_nodup o1 List.nodup_range).mpr o2).length_eq
  simp at hp⊢;omega
 ·intro x hx
  have hx:x∈((((eY mask ow).map (·.2)).map λk=>hs.toList.getD k 0)).zip ((eY mask ow).map (·.1)):=hx
  rw[List.map_map,List.zip_map'] at hx;obtain⟨y,hy,rfl⟩:=List.mem_map.mp hx
  have hy':=mem.mp hy
  have lt:=I.lt _ _ hy'
  obtain⟨j,m,e1,e2,e3⟩:=I.ex y.2 (hs.toList[y.2]'lt) (List.getElem?_eq_getElem _)
  have ej:=I.un _ _ _ e1 hy'
  have eg:hs.toList.getD y.2 0=hs.toList[y.2]'lt:=by rw[List.getD,List.getElem?_eq_getElem lt];rfl
  refine⟨m,?_,λm' hm=>.inl ?_⟩
  ·show Jx mask (hs.toList.getD y.2 0) m=y.1
   rw[eg,e2,ej]
  ·show Jx mask (hs.toList.getD y.2 0) m'∈((eY mask ow).map (·.1))
   rw[eg];exact occ _ (e3 m' hm)
theorem ja: ∀(fuel s n:Nat),n<s*2^fuel-> ∃e,e<=fuel/\SetTable.sizeAbove.go n fuel s=s*2^e/\n<s*2^e/\(e=0\/s*2^e<=2*n)
 |0,s,n,h=>⟨0,by omega,by simp[SetTable.sizeAbove.go],h,.inl rfl⟩
 |fuel+1,s,n,h=>by
  unfold SetTable.sizeAbove.go
  by_cases c:s<=n
  ·rw[if_pos c]
   obtain⟨e,h1,h2,h3,h4⟩:=ja fuel (s*2) n (by rw[Nat.pow_succ'] at h;rw[Nat.mul_assoc];exact h)
   refine⟨e+1,by omega,by rw[h2,Nat.pow_succ',Nat.mul_assoc],by rw[Nat.pow_succ',<-Nat.mul_assoc];exact h3,.inr ?_⟩
   rw[Nat.pow_succ',<-Nat.mul_assoc];rcases h4 with rfl|h4
   ·simp;omega
   ·exact h4
  ·rw[if_neg c]
   exact⟨0,by omega,by simp,by simp;omega,.inl rfl⟩
theorem fR {n:Nat}(hn:n<=4095): ∃k,3<=k/\k<=12/\SetTable.sizeAbove n=2^k/\n<2^k:=by
 obtain⟨e,h1,h2,h3,h4⟩:=ja 64 8 n (Nat.lt_of_le_of_lt hn (by decide))
 have hp:8*2^e=2^(3+e):=by rw[Nat.pow_add]
 refine⟨3+e,by omega,?_,h2.trans hp,by rw[<-hp];exact h3⟩
 rcases h4 with rfl|h4
 ·omega
 ·refine Classical.byContradiction λc=>?_
  have:=Nat.pow_le_pow_right (n:=2) (by omega) (show 13<=3+e by omega)
  rw[<-hp] at this;have:(2:Nat)^13=8192:=by decide
  omega
open PySem PySem.Spec PyProof.Rows
def th(ks:List Int):Int:=reduceHash (Builtin.Tuple.tupleHashOf (ks.map hashInt))
abbrev KI(prog:Program)(w:World):HeapKind prog w (List Int):=tupleKind (intKind prog w)
theorem uD(prog:Program)(w:World)(ks:List Int):(KI prog w).hash ks=th ks:=rfl
def qz(x:List Int×Addr):Int×Value:=(th x.1,.ref x.2)
abbrev dS:=List (List Int×Addr)
def lY(xs:dS):List Int:=xs.map λx=>th x.1
def nK(prog:Program)(w:World)(h:Heap)(xs:dS):Prop:= ∀x∈xs,(KI prog w).is h x.1 x.2
structure SetAt(w:World)(o:Obj)(es:Array (Int×Value))(ep:Nat)(t:SetTable)(xs:dS):Prop where
 ex:o.ExactSet
 hd:o.data=.set es ep t
 he:es.toList=xs.map qz
 T:TOk t (lY xs)
 led:t.led= !w.params.followText "set-order"
 pl:t.plain=true
 nd:(xs.map (·.1)).Nodup
section
variable {prog:Program}{w:World}{A:Around}{E:Value->Shared->Prop}{s:Shared}{a b:Addr}{o:Obj}{es:Array (Int×Value)}{ep:Nat}{t:SetTable}{xs:dS}{k:List Int}
theorem SetAt.size(S:SetAt w o es ep t xs):es.size=xs.length:=by
 have:=congrArg List.length S.he
 simpa using this
theorem SetAt.fits(S:SetAt w o es ep t xs):t.fits es.size=true:=by
 have h1:=S.T.sz
 have h2:=S.T.fl
 unfold lY at h1;rw[List.length_map] at h1;unfold SetTable.fits;rw[S.size,h1];simp[h2]
theorem SetAt.at_(S:SetAt w o es ep t xs)(i:Nat):es[i]? =(xs[i]?).map qz:=by
 rw[<-Array.getElem?_toList,S.he,List.getElem?_map]
theorem ku {k:List Int}(hk:(KI prog w).is s.heap k b){Q:Bool->Shared->Prop}(h:Q false s):wpAny (model prog w) A (ofAClassStatement 8 (.ref b)) Q E s:=by
 have hT:=IsTupleKey.typeIs (s:=s) hk
 obtain⟨o,items,n,ho,hc,hd,hi⟩:=hk
 unfold ofAClassStatement;refine wpAny_bind (wpAny_typeOf hT ?_)
 dsimp only;rw[if_pos (by decide)]
 refine wpAny_bind (wpAny_pure ?_)
 simp only[Bool.not_true,Bool.false_eq_true,if_false];refine wpAny_bind (wpAny_seqItems ho hd ?_)
 dsimp only;refine wpAny_bind ?_
 rw[<-Array.forIn_toList];refine wpAny_forIn_list _ (λrest r s'=>r.1=none/\s'=s/\ ∀v∈rest,carriedByValue v=true) _ ?_ ?_ _ _ ⟨rfl,rfl,hi.byValue⟩
 ·rintro v rest r s' ⟨hr,rfl,hall⟩
  have hv:=hall v List.mem_cons_self
  have:ofAClassStatement 7 v=pure false:=by
   cases v with
   |ref a=>simp[carriedByValue] at hv
   |_=>rfl
  rw[this];refine wpAny_bind (wpAny_pure ?_)
  simp only[Bool.false_eq_true,if_false];exact wpAny_pure ⟨rfl,rfl,λu hu'=>hall u (List.mem_cons_of_mem _ hu')⟩
 ·rintro⟨r1,r2⟩ s' ⟨hr,rfl,_⟩
  simp only at hr;subst hr;exact wpAny_pure h
theorem oG {k:List Int}(hk:(KI prog w).is s.heap k b){vs:List Value}(hv: ∀v∈vs,∃k' c,v=.ref c/\(KI prog w).is s.heap k' c){Q:Bool->Shared->Prop}(h:Q false s):wpAny (model prog w) A (searchCouldBeSeen (.ref b) vs) Q E s:=by
 unfold searchCouldBeSeen;refine wpAny_bind ?_
 refine wpAny_forIn_list _ (λrest r s'=>r.1=none/\s'=s/\ ∀v∈rest,∃k' c,v=.ref c/\(KI prog w).is s.heap k' c) _ ?_ ?_ _ _ ⟨rfl,rfl,hv⟩
 ·rintro v rest r s' ⟨hr,rfl,hall⟩
  obtain⟨k',c,rfl,hc⟩:=hall v List.mem_cons_self
  dsimp only;split
  ·exact wpAny_pure ⟨rfl,rfl,λu hu'=>hall u (List.mem_cons_of_mem _ hu')⟩
  ·refine wpAny_bind ((KI prog w).quiet hk ?_)
   simp only[Bool.not_true,Bool.false_eq_true,if_false];refine wpAny_bind ((KI prog w).quiet hc ?_)
   simp only[Bool.not_true,Bool.false_eq_true,if_false];refine wpAny_bind (ku hk ?_)
   simp only[Bool.false_eq_true,if_false];refine wpAny_bind (ku hc ?_)
   simp only[Bool.false_eq_true,if_false];exact wpAny_pure ⟨rfl,rfl,λu hu'=>hall u (List.mem_cons_of_mem _ hu')⟩
 ·rintro⟨r1,r2⟩ s' ⟨hr,rfl,_⟩
  simp only at hr;subst hr;exact wpAny_pure h
def F9(es:Array (Int×Value))(i:Nat):Int:=(es[i]?.map (·.1)).getD 0
theorem wo {α:Type}{m:Sem Bool}{U R:Sem α}{c:Bool}{Q:α->Shared->Prop}(hK:wpAny (model prog w) A R Q E s)(hm:wpAny (model prog w) A m (λb s'=>b=false/\s'=s) E s):
 wpAny (model prog w) A (if c=true then(m>>=λx=>if x=true then U else R) else R) Q E s:=by
 split
 ·refine wpAny_bind (wpAny_mono hm (λb s' ⟨h1,h2⟩=>?_) λ_ _ x=>x)
  subst h1 h2;simp only[Bool.false_eq_true,if_false];exact hK
 ·exact hK
theorem kF(ho:s.heap.get? a=some o)(S:SetAt w o es ep t xs)(hE:nK prog w s.heap xs)(hu:A.units<cLine)(hk:(KI prog w).is s.heap k b)(adding:Bool){M:Nat}(hM:M<=10*(13+t.mask))
 (h1: ¬nv t (Jx t.mask (th k) M)) (h2: ∀m,m<M->nv t (Jx t.mask (th k) m)) {Q:SetFound->Shared->Prop}
 (hyes: ∀(i:Nat) (c:Addr),xs[i]? =some (k,c)->Q (.there (if adding then none else some i)) s)
 (hno:k∉xs.map (·.1)-> ∀(d:Option Nat),EK t (th k) M d->Q (.free (d.getD (Jx t.mask (th k) M)) d.isSome) s):
 ∀(fuel m:Nat) (st:Option Pb) (d:Option Nat),M<m+fuel->m<=M->EK t (th k) M d->st.getD (t.probeStart (th k))=cb t.mask m (oA t.mask (th k) d)->
  (∀(i:Nat) (c:Addr) (j:Nat),xs[i]? =some (k,c)->t.place[i]? =some j-> ∃m0,m<=m0/\m0<M/\Jx t.mask (th k) m0=j)->
  wpAny (model prog w) A (setSearchFrom a (.ref b) (th k) adding fuel st) Q E s
 |0,m,st,d,q1,q2,_,_,_=>absurd q1 (by omega)
 |fuel+1,m,st,d,q1,q2,hd,hst,hin=>by
  have T:=S.T
  have kiu:(KI prog w).room A:=hu
  have hsz: ∀i:Nat,(∃j,t.place[i]? =some j)↔ ∃x,xs[i]? =some x:=λi=>by
   have e1:=T.sz
   unfold lY at e1;rw[List.length_map] at e1;constructor
   ·rintro⟨j,hj⟩
    have:=(Array.getElem?_eq_some_iff.mp hj).1
    exact⟨_,List.getElem?_eq_getElem (show i<xs.length by omega)⟩
   ·rintro⟨x,hx⟩
    have:=(List.getElem?_eq_some_iff.mp hx).1
    exact⟨_,Array.getElem?_eq_getElem (show i<t.place.size by omega)⟩
  unfold setSearchFrom;refine wpAny_bind (wpAny_setState_of ho S.hd S.fits ?_)
  dsimp only;rw[T.noway];simp only[Bool.false_eq_true,if_false];rw[hst];unfold SetTable.probe;obtain⟨r,hr,hc⟩:=l5 T (F9 es) h1 h2 (10*SetTable.turns t.mask) m d (by unfold SetTable.turns;omega) q2 hd
  generalize hP:SetTable.probe.go t _ (th k) _ _=P
  obtain rfl:P=some r:=hP.symm.trans hr
  dsimp only;have hat: ∀(i:Nat) (x:List Int×Addr),xs[i]? =some x->F9 es i=th x.1:=λi x hx=>by
   unfold F9;rw[S.at_,hx];rfl
  rcases hc with⟨d',rfl,dd,nc⟩|⟨c,i,d',a1,a2,a3,a4,rfl,dd,nc⟩
  ·have nk:k∉xs.map (·.1):=λw=>by
    obtain⟨x,hx,rfl⟩:=List.mem_map.mp w
    obtain⟨i,hi⟩:=List.mem_iff_getElem?.mp hx
    obtain⟨j,hj⟩:=(hsz i).mpr ⟨x,hi⟩
    obtain⟨m0,g1,g2,g3⟩:=hin i x.2 j hi hj
    exact nc m0 g1 g2 i (by rw[g3];exact hj) (hat i x hi)
   have:=hno nk d' dd
   dsimp only;cases d' with
   |none=>exact wpAny_pure this
   |some z=>
    dsimp only;have e:(adding&&t.slot z !=SetTable.Slot.dummy)=false:=by
     rw[mj T (dd z rfl).1];simp
    rw[e];simp only[Bool.false_eq_true,if_false];exact wpAny_pure this
  ·obtain⟨x,hx⟩:=(hsz i).mp ⟨_,a3⟩
   have ex:es[i]? =some (th x.1,.ref x.2):=by rw[S.at_,hx];rfl
   have hxm:=List.mem_of_getElem? hx
   have hxk:=hE x hxm
   dsimp only;refine wo ?_ (oG hk (λv hv=>?_) ⟨rfl,rfl⟩)
   ·rw[ex]
    dsimp only;refine wpAny_bind (wpAny_holding ((KI prog w).eqBool (x:=x.1) (y:=k) kiu hxk hk ?_))
    refine wpAny_bind (wpAny_setState_of ho S.hd S.fits ?_)
    dsimp only;have sm:t.sameMemory t.moves t.mask=some true:=by unfold SetTable.sameMemory;rw[if_pos (beq_self_eq_true _)]
    by_cases ek:x.1=k
    ·rw[decide_eq_true ek]
     have hy:=hyes i x.2 (by rw[hx,<-ek])
     cases adding with
     |true=>simp only[Bool.and_self,if_true];exact wpAny_pure hy
     |false=>
      simp only[Bool.false_and,Bool.false_eq_true,if_false];rw[sm];dsimp only;rw[if_pos rfl,j3 T a3];dsimp only;rw[ex];dsimp only;refine wpAny_bind (wpAny_isSame_ref_self ?_)
      simp only[if_true];refine wpAny_bind (wpAny_pure ?_)
      dsimp only;exact wpAny_pure hy
    ·rw[decide_eq_false ek,Bool.and_false]
     simp only[Bool.false_eq_true,if_false];rw[sm];dsimp only;rw[if_pos rfl,j3 T a3];dsimp only;rw[ex];dsimp only;refine wpAny_bind (wpAny_isSame_ref_self ?_)
     simp only[if_true];refine wpAny_bind (wpAny_pure ?_)
     dsimp only;refine kF ho S hE hu hk adding hM h1 h2 hyes hno fuel (c+1) _ d' (by omega) (by omega) dd rfl λi' c' j' hi' hj'=>?_
     obtain⟨m0,g1,g2,g3⟩:=hin i' c' j' hi' hj'
     refine⟨m0,?_,g2,g3⟩
     refine Classical.byContradiction λw=>?_
     by_cases e:m0=c
     ·subst e
      have:=T.sp.inj a3 (by rw[g3];exact hj')
      subst this;rw[hx] at hi';cases hi'
      exact ek rfl
     ·exact nc m0 g1 (by omega) i' (by rw[g3];exact hj') (hat i' _ hi')
   ·obtain⟨e,he,rfl⟩:=List.mem_map.mp hv
    have he:e∈es:=(Array.mem_filter.mp (Array.mem_toList_iff.mp he)).1
    have he:e∈xs.map qz:=by rw[<-S.he];exact Array.mem_toList_iff.mpr he
    obtain⟨y,hy,rfl⟩:=List.mem_map.mp he
    exact⟨y.1,y.2,rfl,hE y hy⟩
end
theorem BS(mask:Nat)(p:Pb)(h:p.j+p.more<=mask):(uw mask p).j+(uw mask p).more<=mask:=by
 unfold uw;split
 ·dsimp only;omega
 ·have hi:(SetTable.leap mask p.i p.perturb).1<=mask:=Nat.lt_succ_iff.mp (Nat.mod_lt _ (by omega))
  have:=ki hi
  dsimp only;omega
theorem E8(mask:Nat)(h:Int)(m:Nat):Jx mask h m<=mask:=by
 have: ∀m,(cb mask m (oA mask h none)).j+(cb mask m (oA mask h none)).more<=mask:=λm=>by
  induction m with
  |zero=>
   have hi:SetTable.bits h % (mask+1)<=mask:=Nat.lt_succ_iff.mp (Nat.mod_lt _ (by omega))
   have:=ki hi
   show SetTable.bits h % (mask+1)+(SetTable.runEnd mask (SetTable.bits h % (mask+1)) -SetTable.bits h % (mask+1))<=mask;omega
  |succ m ih=>rw[fE];exact BS mask _ ih
 have:=this m
 unfold Jx;omega
structure SetOk(w:World)(o:Obj)(es:Array (Int×Value))(ep:Nat)(t:SetTable)(xs:dS):Prop extends SetAt w o es ep t xs where
 f5:t.fill*5<t.mask*3
section
variable {prog:Program}{w:World}{A:Around}{E:Value->Shared->Prop}{s:Shared}{a b:Addr}{o:Obj}{es:Array (Int×Value)}{ep:Nat}{t:SetTable}{xs:dS}{k:List Int}
theorem lS(ho:s.heap.get? a=some o)(S:SetAt w o es ep t xs)(hE:nK prog w s.heap xs)(hu:A.units<cLine)(hk:(KI prog w).is s.heap k b)(adding:Bool){Q:SetFound->Shared->Prop}
 (hyes: ∀(i:Nat) (c:Addr),xs[i]? =some (k,c)->Q (.there (if adding then none else some i)) s)
 (hno:k∉xs.map (·.1)-> ∀(j:Nat) (wd:Bool),j<=t.mask->(wd=true->j∈t.dummies.toList)->(wd=false-> ¬nv t j)->(∃m,Jx t.mask (th k) m=j/\ ∀m',m'<m->nv t (Jx t.mask (th k) m'))->Q (.free j wd) s):
 wpAny (model prog w) A (setSearch a (.ref b) (th k) adding) Q E s:=by
 obtain⟨M,hM,h1,h2⟩:=S.T.first (th k)
 have mk:=S.T.mask
 unfold setSearch;refine kF ho S hE hu hk adding hM h1 h2 hyes (λnk d dd=>?_) 100000 0 none none (by omega) (by omega) (λx hx=>by cases hx) rfl λi c j hi hj=>?_
 ·cases d with
  |none=>exact hno nk _ _ (E8 _ _ _) (λw=>by cases w) (λ_=>h1) ⟨M,rfl,h2⟩
  |some z=>
   obtain⟨z1,m,z2,z3⟩:=dd z rfl
   exact hno nk z true (S.T.ld z z1) (λ_=>z1) (λw=>by cases w) ⟨m,z3,λm' hm=>h2 m' (by omega)⟩
 ·obtain⟨m0,e,q⟩:=S.T.rc (th k,j) (List.mem_iff_getElem?.mpr ⟨i,List.getElem?_zip_eq_some.mpr ⟨by unfold lY;rw[List.getElem?_map,hi];rfl,by rw[Array.getElem?_toList];exact hj⟩⟩)
  refine⟨m0,by omega,?_,e⟩
  have ju:nv t j:=.inl (List.mem_of_getElem? (by rw[Array.getElem?_toList];exact hj))
  rcases Nat.lt_trichotomy m0 M with c|c|c
  ·exact c
  ·subst c;rw[e] at h1;exact absurd ju h1
  ·exact absurd (q M c) h1
theorem l4(b:Addr)(es:Array (Int×Value)):byScan (.ref b) es=false:=rfl
theorem rq(ho:s.heap.get? a=some o)(S:SetAt w o es ep t xs)(hE:nK prog w s.heap xs)(hu:A.units<cLine)(hk:(KI prog w).is s.heap k b){Q:Option Nat->Shared->Prop}
 (hyes: ∀(i:Nat) (c:Addr),xs[i]? =some (k,c)->Q (some i) s) (hno:k∉xs.map (·.1)->Q none s):wpAny (model prog w) A (setFind a (.ref b) (th k)) Q E s:=by
 unfold setFind setFindIn;refine wpAny_bind (wpAny_setState_of ho S.hd S.fits ?_)
 dsimp only;rw[l4];simp only[Bool.false_eq_true,if_false];refine wpAny_bind (lS ho S hE hu hk false (λi c hi=>?_) λnk j wd _ _ _ _=>?_)
 ·exact wpAny_pure (hyes i c hi)
 ·exact wpAny_pure (hno nk)
theorem xn {k:List Int}(hk:(KI prog w).is s.heap k b){Q:Bool->Shared->Prop}(h:Q true s):wpAny (model prog w) A (hashByValue 8 (.ref b)) Q E s:=by
 have hT:=IsTupleKey.typeIs (s:=s) hk
 obtain⟨o,items,n,ho,hc,hd,hi⟩:=hk
 unfold hashByValue;refine wpAny_bind (wpAny_specialOf hT F.slot_tuple_hash.lookup ?_)
 refine wpAny_bind (wpAny_seqItems ho hd ?_)
 dsimp only;refine wpAny_bind ?_
 show wpAny _ _ (forIn items _ _) _ _ _;rw[<-Array.forIn_toList];have hall: ∀v∈items.toList,∃(i:Int) (tk:Tok),v=.int i tk:=by
  intro v hv;clear ho hd hT
  generalize items.toList=l at hi hv
  induction hi with
  |nil=>cases hv
  | @cons k v' ks vs h1 _ ih=>
    rcases List.mem_cons.mp hv with rfl|hv
    ·obtain⟨tk,rfl⟩:=Value.isInt_shape h1;exact⟨_,_,rfl⟩
    ·exact ih hv
 refine wpAny_forIn_list _ (λrest r s'=>r.1=none/\s'=s/\ ∀v∈rest,∃(i:Int) (tk:Tok),v=.int i tk) _ ?_ ?_ _ _ ⟨rfl,rfl,hall⟩
 ·rintro v rest r s' ⟨hr,rfl,hall⟩
  obtain⟨i,tk,rfl⟩:=hall v List.mem_cons_self
  have:hashByValue 7 (.int i tk)=pure true:=rfl
  rw[this];refine wpAny_bind (wpAny_pure ?_)
  simp only[Bool.not_true,Bool.false_eq_true,if_false];exact wpAny_pure ⟨rfl,rfl,λu hu'=>hall u (List.mem_cons_of_mem _ hu')⟩
 ·rintro⟨r1,r2⟩ s' ⟨hr,rfl,_⟩
  simp only at hr;subst hr;exact wpAny_pure h
theorem ny(S:SetAt w o es ep t xs):(es.map (·.1)).toList=lY xs:=by
 rw[Array.toList_map,S.he,List.map_map];rfl
def kK(xs:dS)(ix:List Nat):dS:=ix.map λi=>xs.getD i ([],0)
theorem hB {xs:dS}{ix:List Nat}(p:ix.Perm (List.range xs.length)):(kK xs ix).Perm xs:=by
 have e:(List.range xs.length).map (λi=>xs.getD i ([],0))=xs:=by
  refine List.ext_getElem (by simp) λi h1 h2=>?_
  simp[List.getD,h2]
 have:=p.map λi=>xs.getD i ([],0)
 rw[e] at this;exact this
theorem nH(S:SetAt w o es ep t xs){wanted:Nat}(hw:wanted<=4095)(hl:xs.length*5<wanted*3): ∃(place order:Array Nat) (mv:Nat),t.relaid (es.map (·.1)) wanted=some (⟨SetTable.sizeAbove wanted-1,place, #[],t.finger,t.led,mv,t.plain⟩,order)/\
 order.toList.Perm (List.range xs.length)/\(∀(o':Obj) (ep':Nat),o'.ExactSet->o'.data=.set (order.filterMap (es[·]?)) ep' ⟨SetTable.sizeAbove wanted-1,place, #[],t.finger,t.led,mv,t.plain⟩->
  SetOk w o' (order.filterMap (es[·]?)) ep' ⟨SetTable.sizeAbove wanted-1,place, #[],t.finger,t.led,mv,t.plain⟩ (kK xs order.toList))/\(order.filterMap (es[·]?)).size=es.size:=by
 obtain⟨q,h3,h12,e,hlt⟩:=fR hw
 have sz:(es.map (·.1)).size=xs.length:=by rw[Array.size_map,S.size]
 have hk:SetTable.sizeAbove wanted-1+1=2^q:=by rw[e];omega
 obtain⟨place,order,g1,g2,g3⟩:=uS h3 h12 hk t.finger (t.movedTo (SetTable.sizeAbove wanted-1)) t.led t.plain (es.map (·.1)) (by rw[sz,e];omega)
 rw[sz] at g2;have lt: ∀i∈order.toList,i<xs.length:=λi hi=>List.mem_range.mp (g2.mem_iff.mp hi)
 have el:(order.filterMap (es[·]?)).toList=(kK xs order.toList).map qz:=by
  rw[Array.toList_filterMap];unfold kK;rw[List.map_map];have key: ∀l:List Nat,(∀i∈l,i<xs.length)->l.filterMap (λi=>es[i]?)=l.map (qz∘λi=>xs.getD i ([],0)):=by
   intro l
   induction l with
   |nil=>intro _;rfl
   |cons i l ih=>
    intro hl;have h1:=hl i List.mem_cons_self
    have e1:es[i]? =some (qz (xs.getD i ([],0))):=by
     rw[S.at_,List.getElem?_eq_getElem h1];simp[List.getD,h1]
    rw[List.filterMap_cons,e1,List.map_cons,ih λj hj=>hl j (List.mem_cons_of_mem _ hj)]
    rfl
  exact key _ lt
 have et:lY (kK xs order.toList)=order.toList.map λk=>(es.map (·.1)).toList.getD k 0:=by
  unfold lY kK;rw[List.map_map];refine List.map_congr_left λi hi=>?_
  have:=lt i hi
  rw[ny S];show th (xs.getD i ([],0)).1=(lY xs).getD i 0;unfold lY;simp[List.getD,this]
 have pp:=hB g2
 refine⟨place,order,_,g1,g2,λo' ep' hex hd=>?_,?_⟩
 ·refine⟨⟨hex,hd,el,by rw[et];exact g3,S.led,S.pl,?_⟩,?_⟩
  ·exact((pp.map (·.1)).nodup_iff).mpr S.nd
  ·have z:=g3.sz
   rw[List.length_map,g2.length_eq,List.length_range] at z;show(place.size+0)*5<(SetTable.sizeAbove wanted-1)*3;have z:place.size=xs.length:=z
   rw[z,e];omega
 ·rw[<-Array.length_toList,el,List.length_map,pp.length_eq,S.size]
theorem zc(ho:s.heap.get? a=some o)(S:SetAt w o es ep t xs){wanted:Nat}(hw:wanted<=4095)(hl:xs.length*5<wanted*3){Q:Unit->Shared->Prop}
 (h: ∀h' o' es' ep' t' xs',Heap.SameBut a s.heap h'->h'.get? a=some o'->SetOk w o' es' ep' t' xs'->xs'.Perm xs->Q () {s with heap:=h'}):wpAny (model prog w) A (setRelay a wanted) Q E s:=by
 obtain⟨place,order,mv,g1,g2,g3,g4⟩:=nH S hw hl
 obtain⟨q,h3,h12,e,hlt⟩:=fR hw
 have e0:setRelay a wanted=(do
  let(es,_,t) <-setState a
  if SetTable.sizeAbove wanted>sizeLine then unsupported "set:memory"
  let(es,t) <-(do
   let some (t,order):=t.relaid (es.map (·.1)) wanted|unsupported "internal:set-table-without-room"
   let es':=order.filterMap (es[·]?)
   if es'.size !=es.size then unsupported "internal:set-table-lost-an-element"
   pure (es',t):Sem (Array (Int×Value)×SetTable))
  storeSet a es t):=rfl
 rw[e0];refine wpAny_bind (wpAny_setState_of ho S.hd S.fits ?_)
 dsimp only;have p12:2^q<=2^12:=Nat.pow_le_pow_right (by omega) h12
 rw[if_neg (by rw[e,sizeLine_eq];have:(2:Nat)^12=4096:=by decide
               omega),g1]
 dsimp only;rw[g4,bne_self_eq_false];simp only[Bool.false_eq_true,if_false];refine wpAny_bind (wpAny_pure ?_)
 dsimp only;have sl:(order.filterMap (es[·]?)).size<=sizeLine:=by
  rw[g4,S.size,sizeLine_eq];omega
 refine wpAny_storeSet_of ho S.hd ?_ sl
 have hg:=Heap.get?_update_self (Obj.putSet (order.filterMap (es[·]?)) ⟨SetTable.sizeAbove wanted-1,place, #[],t.finger,t.led,mv,t.plain⟩) ho (by rw[putSet_of _ _ S.hd];rfl)
 rw[putSet_of _ _ S.hd] at hg;exact h _ _ _ _ _ _ (Heap.SameBut.update s.heap a _) hg (g3 _ _ S.ex rfl) (hB g2)
end
theorem yV {t:SetTable}{hs:List Int}(T:TOk t hs){j:Nat}(wd:Bool)(h1:wd=true->j∈t.dummies.toList)(h2:wd=false-> ¬nv t j):(t.put j).1.fill=if wd then t.fill else t.fill+1:=by
 have e1:(SetTable.insertAt t.place (SetTable.below t.place j) j).size=t.place.size+1:=by
  have:=congrArg List.length (SetTable.toList_insertAt t.place (SetTable.below t.place j) j)
  rw[Array.length_toList] at this;rw[this];have b:=(Es T.sp j).le
  simp;omega
 show(SetTable.insertAt t.place (SetTable.below t.place j) j).size+(if SetTable.has t.dummies j=true then SetTable.eraseAt t.dummies (SetTable.below t.dummies j) else t.dummies).size=_
 rw[e1];unfold SetTable.fill;cases wd with
 |true=>
  have hm:=h1 rfl
  obtain⟨i,hi⟩:=List.mem_iff_getElem?.mp hm
  rw[Array.getElem?_toList] at hi;have lt:=(Array.getElem?_eq_some_iff.mp hi).1
  have e2:(SetTable.eraseAt t.dummies (SetTable.below t.dummies j)).size=t.dummies.size-1:=by
   rw[<-Array.length_toList,cQ,List.length_eraseIdx,oE T.sd hi,if_pos (by rw[Array.length_toList];exact lt),Array.length_toList]
  rw[if_pos ((gW T.sd j).mpr hm),if_pos rfl,e2];omega
 |false=>
  have hn:=h2 rfl
  rw[if_neg λw=>hn (.inr ((gW T.sd j).mp w)),if_neg (by decide)];omega
theorem j0 {α β:Type}(f:α->β): ∀(l:List α) (i:Nat),(l.map f).eraseIdx i=(l.eraseIdx i).map f
 | [],_=>rfl
 |_::_,0=>rfl
 |a::l,i+1=>by rw[List.map_cons,List.eraseIdx_cons_succ,List.eraseIdx_cons_succ,List.map_cons,j0 f l i]
section
variable {prog:Program}{w:World}{A:Around}{E:Value->Shared->Prop}{s:Shared}{a b:Addr}{o:Obj}{es:Array (Int×Value)}{ep:Nat}{t:SetTable}{xs:dS}{k:List Int}
theorem yw {α:Type}(l:List α)(p:Nat)(x:α):(c4 l p x).Perm (l++[x]):=by
 unfold c4;refine List.perm_middle.trans ?_
 rw[List.take_append_drop];exact(List.perm_append_singleton x l).symm
theorem oo(ho:s.heap.get? a=some o)(S:SetOk w o es ep t xs)(hE:nK prog w s.heap xs)(hu:A.units<cLine)(hk:(KI prog w).is s.heap k b)(hlen:xs.length<=1000){Q:Bool->Shared->Prop}
 (hyes:k∈xs.map (·.1)->Q false s)
 (hno:k∉xs.map (·.1)-> ∀h' o' es' ep' t' xs',Heap.SameBut a s.heap h'->h'.get? a=some o'->SetOk w o' es' ep' t' xs'->xs'.Perm (xs++[(k,b)])->Q true {s with heap:=h'}):
 wpAny (model prog w) A (setAddHashed a (.ref b) (th k)) Q E s:=by
 have S':=S.toSetAt
 unfold setAddHashed setAddHashedIn;refine wpAny_holding (wpAny_bind (wpAny_setState_of ho S.hd S'.fits ?_))
 dsimp only;rw[l4];simp only[Bool.false_eq_true,if_false];refine wpAny_bind (lS ho S' hE hu hk true (λi c hi=>?_) λnk j wd hj hd1 hd2 hrc=>?_)
 ·exact wpAny_pure (hyes (List.mem_map.mpr ⟨(k,c),List.mem_of_getElem? hi,rfl⟩))
 ·dsimp only
  refine wpAny_bind (wpAny_setState_of ho S.hd S'.fits ?_)
  dsimp only;have T:=S.T
  have nj:j∉t.place.toList:=λw=>by
   cases wd with
   |true=>exact T.dj j (hd1 rfl) w
   |false=>exact hd2 rfl (.inl w)
  have fp:=yV T wd hd1 hd2
  have f5:=S.f5
  obtain⟨q,q3,q12,qe⟩:=T.pw
  have p3:2^3<=2^q:=Nat.pow_le_pow_right (by omega) q3
  have fl:(t.put j).1.fill<=t.mask:=by rw[fp];split<;>omega
  have T2:=T.put hj nj hrc fl
  have pl:(t.put j).1.plain=true:=S.pl
  have hsz:=S'.size
  have el:(SetTable.insertAt es (t.put j).2 (th k,Value.ref b)).toList=(c4 xs (t.put j).2 (k,b)).map qz:=by
   rw[SetTable.toList_insertAt,S.he];unfold c4;rw[List.map_append,List.map_cons,List.map_take,List.map_drop];rfl
  have et:lY (c4 xs (t.put j).2 (k,b))=c4 (lY xs) (t.put j).2 (th k):=by
   unfold lY c4;rw[List.map_append,List.map_cons,List.map_take,List.map_drop]
  have pp:=yw xs (t.put j).2 (k,b)
  have nd2:((c4 xs (t.put j).2 (k,b)).map (·.1)).Nodup:=by
   refine((pp.map (·.1)).nodup_iff).mpr ?_
   rw[List.map_append,List.nodup_append];exact⟨S.nd,by simp,λx hx y hy=>by
    simp only[List.map_cons,List.map_nil,List.mem_singleton] at hy;subst hy;exact λe=>nk (e▸hx)⟩
  have sz2:(SetTable.insertAt es (t.put j).2 (th k,Value.ref b)).size=xs.length+1:=by
   rw[<-Array.length_toList,el,List.length_map,pp.length_eq];simp
  have S2: ∀(o':Obj) (ep':Nat),o'.ExactSet->o'.data=.set (SetTable.insertAt es (t.put j).2 (th k,Value.ref b)) ep' (t.put j).1->SetAt w o' (SetTable.insertAt es (t.put j).2 (th k,Value.ref b)) ep' (t.put j).1 (c4 xs (t.put j).2 (k,b)):=
   λo' ep' hex hd=>⟨hex,hd,el,by rw[et];exact T2,S.led,pl,nd2⟩
  have hg:=Heap.get?_update_self (Obj.putSet (SetTable.insertAt es (t.put j).2 (th k,Value.ref b)) (t.put j).1) ho (by rw[putSet_of _ _ S.hd];rfl)
  rw[putSet_of _ _ S.hd] at hg;rw[pl];simp only[if_true];refine wpAny_bind (xn hk ?_)
  simp only[if_true];refine wpAny_bind (wpAny_storeSet_of ho S.hd ?_ (by rw[sz2,sizeLine_eq];omega))
  have hb:=Heap.SameBut.update s.heap a (Obj.putSet (SetTable.insertAt es (t.put j).2 (th k,Value.ref b)) (t.put j).1)
  split
  ·rename_i hc
   rw[Bool.and_eq_true] at hc;refine wpAny_bind (zc (s:={s with heap:=s.heap.update a (Obj.putSet (SetTable.insertAt es (t.put j).2 (th k,Value.ref b)) (t.put j).1)}) hg (S2 _ _ S.ex rfl) ?_ ?_ λh' o' es' ep' t' xs' g1 g2 g3 g4=>?_)
   ·rw[hsz];unfold SetTable.grown;split<;>omega
   ·rw[hsz,pp.length_eq];unfold SetTable.grown
    rw[List.length_append,List.length_singleton];split<;>omega
   ·exact wpAny_pure (hno nk h' o' es' ep' t' xs' (hb.trans g1) g2 g3 (g4.trans pp))
  ·rename_i hc
   refine wpAny_pure (hno nk _ _ _ _ _ _ hb hg ⟨S2 _ _ S.ex rfl,?_⟩ pp)
   show(t.put j).1.fill*5<t.mask*3;rw[fp];cases wd with
   |true=>exact f5
   |false=>
    have hc: ¬(t.put j).1.tooFull=true:=λw=>hc (by rw[w];rfl)
    unfold SetTable.tooFull at hc;rw[decide_eq_true_eq,fp] at hc;have:(t.put j).1.mask=t.mask:=rfl
    rw[this] at hc;simp only[Bool.false_eq_true,if_false] at hc⊢;omega
theorem kq(ho:s.heap.get? a=some o)(S:SetOk w o es ep t xs)(hE:nK prog w s.heap xs)(hu:A.units<cLine)(hk:(KI prog w).is s.heap k b)(hlen:xs.length<=1000){Q:Bool->Shared->Prop}
 (hno:k∉xs.map (·.1)->Q false s)
 (hyes:k∈xs.map (·.1)-> ∀h' o' es' ep' t' xs',Heap.SameBut a s.heap h'->h'.get? a=some o'->SetOk w o' es' ep' t' xs'->(∃i c,xs[i]? =some (k,c)/\xs'=xs.eraseIdx i)->Q true {s with heap:=h'}):
 wpAny (model prog w) A (setDiscardHashed a (.ref b) (th k)) Q E s:=by
 have S':=S.toSetAt
 unfold setDiscardHashed;refine wpAny_bind (rq ho S' hE hu hk (λi c hi=>?_) λnk=>?_)
 ·dsimp only
  refine wpAny_bind (wpAny_setState_of ho S.hd S'.fits ?_)
  dsimp only;have T:=S.T
  have zz:=T.sz
  unfold lY at zz;rw[List.length_map] at zz;have il:=(List.getElem?_eq_some_iff.mp hi).1
  have hp:t.place[i]? =some (t.place[i]'(by omega)):=Array.getElem?_eq_getElem (by omega)
  have T2:=T.drop hp
  have el:(SetTable.eraseAt es i).toList=(xs.eraseIdx i).map qz:=by
   rw[cQ,S.he,j0]
  have et:lY (xs.eraseIdx i)=(lY xs).eraseIdx i:=by unfold lY;rw[j0]
  have sz2:(SetTable.eraseAt es i).size<=1000:=by
   rw[<-Array.length_toList,el,List.length_map];exact Nat.le_trans (List.length_eraseIdx_le _ _) hlen
  have hg:=Heap.get?_update_self (Obj.putSet (SetTable.eraseAt es i) (t.drop i)) ho (by rw[putSet_of _ _ S.hd];rfl)
  rw[putSet_of _ _ S.hd] at hg;have ed:t.drop i={t with place:=SetTable.eraseAt t.place i,dummies:=SetTable.insertAt t.dummies (SetTable.below t.dummies (t.place[i]'(by omega))) (t.place[i]'(by omega))}:=by
   unfold SetTable.drop;rw[hp]
  refine wpAny_bind (wpAny_storeSet_of ho S.hd ?_ (by rw[sizeLine_eq];omega))
  refine wpAny_bind (wpAny_point ?_)
  refine wpAny_pure (hyes (List.mem_map.mpr ⟨(k,c),List.mem_of_getElem? hi,rfl⟩) _ _ _ _ _ (xs.eraseIdx i) (Heap.SameBut.update s.heap a _) hg ⟨⟨S.ex,rfl,el,by rw[et];exact T2,by rw[ed];exact S.led,by rw[ed];exact S.pl,?_⟩,?_⟩ ⟨i,c,hi,rfl⟩)
  ·rw[<-j0]
   exact List.Nodup.sublist (List.eraseIdx_sublist _ _) S.nd
  ·have f5:=S.f5
   have ff:(t.drop i).fill=t.fill:=by
    rw[ed];show(SetTable.eraseAt t.place i).size+(SetTable.insertAt t.dummies _ _).size=t.place.size+t.dummies.size;rw[<-Array.length_toList,cQ,List.length_eraseIdx,<-Array.length_toList (xs:=SetTable.insertAt _ _ _),SetTable.toList_insertAt,if_pos (by rw[Array.length_toList];omega)]
    have b:=(Es T.sd (t.place[i]'(by omega))).le
    simp;omega
   rw[ff,ed];exact f5
 ·exact wpAny_pure (hno nk)
end
abbrev aS:=Sum Int Str
def nL:aS->Value->Bool
 | .inl k,v=>Value.isInt k v
 | .inr x,v=>Value.isStrOf x v
def Gj(w:World):aS->Int
 | .inl k=>hashInt k
 | .inr x=>hashStr w x
theorem bm: ∀ {k:aS} {v:Value},nL k v=true->(∃i t,k=Sum.inl i/\v=Value.int i t)\/(∃x t,k=Sum.inr x/\v=Value.str x t)
 | .inl i,v,h=>by
   obtain⟨t,e⟩:=Value.isInt_shape (k:=i) (v:=v) h
   exact .inl ⟨i,t,rfl,e⟩
 | .inr x,v,h=>by
   obtain⟨t,e⟩:=Value.isStrOf_shape (x:=x) (v:=v) h
   exact .inr ⟨x,t,rfl,e⟩
theorem vO(i:Int)(t:Tok):nL (.inl i) (.int i t)=true:=by simp[nL,Value.isInt]
theorem vW(x:Str)(t:Tok):nL (.inr x) (.str x t)=true:=by simp[nL,Value.isStrOf]
theorem CN(a b:Int):decide ((Sum.inl a:aS)=Sum.inl b)=(a==b):=by
 by_cases e:a=b
 ·subst e;simp
 ·have h: ¬(Sum.inl a:aS)=Sum.inl b:=λq=>e (Sum.inl.inj q)
  rw[decide_eq_false h];exact(beq_eq_false_iff_ne.mpr e).symm
theorem CW(a b:Str):decide ((Sum.inr a:aS)=Sum.inr b)=decide (a=b):=by
 by_cases e:a=b
 ·subst e;simp
 ·have h: ¬(Sum.inr a:aS)=Sum.inr b:=λq=>e (Sum.inr.inj q)
  rw[decide_eq_false h,decide_eq_false e]
theorem Cw(a:Int)(b:Str):decide ((Sum.inl a:aS)=Sum.inr b)=false:=decide_eq_false (λq=>nomatch q)
theorem CD(a:Str)(b:Int):decide ((Sum.inr a:aS)=Sum.inl b)=false:=decide_eq_false (λq=>nomatch q)
def bi(prog:Program)(w:World):PySem.KeyKind prog w aS where
 is:=nL
 hash:=Gj w
 inj:=λv a b ha hb=>by
  rcases bm ha with⟨i,t,rfl,rfl⟩|⟨x,t,rfl,rfl⟩
  ·rcases bm hb with⟨j,u,rfl,e⟩|⟨y,u,rfl,e⟩
   ·injection e with e1 _;rw[e1]
   ·exact nomatch e
  ·rcases bm hb with⟨j,u,rfl,e⟩|⟨y,u,rfl,e⟩
   ·exact nomatch e
   ·injection e with e1 _;rw[e1]
 byValue:=λk v h=>by
  rcases bm h with⟨i,t,rfl,rfl⟩|⟨x,t,rfl,rfl⟩<;>rfl
 pyHash:=λhv h=>by
  rcases bm hv with⟨i,t,rfl,rfl⟩|⟨x,t,rfl,rfl⟩
  ·exact wpAny_pyHash_int h
  ·exact wpAny_pyHash_str h
 eqBool:=λhu hv h=>by
  rcases bm hu with⟨i,t,rfl,rfl⟩|⟨x,t,rfl,rfl⟩
  ·rcases bm hv with⟨j,u,rfl,rfl⟩|⟨y,u,rfl,rfl⟩
   ·rw[CN] at h;exact wpAny_eqBool_int h
   ·rw[Cw] at h;exact SeqAt.EqAt.int_str i t y u _ _ _ _ h
  ·rcases bm hv with⟨j,u,rfl,rfl⟩|⟨y,u,rfl,rfl⟩
   ·rw[CD] at h;exact SeqAt.EqAt.str_int x t j u _ _ _ _ h
   ·rw[CW] at h;exact wpAny_eqBool_str h
 «strs»:=λk x t v h=>by
  rcases bm h with⟨i,u,rfl,e⟩|⟨y,u,rfl,e⟩
  ·exact nomatch e
  ·injection e with e1 _
   subst e1;cases v<;>rfl
theorem p6(prog:Program)(w:World)(i:Int)(t:Tok):(bi prog w).is (.inl i) (.int i t)=true:=vO i t
theorem qZ(prog:Program)(w:World)(x:Str)(t:Tok):(bi prog w).is (.inr x) (.str x t)=true:=vW x t
inductive V where
 |non|bl (b:Bool)|int (i:Int)|str (x:Str)|byt (b:Array UInt8)|flt (b:UInt64)|ref (a:Addr)|ty (n:String)
 deriving DecidableEq
def RelV:V->Value->Prop
 | .non,u=>u=Value.none
 | .bl b,u=>u=Value.bool b
 | .int i,u=> ∃t,u=Value.int i t
 | .str x,u=> ∃t,u=Value.str x t
 | .byt b,u=> ∃t,u=Value.bytes b t
 | .flt b,u=> ∃t,u=Value.float b t
 | .ref a,u=>u=Value.ref a
 | .ty n,u=>u=Value.type n
abbrev Vals:List V->List Value->Prop:=Paired RelV
theorem Vals.length {xs:List V}{us:List Value}(r:Vals xs us):xs.length=us.length:=Paired.length r
theorem Vals.get: ∀ {xs:List V} {us:List Value} {i:Nat} {x:V},Vals xs us->xs[i]? =some x-> ∃u,us[i]? =some u/\RelV x u
 |_,_,_,_,.nil,e=>by simp at e
 |_,_,0,_,.cons r _,e=>by simp at e;subst e;exact⟨_,rfl,r⟩
 |_,_,i+1,x,.cons _ t,e=>by
  obtain⟨u,h1,h2⟩:=Vals.get (i:=i) (x:=x) t (by simpa using e)
  exact⟨u,by simpa using h1,h2⟩
theorem Vals.set {x:V}{u:Value}(r:RelV x u): ∀ {xs:List V} {us:List Value} (i:Nat),Vals xs us->Vals (xs.set i x) (us.set i u)
 |_,_,_,.nil=>.nil
 |_,_,0,.cons _ t=>.cons r t
 |_,_,i+1,.cons q t=>.cons q (Vals.set r i t)
theorem Vals.append: ∀ {xs ys:List V} {us ws:List Value},Vals xs us->Vals ys ws->Vals (xs++ys) (us++ws)
 |_,_,_,_,.nil,s=>s
 |_,_,_,_,.cons r t,s=>.cons r (Vals.append t s)
theorem Vals.take: ∀ {xs:List V} {us:List Value} (n:Nat),Vals xs us->Vals (xs.take n) (us.take n)
 |_,_,0,_=>.nil
 |_,_,_+1,.nil=>.nil
 |_,_,n+1,.cons r t=>.cons r (Vals.take n t)
theorem Vals.drop: ∀ {xs:List V} {us:List Value} (n:Nat),Vals xs us->Vals (xs.drop n) (us.drop n)
 |_,_,0,r=>r
 |_,_,_+1,.nil=>.nil
 |_,_,n+1,.cons _ t=>Vals.drop n t
def RelO:Option V->Option Value->Prop
 |some v,some u=>RelV v u
 |none,none=>True
 |_,_=>False
def KV {κ:Type}:List (κ×V)->List (κ×Value)->Prop:=Paired λ(p:κ×V) (q:κ×Value)=>p.1=q.1/\RelV p.2 q.2
def kV:aS->V
 | .inl i=>.int i
 | .inr x=>.str x
inductive HO where
 |lst (xs:List V)
 |tup (xs:List V)
 |dK (kvs:List (aS×V))|dT (kvs:List (List aS×V))
 |set (S:Int->Bool) (n:Nat)
 |tst (xs:List (List Int×Addr))
 |ins (C dx:Addr) (fs:List (Str×V))
 |own (x:Addr)
 |xd (fs:List (Str×V))
 |met (f x:Addr)
 |rng (lo hi:Int)
 |frz (o:Obj) (u:HO)
 |nst (p:Addr) (u:HO)
 |tbl (ps:Array Value)
 |ext (φ:Heap->Prop)
abbrev Hp:=Addr->Option HO
def aV(H:Hp)(a:Addr)(o:HO):Hp:=λb=>if b=a then some o else H b
theorem aA {H:Hp}{a:Addr}{o:HO}:aV H a o a=some o:=by unfold aV;rw[if_pos rfl]
theorem ax {H:Hp}{a b:Addr}{o:HO}(h:b≠a):aV H a o b=H b:=by unfold aV;rw[if_neg h]
theorem Bn {H:Hp}{a b:Addr}{o u:HO}(h:H a=some o)(h':H b=some u)(d:o≠u):a≠b:=by
 intro e;subst e;rw[h] at h';exact d (Option.some.inj h')
theorem aM {H:Hp}{a b:Addr}{o:HO}(h:H a=some o)(h':H b=none):a≠b:=by
 intro e;subst e;rw[h] at h';cases h'
section
variable(P:Program)(w:World)
def ObjOk(H:Hp)(h:Heap)(a:Addr):HO->Prop
 | .lst xs=>xs.length<=sizeLine/\ ∃(its:List Value) (n:Nat),Vals xs its/\h.get? a=some {cls:=.type "list",data:=.seq its.toArray n}
 | .tup xs=>xs.length<=sizeLine/\ ∃its:List Value,Vals xs its/\IsTup h a its.toArray/\ ∃o,h.get? a=some o/\o.dict=none
 | .dK kvs=>kvs.length<=sizeLine/\(a==sysModules)=false/\ ∃vs,KV kvs vs/\h.DictOf (bi P w) a vs
 | .dT kvs=>kvs.length<=sizeLine/\(a==sysModules)=false/\ ∃xs:List (List aS×Addr×Value),
    Paired (λ(p:List aS×V) (q:List aS×Addr×Value)=>p.1=q.1/\H q.2.1=some (.tup (p.1.map kV))/\RelV p.2 q.2.2) kvs xs/\
    ∃o es ep,h.get? a=some o/\o.ExactDict/\o.data=.dict es ep/\es.toList=xs.map (entryOfKey (tupleKind (bi P w)))/\(xs.map (·.1)).Nodup
 | .set S n=>h.SetOf (intKind P w) a S n
 | .tst xs=> ∃o es ep t,h.get? a=some o/\SetOk w o es ep t xs
 | .ins C dx fs=>H dx=some (.own a)/\fs.length<=1000/\dx≠a/\h.get? a=some (W.instObj C dx)/\
    ∃mA,h.Ns1 dx mA/\(∀f,RelO (fs.lookup f) (mA f))/\PySem.Within mA (fs.map (·.1))
 | .own _=> ∃o,h.get? a=some o
 | .xd fs=> ∃mA,h.Ns1 a mA/\ ∀f,RelO (fs.lookup f) (mA f)
 | .rng lo hi=> ∃t u v,h.get? a=some {cls:=.type "range",data:=.fields #[.int lo t,.int hi u,.int 1 v]}
 | .frz o u=>h.get? a=some o/\ObjOk H h a u
 | .nst _ u=>ObjOk H h a u
 | .tbl ps=>h.get? a=some {cls:=.none,data:=.fields ps}
 | .met f x=>h.get? a=some (W.methodObj (.ref f) (.ref x))
 | .ext φ=>φ h/\(∃o,h.get? a=some o)/\ ∀h1 h2:Heap,φ h1->(∀o,h1.get? a=some o->h2.get? a=some o)->φ h2
def HOk(H:Hp)(h:Heap):Prop:= ∀a o,H a=some o->ObjOk P w H h a o
end
section
variable {P:Program}{w:World}{H H':Hp}{h h':Heap}{a:Addr}{o:HO}
theorem ObjOk.lt(x:ObjOk P w H h a o):a<h.objs.size:=by
 induction o with
 |lst xs=>obtain⟨_,_,_,_,e⟩:=x;exact Heap.lt_size e
 |tup xs=>obtain⟨_,_,_,p,_⟩:=x;exact p.lt
 |dK kvs=>obtain⟨_,_,_,_,o,_,_,e,_⟩:=x;exact Heap.lt_size e
 |dT kvs=>obtain⟨_,_,_,_,o,_,_,e,_⟩:=x;exact Heap.lt_size e
 |set S n=>obtain⟨o,_,_,_,e,_⟩:=x;exact Heap.lt_size e
 |tst xs=>obtain⟨o,_,_,_,e,_⟩:=x;exact Heap.lt_size e
 |ins C dx fs=>obtain⟨_,_,_,e,_⟩:=x;exact Heap.lt_size e
 |own y=>obtain⟨_,e⟩:=x;exact Heap.lt_size e
 |xd fs=>obtain⟨_,⟨_,_,_,e,_⟩,_⟩:=x;exact Heap.lt_size e
 |rng lo hi=>obtain⟨_,_,_,e⟩:=x;exact Heap.lt_size e
 |frz ob u ih=>obtain⟨e,_⟩:=x;exact Heap.lt_size e
 |nst p u ih=>exact ih x
 |tbl ps=>exact Heap.lt_size (show h.get? a=some _ from x)
 |met f y=>exact Heap.lt_size (show h.get? a=some _ from x)
 |ext φ=>obtain⟨_,⟨_,e⟩,_⟩:=x;exact Heap.lt_size e
theorem Paired.mapP {α β:Type}{F G:α->β->Prop}: ∀ {l₁:List α} {l₂:List β},Paired F l₁ l₂->(∀a b,F a b->G a b)->Paired G l₁ l₂
 |_,_,.nil,_=>.nil
 |_,_,.cons r t,f=>.cons (f _ _ r) (Paired.mapP t f)
theorem ObjOk.stay(x:ObjOk P w H h a o)(k: ∀b u,(b=a\/H b=some (.own a))->h.get? b=some u->h'.get? b=some u)
 (ho: ∀b,H b=some (.own a)->H' b=some (.own a)) (ht: ∀b xs,H b=some (.tup xs)->H' b=some (.tup xs)):ObjOk P w H' h' a o:=by
 induction o with
 |lst xs=>obtain⟨z,its,n,r,e⟩:=x;exact⟨z,its,n,r,k _ _ (.inl rfl) e⟩
 |tup xs=>obtain⟨z,its,r,⟨ob,e,c⟩,ob2,e2,c2⟩:=x;exact⟨z,its,r,⟨ob,k _ _ (.inl rfl) e,c⟩,ob2,k _ _ (.inl rfl) e2,c2⟩
 |dK kvs=>obtain⟨z,y,vs,r,ob,es,ep,e,c⟩:=x;exact⟨z,y,vs,r,ob,es,ep,k _ _ (.inl rfl) e,c⟩
 |dT kvs=>
  obtain⟨z,y,xs,r,ob,es,ep,e,c⟩:=x
  exact⟨z,y,xs,Paired.mapP r λp q z=>⟨z.1,ht _ _ z.2.1,z.2.2⟩,ob,es,ep,k _ _ (.inl rfl) e,c⟩
 |set S n=>obtain⟨ob,es,ep,t,e,c⟩:=x;exact⟨ob,es,ep,t,k _ _ (.inl rfl) e,c⟩
 |tst xs=>obtain⟨ob,es,ep,t,e,c⟩:=x;exact⟨ob,es,ep,t,k _ _ (.inl rfl) e,c⟩
 |ins C dx fs=>
  obtain⟨d,z,ne,e,mA,⟨od,es,ep,e2,c⟩,r⟩:=x
  exact⟨ho _ d,z,ne,k _ _ (.inl rfl) e,mA,⟨od,es,ep,k _ _ (.inr d) e2,c⟩,r⟩
 |own y=>obtain⟨ob,e⟩:=x;exact⟨ob,k _ _ (.inl rfl) e⟩
 |xd fs=>obtain⟨mA,⟨od,es,ep,e,c⟩,r⟩:=x;exact⟨mA,⟨od,es,ep,k _ _ (.inl rfl) e,c⟩,r⟩
 |rng lo hi=>obtain⟨t,u,v,e⟩:=x;exact⟨t,u,v,k _ _ (.inl rfl) e⟩
 |frz ob u ih=>obtain⟨e,q⟩:=x;exact⟨k _ _ (.inl rfl) e,ih q⟩
 |nst p u ih=>exact ih x
 |tbl ps=>
  have e:h.get? a=some {cls:=.none,data:=.fields ps}:=x
  show h'.get? a=some {cls:=.none,data:=.fields ps};exact k a _ (.inl rfl) e
 |met f y=>
  have e:h.get? a=some (W.methodObj (.ref f) (.ref y)):=x
  show h'.get? a=some (W.methodObj (.ref f) (.ref y));exact k a _ (.inl rfl) e
 |ext φ=>obtain⟨p,⟨o,e⟩,st⟩:=x;exact⟨st _ _ p λo q=>k _ _ (.inl rfl) q,⟨o,k _ _ (.inl rfl) e⟩,st⟩
theorem HOk.lt(x:HOk P w H h)(e:H a=some o):a<h.objs.size:=(x a o e).lt
theorem HOk.fresh(x:HOk P w H h)(e:h.objs.size<=a):H a=none:=by
 cases q:H a with
 |none=>rfl
 |some u=>exact absurd (Nat.lt_of_lt_of_le (x.lt q) e) (Nat.lt_irrefl _)
theorem HOk.kept(x:HOk P w H h)(k: ∀b u,h.get? b=some u->h'.get? b=some u):HOk P w H h':=λa o e=>
 (x a o e).stay (λb u _ q=>k b u q) (λ_ q=>q) λ_ _ q=>q
theorem HOk.laid(x:HOk P w H h)(k: ∀b u,h.get? b=some u->h'.get? b=some u)(hp:h.objs.size<=a)(new:ObjOk P w (aV H a o) h' a o):HOk P w (aV H a o) h':=λb u e=>by
 have hn:=x.fresh hp
 by_cases hb:b=a
 ·subst hb;rw[aA] at e;cases e;exact new
 ·rw[ax hb] at e
  exact(x b u e).stay (λc v _ q=>k c v q) (λc q=>by rw[ax (aM q hn)];exact q) λc xs q=>by rw[ax (aM q hn)];exact q
end
def Rd(H:Hp)(a:Addr)(u:HO):Prop:=H a=some u\/ ∃o,H a=some (.frz o u)
theorem Rd.ok {P:Program}{w:World}{H:Hp}{h:Heap}{a:Addr}{u:HO}(r:Rd H a u)(x:HOk P w H h):ObjOk P w H h a u:=by
 rcases r with r|⟨o,r⟩
 ·exact x a u r
 ·obtain⟨_,q⟩:=x a _ r
  exact q
def ET:Option HO->Prop
 |some (.lst _)=>True
 |some (.dK _)=>True
 |some (.dT _)=>True
 |some (.set _ _)=>True
 |some (.tst _)=>True
 |some (.ins _ _ _)=>True
 |some (.ext _)=>True
 |some (.nst _ _)=>True
 |_=>False
section
variable {P:Program}{w:World}{H:Hp}{h h':Heap}{x e:Addr}{o':HO}
theorem HOk.write(ok:HOk P w H h)(mu:ET (H x))(he:e=x\/H e=some (.own x))(k: ∀b u,b≠e->h.get? b=some u->h'.get? b=some u)(heo: ∃u,h'.get? e=some u)
 (new:ObjOk P w (aV H x o') h' x o'):HOk P w (aV H x o') h':=λb u q=>by
 have nown: ∀c y,H c=some (.own y)->c≠x:=λc y r z=>by subst z;rw[r] at mu;exact mu
 have ntup: ∀c xs,H c=some (.tup xs)->c≠x:=λc xs r z=>by subst z;rw[r] at mu;exact mu
 by_cases hb:b=x
 ·subst hb;rw[aA] at q;cases q;exact new
 ·rw[ax hb] at q
  by_cases hbe:b=e
  ·have q':H b=some (.own x):=by
    rcases he with z|z
    ·exact absurd (hbe.trans z) hb
    ·rw[hbe];exact z
   rw[q] at q';cases q';obtain⟨v,hv⟩:=heo
   exact⟨v,by rw[hbe];exact hv⟩
  ·refine(ok b u q).stay (λc v hc r=>k c v ?_ r) (λc r=>by rw[ax (nown c b r)];exact r) λc xs r=>by rw[ax (ntup c xs r)];exact r
   rcases hc with rfl|hc
   ·exact hbe
   ·rintro rfl
    rcases he with z|z
    ·exact nown c b hc z
    ·rw[hc] at z;cases z;exact hb rfl
end
structure Un(fs ex:List Addr)(H H':Hp)(h h':Heap):Prop where
 keep: ∀b o,h.get? b=some o->H b=none->b∉fs->b∉ex->h'.get? b=some o
 slot: ∀b o,h.get? b=some o->H b=none->b∈fs->b∉ex-> ∃sl,h'.get? b=some {o with slots:=sl}
 free: ∀b o,h.get? b=some o->H b=none->b∉ex->H' b=none
 there: ∀b o,h.get? b=some o->b∉ex-> ∃o',h'.get? b=some o'
 tups: ∀b xs,H b=some (.tup xs)->H' b=some (.tup xs)
 frzs: ∀b o u,H b=some (.frz o u)->H' b=some (.frz o u)
 tbls: ∀b ps,H b=some (.tbl ps)-> ∃more,H' b=some (.tbl (ps++more))
section
variable {fs fs' ex ex':List Addr}{H H1 H2:Hp}{h h1 h2 h':Heap}{a x e:Addr}{o:HO}
theorem Un.any(u:Un fs ex H H1 h h1){b:Addr}{ob:Obj}(q:h.get? b=some ob)(n:H b=none)(hx:b∉ex): ∃sl,h1.get? b=some {ob with slots:=sl}:=by
 by_cases hb:b∈fs
 ·exact u.slot b ob q n hb hx
 ·exact⟨ob.slots,u.keep b ob q n hb hx⟩
theorem Un.trans(a:Un fs ex H H1 h h1)(b:Un fs ex H1 H2 h1 h2):Un fs ex H H2 h h2 where
 keep:=λc ob q n hc hx=>b.keep c ob (a.keep c ob q n hc hx) (a.free c ob q n hx) hc hx
 slot:=λc ob q n hc hx=>by
  obtain⟨sl,e1⟩:=a.slot c ob q n hc hx
  obtain⟨sl',e2⟩:=b.slot c _ e1 (a.free c ob q n hx) hc hx
  exact⟨sl',e2⟩
 free:=λc ob q n hx=>by
  obtain⟨o',e1⟩:=a.there c ob q hx
  exact b.free c o' e1 (a.free c ob q n hx) hx
 there:=λc ob q hx=>by
  obtain⟨o',e1⟩:=a.there c ob q hx
  exact b.there c o' e1 hx
 tups:=λc xs q=>b.tups c xs (a.tups c xs q)
 frzs:=λc ob xs q=>b.frzs c ob xs (a.frzs c ob xs q)
 tbls:=λc ps q=>by
  obtain⟨m1,e1⟩:=a.tbls c ps q
  obtain⟨m2,e2⟩:=b.tbls c _ e1
  exact⟨m1++m2,by rw[e2,Array.append_assoc]⟩
theorem Un.kept(k: ∀b u,h.get? b=some u->h'.get? b=some u):Un fs ex H H h h':=
 ⟨λb ob q _ _ _=>k b ob q,λb ob q _ _ _=>⟨ob.slots,k b ob q⟩,λ_ _ _ n _=>n,λb ob q _=>⟨ob,k b ob q⟩,λ_ _ q=>q,λ_ _ _ q=>q,λ_ ps q=>⟨#[],by rw[q];simp⟩⟩
theorem Un.refl:Un fs ex H H h h:=Un.kept λ_ _ q=>q
theorem Un.laid(k: ∀b u,h.get? b=some u->h'.get? b=some u)(hp:h.objs.size<=a)(hn:H a=none):Un fs ex H (aV H a o) h h' where
 keep:=λb u q _ _ _=>k b u q
 slot:=λb u q _ _ _=>⟨u.slots,k b u q⟩
 free:=λb u q n _=>by rw[ax (Nat.ne_of_lt (Nat.lt_of_lt_of_le (Heap.lt_size q) hp))];exact n
 there:=λb u q _=>⟨u,k b u q⟩
 tups:=λb xs q=>by rw[ax (aM q hn)];exact q
 frzs:=λb u xs q=>by rw[ax (aM q hn)];exact q
 tbls:=λb ps q=>⟨#[],by rw[ax (aM q hn),q];simp⟩
theorem Un.write(mu:ET (H x))(he:e=x\/H e=some (.own x))(k: ∀b u,b≠e->h.get? b=some u->h'.get? b=some u)(heo: ∃u,h'.get? e=some u):Un fs ex H (aV H x o) h h':=by
 have hx: ∀b,H b=none->b≠x:=λb n z=>by subst z;rw[n] at mu;exact mu
 have hb: ∀b,H b=none->b≠e:=λb n z=>by
  subst z;rcases he with r|r
  ·exact hx b n r
  ·rw[n] at r;cases r
 have hm: ∀b u,H b=some u-> ¬ET (some u)->b≠x:=λb u q nm z=>by subst z;rw[q] at mu;exact nm mu
 refine⟨λb u q n _ _=>k b u (hb b n) q,λb u q n _ _=>⟨u.slots,k b u (hb b n) q⟩,λb u q n _=>by rw[ax (hx b n)];exact n,λb u q _=>?_,
  λb xs q=>by rw[ax (hm b _ q λz=>z)];exact q,λb u xs q=>by rw[ax (hm b _ q λz=>z)];exact q,λb ps q=>⟨#[],by rw[ax (hm b _ q λz=>z),q];simp⟩⟩
 by_cases hbe:b=e
 ·subst hbe;exact heo
 ·exact⟨u,k b u hbe q⟩
end
def trk(h:Heap)(H:Hp):List Addr:=(List.range h.objs.size).filter λa=>(H a).isSome
def pV(h:Heap)(H:Hp):Heap:=W.hideAll h (trk h H)
theorem vn(h:Heap)(H:Hp):(pV h H).objs.size=h.objs.size:=W.hideAll_size _ _
theorem zd {h:Heap}{H:Hp}{b:Addr}{o:Obj}(e:h.get? b=some o)(n:H b=none):(pV h H).get? b=some o:=
 W.hideAll_get _ e λhm=>by
  have q:(H b).isSome=true:=(List.mem_filter.mp hm).2
  rw[n] at q;simp at q
theorem Bi {h:Heap}{H:Hp}{b:Addr}{o:Obj}(e:(pV h H).get? b=some o):h.get? b=some o/\H b=none:=by
 have e':h.get? b=some o:=W.of_hideAll (trk h H) e
 refine⟨e',?_⟩
 cases q:H b with
 |none=>rfl
 |some x=>
  have hm:b∈trk h H:=List.mem_filter.mpr ⟨List.mem_range.mpr (Heap.lt_size e'),by simp[q]⟩
  have z:(pV h H).get? b=none:=W.hideAll_none (trk h H) hm
  rw[z] at e;cases e
structure Mod(K:W.Frag)(mg:Str->Option Value)(base:Heap):Prop where
 kin:K.In base
 glob:base.Ns mainGlobals mg
 blt: ∃mb,base.Ns builtinsNs mb/\ ∀x:Str,x≠"__name__"->mb x=bootBuiltins x
 nolimit:base.NoLimit
structure Cx where
 prog:Program
 w:World
 K:W.Frag
 mg:Str->Option Value
 base:Heap
 A:Around
 N:List Str
 s₀:Shared
 H₀:Hp
 env:Env
 outer:List Env
 stack:List Env
 ex:List Addr
 fn:Str->Bool
 calm:Bool
 pn:List (Addr×Obj)
 xe:Value->Shared->Prop
def frs(l:List Env):List Addr:=l.filterMap (·.frame)
abbrev Cx.fs(X:Cx):List Addr:=frs X.outer
def lR(sc:Scope)(x:Str):Prop:=sc.names.lookup x=some .local\/sc.names.lookup x=some .cell\/sc.names.lookup x=some .free
def yt(sc:Scope)(x:Str):Prop:=sc.names.lookup x=some .local\/sc.names.lookup x=some .cell
def Fm(env:Env)(h:Heap)(m:Str->Option Value)(x:Str)(u:Value):Prop:=
 (env.kindOf x=some .local/\m x=some u)\/((env.kindOf x=some .cell\/env.kindOf x=some .free)/\ ∃c,env.cells.lookup x=some c/\h.IsCell c (some u))
structure Cx.Ok(X:Cx):Prop where
 mod:Mod X.K X.mg X.base
 kind:X.env.scope.kind=.function
 glob:X.env.globals=mainGlobals
 blt:X.env.builtins=builtinsNs
 above:X.s₀.heap.objs.size<=X.env.locals
 inj: ∀x y c,X.env.cells.lookup x=some c->X.env.cells.lookup y=some c->x=y
 has: ∀x,(X.env.kindOf x=some .cell\/X.env.kindOf x=some .free)-> ∃c,X.env.cells.lookup x=some c
 cab: ∀x c,X.fn x=true->X.env.cells.lookup x=some c->X.s₀.heap.objs.size<=c
 hd:X.calm=true->X.A.handled=none
 frames:X.A.frames=some X.stack
 stk:X.stack=X.outer\/(X.stack=X.env::X.outer/\X.env.frame=some X.env.locals)
 exf: ∀b∈X.ex,b≠X.env.locals/\ ∀x c,X.env.cells.lookup x=some c->c≠b
 bs: ∀b o,X.base.get? b=some o->X.s₀.heap.get? b=some o/\X.H₀ b=none
 bsz:X.base.objs.size<=X.s₀.heap.objs.size
 noex: ∀b o,X.base.get? b=some o->b∉X.ex
 exfs: ∀b∈X.ex,b∉X.fs
 funs:X.s₀.heap.FunFrames X.base X.outer
 frf: ∀b∈X.fs,X.H₀ b=none
structure Inv(X:Cx)(aa:List (Addr×Obj))(σ:List (Option V))(H:Hp)(s:Shared):Prop where
 ok:X.Ok
 os:s.os=X.s₀.os
 bare:AllBare s.gens
 base:Un X.fs X.ex X.H₀ H X.s₀.heap s.heap
 loc: ∃m,s.heap.Ns X.env.locals m/\ ∀(i:Nat) (x:Str) (v:V),X.N[i]? =some x->σ[i]? =some (some v)->lR X.env.scope x-> ∃u,RelV v u/\Fm X.env s.heap m x u
 cell: ∀x c,X.env.cells.lookup x=some c-> ∃v,s.heap.IsCell c v
 free:H X.env.locals=none
 freeC: ∀x c,X.env.cells.lookup x=some c->H c=none
 pin: ∀p∈X.pn++aa,s.heap.get? p.1=some p.2/\H p.1=none/\p.1≠X.env.locals/\p.1∉X.fs/\ ∀v,p.2.data≠ .cell v
 hok:HOk X.prog X.w H s.heap
 len:σ.length=X.N.length
section
variable {X:Cx}{aa:List (Addr×Obj)}{σ:List (Option V)}{H H':Hp}{s:Shared}{h':Heap}
theorem Cx.Ok.nofr(ok:X.Ok){b:Addr}{o:Obj}(e:X.base.get? b=some o):b∉X.fs:=λhb=>by
 have:=(ok.funs.mem hb).1
 rw[e] at this;cases this
theorem Inv.bs(I:Inv X aa σ H s): ∀b o,X.base.get? b=some o->s.heap.get? b=some o/\H b=none:=λb o e=>
 ⟨I.base.keep b o (I.ok.bs b o e).1 (I.ok.bs b o e).2 (I.ok.nofr e) (I.ok.noex b o e),I.base.free b o (I.ok.bs b o e).1 (I.ok.bs b o e).2 (I.ok.noex b o e)⟩
theorem Inv.bk(I:Inv X aa σ H s): ∀b o,X.base.get? b=some o->s.heap.get? b=some o:=λb o e=>(I.bs b o e).1
theorem Inv.mod(I:Inv X aa σ H s):Mod X.K X.mg X.base:=I.ok.mod
theorem Inv.kIn(I:Inv X aa σ H s):X.K.In s.heap:=I.ok.mod.kin.keeps I.bk
theorem Inv.fr(I:Inv X aa σ H s): ∃m,Fr X.base X.env.locals s.heap m:=
 let⟨m,hn,_⟩:=I.loc
 ⟨m,hn,I.bk,Nat.le_trans I.ok.bsz I.ok.above⟩
theorem Inv.lt(I:Inv X aa σ H s):X.env.locals<s.heap.objs.size:=let⟨_,hn,_⟩:=I.loc;hn.lt
theorem Inv.sz(I:Inv X aa σ H s):X.s₀.heap.objs.size<=s.heap.objs.size:=Nat.le_trans I.ok.above (Nat.le_of_lt I.lt)
theorem Inv.nofs(I:Inv X aa σ H s){a:Addr}(h:s.heap.objs.size<=a):a∉X.fs:=λhb=>by
 obtain⟨_,o,ho,_⟩:=I.ok.funs.mem hb
 exact absurd (Nat.lt_of_lt_of_le (Heap.lt_size ho) (Nat.le_trans I.sz h)) (Nat.lt_irrefl _)
theorem Inv.cne(I:Inv X aa σ H s): ∀x c,X.env.cells.lookup x=some c->c≠X.env.locals:=λx c e z=>by
 obtain⟨v,o,ho,hd⟩:=I.cell x c e
 obtain⟨m,⟨o',es,ep,ho',hd',_⟩,_⟩:=I.loc
 rw[z,ho'] at ho;cases ho;rw[hd'] at hd;cases hd
theorem Inv.funs(I:Inv X aa σ H s):s.heap.FunFrames X.base X.outer:=by
 have all: ∀(l:List Env),(∀b∈frs l,b∈X.fs)->X.s₀.heap.FunFrames X.base l->s.heap.FunFrames X.base l:=by
  intro l
  induction l with
  |nil=>intro _ _;trivial
  |cons env r ih=>
   intro hs hl;obtain⟨hk,⟨L,o,hf,hn,ho,hd⟩,hr⟩:=hl
   have hL:L∈X.fs:=hs L (by unfold frs;rw[List.filterMap_cons,hf];exact List.mem_cons_self)
   obtain⟨sl,e⟩:=I.base.slot L o ho (I.ok.frf L hL) hL λz=>I.ok.exfs L z hL
   exact⟨hk,⟨L,_,hf,hn,e,hd⟩,ih (λb hb=>hs b (by unfold frs;rw[List.filterMap_cons,hf];exact List.mem_cons_of_mem _ hb)) hr⟩
 exact all X.outer (λ_ hb=>hb) I.ok.funs
theorem Inv.stack(I:Inv X aa σ H s):s.heap.FunFrames X.base X.stack:=by
 rcases I.ok.stk with e|⟨e,hf⟩
 ·rw[e];exact I.funs
 ·rw[e]
  obtain⟨m,hn,_⟩:=I.loc
  refine .cons (by rw[I.ok.kind];decide) hf hn ?_ I.funs
  exact Heap.get?_none_of_le (Nat.le_trans I.ok.bsz I.ok.above)
theorem Inv.stkSub(I:Inv X aa σ H s): ∀b∈frs X.stack,b∈X.env.locals::X.fs:=λb hb=>by
 rcases I.ok.stk with e|⟨e,hf⟩
 ·rw[e] at hb;exact List.mem_cons_of_mem _ hb
 ·rw[e] at hb
  unfold frs at hb;rw[List.filterMap_cons,hf] at hb;exact hb
theorem Inv.stkFree(I:Inv X aa σ H s): ∀b∈frs X.stack,H b=none:=λb hb=>by
 rcases List.mem_cons.mp (I.stkSub b hb) with e|hb
 ·rw[e];exact I.free
 ·obtain⟨_,o,ho,_⟩:=I.ok.funs.mem hb
  exact I.base.free b o ho (I.ok.frf b hb) λz=>I.ok.exfs b z hb
theorem Inv.step {g':Array GenState}{t':Nat}{d':Drawn}{ch:List Addr}(I:Inv X aa σ H s)
 (hch: ∀b∈ch,(b∈X.ex\/X.s₀.heap.objs.size<=b)/\b≠X.env.locals/\(∀x c,X.env.cells.lookup x=some c->c≠b)/\ ∀p∈X.pn++aa,p.1≠b)
 (keep: ∀b o,b≠X.env.locals->b∉X.fs->b∉ch->s.heap.get? b=some o->H b=none->h'.get? b=some o)
 (slot: ∀b o,b≠X.env.locals->b∈X.fs->b∉ch->s.heap.get? b=some o->H b=none-> ∃sl,h'.get? b=some {o with slots:=sl}) (free: ∀b o,b∉ch->s.heap.get? b=some o->H b=none->H' b=none)
 (there: ∀b o,b∉ch->s.heap.get? b=some o-> ∃o',h'.get? b=some o')
 (tups: ∀b xs,H b=some (.tup xs)->H' b=some (.tup xs)) (frzs: ∀b o u,H b=some (.frz o u)->H' b=some (.frz o u)) (tbls: ∀b ps,H b=some (.tbl ps)-> ∃more,H' b=some (.tbl (ps++more)))
 (ns: ∀m,s.heap.Ns X.env.locals m->h'.Ns X.env.locals m) (hok:HOk X.prog X.w H' h') (hg:AllBare g'):
 Inv X aa σ H' {s with heap:=h',gens:=g',drawn:=d',toks:=t'}:=by
 have neL: ∀b o,X.s₀.heap.get? b=some o->b≠X.env.locals:=λb o e=>Nat.ne_of_lt (Nat.lt_of_lt_of_le (Heap.lt_size e) I.ok.above)
 have neC: ∀b o,X.s₀.heap.get? b=some o->b∉X.ex->b∉ch:=λb o e hx hb=>by
  rcases(hch b hb).1 with z|z
  ·exact hx z
  ·exact absurd (Nat.lt_of_lt_of_le (Heap.lt_size e) z) (Nat.lt_irrefl _)
 have cellK: ∀x c,X.env.cells.lookup x=some c-> ∀v,s.heap.IsCell c v->h'.IsCell c v:=λx c e v hq_=>by
  obtain⟨o,ho,hd⟩:=hq_
  have nch:c∉ch:=λz=>(hch c z).2.2.1 x c e rfl
  by_cases hc:c∈X.fs
  ·obtain⟨sl,q⟩:=slot c o (I.cne x c e) hc nch ho (I.freeC x c e)
   exact⟨_,q,hd⟩
  ·exact⟨o,keep c o (I.cne x c e) hc nch ho (I.freeC x c e),hd⟩
 refine⟨I.ok,I.os,hg,⟨λb o e n hb hx=>?_,λb o e n hb hx=>?_,λb o e n hx=>?_,λb o e hx=>?_,λb xs e=>tups b xs (I.base.tups b xs e),λb o xs e=>frzs b o xs (I.base.frzs b o xs e),λb ps e=>?_⟩,?_,λx c e=>?_,?_,λx c e=>?_,λp hp=>?_,hok,I.len⟩
 ·exact keep b o (neL b o e) hb (neC b o e hx) (I.base.keep b o e n hb hx) (I.base.free b o e n hx)
 ·obtain⟨sl,e1⟩:=I.base.slot b o e n hb hx
  obtain⟨sl',e2⟩:=slot b _ (neL b o e) hb (neC b o e hx) e1 (I.base.free b o e n hx)
  exact⟨sl',e2⟩
 ·obtain⟨o',e1⟩:=I.base.there b o e hx
  exact free b o' (neC b o e hx) e1 (I.base.free b o e n hx)
 ·obtain⟨o',e1⟩:=I.base.there b o e hx
  exact there b o' (neC b o e hx) e1
 ·obtain⟨m1,e1⟩:=I.base.tbls b ps e
  obtain⟨m2,e2⟩:=tbls b _ e1
  exact⟨m1++m2,by rw[e2,Array.append_assoc]⟩
 ·obtain⟨m,hn,hl⟩:=I.loc
  refine⟨m,ns m hn,λi x v e1 e2 e3=>?_⟩
  obtain⟨u,r,l⟩:=hl i x v e1 e2 e3
  refine⟨u,r,?_⟩
  rcases l with l|⟨k,c,e,z⟩
  ·exact .inl l
  ·exact .inr ⟨k,c,e,cellK x c e _ z⟩
 ·obtain⟨v,z⟩:=I.cell x c e
  exact⟨v,cellK x c e v z⟩
 ·obtain⟨m,⟨o,_,_,ho,_⟩,_⟩:=I.loc
  exact free _ o (λz=>(hch _ z).2.1 rfl) ho I.free
 ·obtain⟨v,o,ho,hd⟩:=I.cell x c e
  exact free c o (λz=>(hch c z).2.2.1 x c e rfl) ho (I.freeC x c e)
 ·obtain⟨e,n,ne,nf,d⟩:=I.pin p hp
  have nch:p.1∉ch:=λz=>(hch p.1 z).2.2.2 p hp rfl
  exact⟨keep p.1 p.2 ne nf nch e n,free p.1 p.2 nch e n,ne,nf,d⟩
theorem Inv.un {t':Nat}(I:Inv X aa σ H s)(u:Un X.fs [] H H' s.heap h')(hok:HOk X.prog X.w H' h'):Inv X aa σ H' {s with heap:=h',toks:=t'}:=by
 obtain⟨m,⟨o,es,ep,ho,r⟩,_⟩:=id I.loc
 obtain⟨sl,hL⟩:=u.any ho I.free (by simp)
 exact I.step (g':=s.gens) (d':=s.drawn) (ch:=[]) (λ_ z=>nomatch z) (λb o _ hb _ e n=>u.keep b o e n hb (by simp)) (λb o _ hb _ e n=>u.slot b o e n hb (by simp)) (λb o _ e n=>u.free b o e n (by simp)) (λb o _ e=>u.there b o e (by simp)) u.tups u.frzs u.tbls (λm' hm=>by
  obtain⟨o',es',ep',ho',r'⟩:=hm
  rw[ho] at ho';cases ho';exact⟨_,es',ep',hL,r'⟩) hok I.bare
theorem Inv.call {g':Array GenState}{t':Nat}{d':Drawn}{ch:List Addr}(I:Inv X aa σ H s)(u:Un (frs X.stack) ch H H' s.heap h')(hok:HOk X.prog X.w H' h')(hg:AllBare g')
 (hch: ∀b∈ch,(b∈X.ex\/X.s₀.heap.objs.size<=b)/\b≠X.env.locals/\(∀x c,X.env.cells.lookup x=some c->c≠b)/\ ∀p∈X.pn++aa,p.1≠b):
 Inv X aa σ H' {s with heap:=h',gens:=g',drawn:=d',toks:=t'}:=by
 obtain⟨m,⟨o,es,ep,ho,r⟩,_⟩:=id I.loc
 obtain⟨sl,hL⟩:=u.any ho I.free λz=>(hch _ z).2.1 rfl
 exact I.step (ch:=ch) hch (λb o hL hb hc e n=>u.keep b o e n (λz=>(List.mem_cons.mp (I.stkSub b z)).elim hL hb) hc) (λb o _ _ hc e n=>u.any e n hc) (λb o hc e n=>u.free b o e n hc) (λb o hc e=>u.there b o e hc) u.tups u.frzs u.tbls (λm' hm=>by
  obtain⟨o',es',ep',ho',r'⟩:=hm
  rw[ho] at ho';cases ho';exact⟨_,es',ep',hL,r'⟩) hok hg
theorem Inv.turned {t':Nat}{it:Addr}(I:Inv X aa σ H s)(k: ∀b o,b≠it->s.heap.get? b=some o->h'.get? b=some o)(hn:H it=none)(hL:it≠X.env.locals)
 (h1:it∈X.ex\/X.s₀.heap.objs.size<=it) (h2: ∀x c,X.env.cells.lookup x=some c->c≠it) (h3: ∀p∈X.pn++aa,p.1≠it):Inv X aa σ H {s with heap:=h',toks:=t'}:=by
 have nit: ∀b u,H b=some u->b≠it:=λb u e z=>by rw[z,hn] at e;cases e
 refine I.step (g':=s.gens) (d':=s.drawn) (ch:=[it]) (λb hb=>?_) (λb o _ _ hc e _=>k b o (λz=>hc (by simp[z])) e) (λb o _ _ hc e _=>⟨o.slots,k b o (λz=>hc (by simp[z])) e⟩) (λ_ _ _ _ n=>n)
  (λb o hc e=>⟨o,k b o (λz=>hc (by simp[z])) e⟩) (λ_ _ e=>e) (λ_ _ _ e=>e) (λb ps e=>⟨#[],by rw[e];simp⟩) (λm hm=>?_) (λb u e=>?_) I.bare
 ·have e:b=it:=by simpa using hb
  subst e;exact⟨h1,hL,h2,h3⟩
 ·obtain⟨o,es,ep,ho,r⟩:=hm
  exact⟨o,es,ep,k _ o (Ne.symm hL) ho,r⟩
 ·refine(I.hok b u e).stay (λc v hc q=>k c v ?_ q) (λ_ q=>q) λ_ _ q=>q
  rcases hc with z|z
  ·rw[z];exact nit b u e
  ·exact nit c _ z
theorem Inv.tok(I:Inv X aa σ H s)(t:Nat):Inv X aa σ H {s with toks:=t}:=I.un (h':=s.heap) (t':=t) Un.refl I.hok
theorem Inv.kept {t':Nat}(I:Inv X aa σ H s)(k: ∀b u,s.heap.get? b=some u->h'.get? b=some u):Inv X aa σ H {s with heap:=h',toks:=t'}:=I.un (Un.kept k) (I.hok.kept k)
theorem Inv.laid {a:Addr}{o:HO}{t':Nat}(I:Inv X aa σ H s)(k: ∀b u,s.heap.get? b=some u->h'.get? b=some u)(hp:s.heap.objs.size<=a)(new:ObjOk X.prog X.w (aV H a o) h' a o):
 Inv X aa σ (aV H a o) {s with heap:=h',toks:=t'}:=I.un (Un.laid k hp (I.hok.fresh hp)) (I.hok.laid k hp new)
theorem Inv.write {x e:Addr}{o:HO}{t':Nat}(I:Inv X aa σ H s)(mu:ET (H x))(he:e=x\/H e=some (.own x))(k: ∀b u,b≠e->s.heap.get? b=some u->h'.get? b=some u)(heo: ∃u,h'.get? e=some u)
 (new:ObjOk X.prog X.w (aV H x o) h' x o):Inv X aa σ (aV H x o) {s with heap:=h',toks:=t'}:=I.un (Un.write mu he k heo) (I.hok.write mu he k heo new)
theorem Inv.pins_of {pins':List (Addr×Obj)}(I:Inv X aa σ H s)(h: ∀p∈pins',s.heap.get? p.1=some p.2/\H p.1=none/\p.1≠X.env.locals/\p.1∉X.fs/\ ∀v,p.2.data≠ .cell v):Inv X pins' σ H s:=
 ⟨I.ok,I.os,I.bare,I.base,I.loc,I.cell,I.free,I.freeC,λp hp=>(List.mem_append.mp hp).elim (λz=>I.pin p (List.mem_append_left _ z)) (h p),I.hok,I.len⟩
theorem qv {N:List Str}(hN:N.Nodup){i j:Nat}{x:Str}(a:N[i]? =some x)(b:N[j]? =some x):i=j:=by
 obtain⟨h1,e1⟩:=List.getElem?_eq_some_iff.mp a
 obtain⟨h2,e2⟩:=List.getElem?_eq_some_iff.mp b
 exact(List.getElem_inj hN).mp (e1.trans e2.symm)
theorem jR {M:Model}{A:Around}{E:Value->Shared->Prop}{i:Nat}{x:Str}{v:V}{u:Value}{Q:Unit->Shared->Prop}(I:Inv X aa σ H s)(hN:X.N.Nodup)(hi:X.N[i]? =some x)(hx:yt X.env.scope x)(r:RelV v u)
 (h: ∀s',Inv X aa (σ.set i (some v)) H s'->(∃a,Heap.SameBut a s.heap s'.heap/\(a=X.env.locals\/X.env.cells.lookup x=some a))->Q () s') (hf:X.fn x=true\/X.env.scope.names.lookup x=some .local:=by first|exact .inl rfl|exact .inr rfl|assumption):wpAny M A (storeName X.env x u) Q E s:=by
 obtain⟨m,hn,hl⟩:=id I.loc
 have hcls:(X.env.scope.kind== .class||(X.env.scope.kind== .module&&X.env.locals !=X.env.globals))=false:=by rw[I.ok.kind];rfl
 have hiσ:i<σ.length:=by rw[I.len];exact(List.getElem?_eq_some_iff.mp hi).1
 have cne:=I.cne
 have tracked: ∀ {a:Addr} {h':Heap},(∃o,s.heap.get? a=some o/\H a=none)->Heap.SameBut a s.heap h'->HOk X.prog X.w H h':=λ{a h'} ha hs b ob e=>by
  obtain⟨_,_,hfree⟩:=ha
  refine(I.hok b ob e).stay (λc w' hc q=>(hs.2 c ?_).trans q) (λ_ q=>q) λ_ _ q=>q
  rintro rfl
  rcases hc with rfl|hc
  ·rw[hfree] at e;cases e
  ·rw[hfree] at hc;cases hc
 rcases hx with hk|hk
 ·refine wpAny_storeName_local hk hn (λh' hn' hs=>?_) hcls
  obtain⟨oL,_,_,hoL,_⟩:=id hn
  refine h _ ⟨I.ok,I.os,I.bare,⟨λb o e n hb hx=>?_,λb o e n hb hx=>?_,I.base.free,λb o e hx=>?_,I.base.tups,I.base.frzs,I.base.tbls⟩,⟨_,hn',λj y v' e1 e2 e3=>?_⟩,λy c e=>?_,I.free,I.freeC,λp hp=>?_,tracked ⟨oL,hoL,I.free⟩ hs,by simpa using I.len⟩ ⟨_,hs,.inl rfl⟩
  ·exact(hs.2 b (Nat.ne_of_lt (Nat.lt_of_lt_of_le (Heap.lt_size e) I.ok.above))).trans (I.base.keep b o e n hb hx)
  ·obtain⟨sl,e1⟩:=I.base.slot b o e n hb hx
   exact⟨sl,(hs.2 b (Nat.ne_of_lt (Nat.lt_of_lt_of_le (Heap.lt_size e) I.ok.above))).trans e1⟩
  ·obtain⟨o',e1⟩:=I.base.there b o e hx
   exact⟨o',(hs.2 b (Nat.ne_of_lt (Nat.lt_of_lt_of_le (Heap.lt_size e) I.ok.above))).trans e1⟩
  ·by_cases hj:j=i
   ·subst hj
    rw[hi] at e1;cases e1;rw[List.getElem?_set_self hiσ] at e2;cases e2
    exact⟨u,r,.inl ⟨hk,by simp⟩⟩
   ·rw[List.getElem?_set_ne (Ne.symm hj)] at e2
    obtain⟨u',r',q⟩:=hl j y v' e1 e2 e3
    refine⟨u',r',?_⟩
    rcases q with⟨k,e⟩|⟨k,c,e,z⟩
    ·refine .inl ⟨k,?_⟩
     have:y≠x:=λe=>hj (qv hN e1 (e▸hi))
     simp[this,e]
    ·exact .inr ⟨k,c,e,z.sameBut hs (cne y c e)⟩
  ·obtain⟨w',z⟩:=I.cell y c e
   exact⟨w',z.sameBut hs (cne y c e)⟩
  ·obtain⟨e,n,ne,nf,d⟩:=I.pin p hp
   exact⟨(hs.2 p.1 ne).trans e,n,ne,nf,d⟩
 ·have hfn:X.fn x=true:=by
   rcases hf with z|z
   ·exact z
   ·rw[z] at hk;cases hk
  obtain⟨c,hc⟩:=I.ok.has x (.inl hk)
  obtain⟨w',z⟩:=I.cell x c hc
  refine wpAny_storeName_cell I.ok.kind hk hc z (λh' hc' hs=>?_)
  obtain⟨oc,hoc,hocd⟩:=id z
  refine h {s with heap:=h'} ⟨I.ok,I.os,I.bare,⟨λb o e n hb hx=>?_,λb o e n hb hx=>?_,I.base.free,λb o e hx=>?_,I.base.tups,I.base.frzs,I.base.tbls⟩,⟨m,hn.sameBut hs (Ne.symm (cne x c hc)),λj y v' e1 e2 e3=>?_⟩,λy c' e=>?_,I.free,I.freeC,λp hp=>?_,tracked ⟨oc,hoc,I.freeC x c hc⟩ hs,by simpa using I.len⟩ ⟨c,hs,.inr hc⟩
  ·exact(hs.2 b (Nat.ne_of_lt (Nat.lt_of_lt_of_le (Heap.lt_size e) (I.ok.cab x c hfn hc)))).trans (I.base.keep b o e n hb hx)
  ·obtain⟨sl,e1⟩:=I.base.slot b o e n hb hx
   exact⟨sl,(hs.2 b (Nat.ne_of_lt (Nat.lt_of_lt_of_le (Heap.lt_size e) (I.ok.cab x c hfn hc)))).trans e1⟩
  ·obtain⟨o',e1⟩:=I.base.there b o e hx
   exact⟨o',(hs.2 b (Nat.ne_of_lt (Nat.lt_of_lt_of_le (Heap.lt_size e) (I.ok.cab x c hfn hc)))).trans e1⟩
  ·by_cases hj:j=i
   ·subst hj
    rw[hi] at e1;cases e1;rw[List.getElem?_set_self hiσ] at e2;cases e2
    exact⟨u,r,.inr ⟨.inl hk,c,hc,hc'⟩⟩
   ·rw[List.getElem?_set_ne (Ne.symm hj)] at e2
    obtain⟨u',r',q⟩:=hl j y v' e1 e2 e3
    refine⟨u',r',?_⟩
    rcases q with q|⟨k,c',e,z'⟩
    ·exact .inl q
    ·refine .inr ⟨k,c',e,z'.sameBut hs ?_⟩
     rintro rfl
     exact hj (qv hN e1 (I.ok.inj _ _ _ e hc▸hi))
  ·by_cases hcc:c'=c
   ·subst hcc;exact⟨_,hc'⟩
   ·obtain⟨w2,z2⟩:=I.cell y c' e
    exact⟨w2,z2.sameBut hs hcc⟩
  ·obtain⟨e,n,ne,nf,d⟩:=I.pin p hp
   refine⟨(hs.2 p.1 ?_).trans e,n,ne,nf,d⟩
   intro q;rw[q,hoc] at e;have q':oc=p.2:=Option.some.inj e
   exact d w' (by rw[<-q'];exact hocd)
theorem i0 {M:Model}{A:Around}{E:Value->Shared->Prop}{i:Nat}{x:Str}{v:V}{u:Value}{Q:Unit->Shared->Prop}(I:Inv X aa σ H s)(hN:X.N.Nodup)(hi:X.N[i]? =some x)(hx:yt X.env.scope x)(r:RelV v u)
 (h: ∀s',Inv X aa (σ.set i (some v)) H s'->Q () s') (hf:X.fn x=true\/X.env.scope.names.lookup x=some .local:=by first|exact .inl rfl|exact .inr rfl|assumption):wpAny M A (storeName X.env x u) Q E s:=
 jR I hN hi hx r (λs' I' _=>h s' I') hf
theorem Inv.call' {s':Shared}{ch:List Addr}(I:Inv X aa σ H s)(ho:s'.os=s.os)(u:Un (frs X.stack) ch H H' s.heap s'.heap)(hok:HOk X.prog X.w H' s'.heap)(hg:AllBare s'.gens)
 (hch: ∀b∈ch,(b∈X.ex\/X.s₀.heap.objs.size<=b)/\b≠X.env.locals/\(∀x c,X.env.cells.lookup x=some c->c≠b)/\ ∀p∈X.pn++aa,p.1≠b):Inv X aa σ H' s':=by
 obtain⟨h',g',d',t',o'⟩:=s'
 have e:o'=s.os:=ho
 subst e;exact I.call (g':=g') (t':=t') (d':=d') u hok hg hch
end
abbrev XK:=Value->Option Addr->Hp->Prop
abbrev St:=List (Option V)
abbrev VK:=V->Hp->Prop
abbrev TE:=St->Hp->VK->Prop
abbrev TT:=St->Hp->(Bool->Hp->Prop)->Prop
abbrev TA:=St->Hp->(List V->Hp->Prop)->Prop
structure Ends where
 nx:St->Hp->Prop
 rt:VK
 bk:St->Hp->Prop:=λ_ _=>False
 ct:St->Hp->Prop:=λ_ _=>False
abbrev TS:=Ends->St->Hp->Prop
def EP(X:Cx)(aa:List (Addr×Obj))(σ:St)(Q:VK)(u:Value)(s':Shared):Prop:= ∃v H',Inv X aa σ H' s'/\RelV v u/\Q v H'
def TP(X:Cx)(aa:List (Addr×Obj))(σ:St)(Q:Bool->Hp->Prop)(b:Bool)(s':Shared):Prop:= ∃H',Inv X aa σ H' s'/\Q b H'
def AP(X:Cx)(aa:List (Addr×Obj))(σ:St)(Q:List V->Hp->Prop)(us:List Value)(s':Shared):Prop:= ∃vs H',Inv X aa σ H' s'/\Vals vs us/\Q vs H'
def SP(X:Cx)(aa:List (Addr×Obj))(D:Ends)(f:Flow)(s':Shared):Prop:=
 match f with
 | .next=> ∃σ' H',Inv X aa σ' H' s'/\D.nx σ' H'
 | .brk=> ∃σ' H',Inv X aa σ' H' s'/\D.bk σ' H'
 | .cont=> ∃σ' H',Inv X aa σ' H' s'/\D.ct σ' H'
 | .ret u=> ∃v σ' H',Inv X aa σ' H' s'/\RelV v u/\D.rt v H'
def PE(X:Cx)(e:Expr)(t:TE):Prop:=
 ∀(aa:List (Addr×Obj)) (s:Shared) (σ:St) (H:Hp) (Q:VK),Inv X aa σ H s->t σ H Q->wpAny (model X.prog X.w) X.A (eval e X.env) (EP X aa σ Q) X.xe s
def PT(X:Cx)(e:Expr)(t:TT):Prop:=
 ∀(aa:List (Addr×Obj)) (s:Shared) (σ:St) (H:Hp) (Q:Bool->Hp->Prop),Inv X aa σ H s->t σ H Q->wpAny (model X.prog X.w) X.A (isTrue e X.env (eval e X.env)) (TP X aa σ Q) X.xe s
def PW(X:Cx)(e:Expr)(t:TT):Prop:=
 ∀(whole:Sem Value) (aa:List (Addr×Obj)) (s:Shared) (σ:St) (H:Hp) (Q:Bool->Hp->Prop),Inv X aa σ H s->t σ H Q->wpAny (model X.prog X.w) X.A (isTrue e X.env whole) (TP X aa σ Q) X.xe s
theorem PW.pt {X:Cx}{e:Expr}{t:TT}(h:PW X e t):PT X e t:=h _
def PA(X:Cx)(es:List Expr)(t:TA):Prop:=
 ∀(pos:Pos) (aa:List (Addr×Obj)) (s:Shared) (σ:St) (H:Hp) (Q:List V->Hp->Prop),Inv X aa σ H s->t σ H Q->wpAny (model X.prog X.w) X.A (spliced (backTo pos (starEach es X.env))) (AP X aa σ Q) X.xe s
def PS(X:Cx)(st:Stmt)(t:TS):Prop:=
 ∀(aa:List (Addr×Obj)) (s:Shared) (σ:St) (H:Hp) (D:Ends),Inv X aa σ H s->t D σ H->wpAny (model X.prog X.w) X.A (exec st X.env) (SP X aa D) X.xe s
def PSs(X:Cx)(st:List Stmt)(t:TS):Prop:=
 ∀(aa:List (Addr×Obj)) (s:Shared) (σ:St) (H:Hp) (D:Ends),Inv X aa σ H s->t D σ H->wpAny (model X.prog X.w) X.A (execs st X.env) (SP X aa D) X.xe s
theorem aZ {α:Type}{t:Sem α}{Q Q':α->Shared->Prop}{M:Model}{A:Around}{E:Value->Shared->Prop}{s:Shared}(h:wpAny M A t Q E s)(hQ: ∀a s,Q a s->Q' a s):wpAny M A t Q' E s:=wpAny_mono h hQ λ_ _ x=>x
section
variable {X:Cx}
def EI(i:Nat):TE:=λσ H Q=> ∃v,σ[i]? =some (some v)/\Q v H
def tC(v:V):TE:=λ_ H Q=>Q v H
theorem C5 {i:Nat}{x:Str}{pos:Pos}(hN:X.N[i]? =some x)(hv:lR X.env.scope x)(hd:(x==("__debug__":Str))=false:=by decide)(hcd:(x==("__classdict__":Str))=false:=by decide):PE X (.Name x pos) (EI i):=by
 intro aa s σ H Q I h;obtain⟨v,e,h⟩:=h
 obtain⟨m,hn,hl⟩:=I.loc
 obtain⟨u,r,l⟩:=hl i x v hN e hv
 have fin:EP X aa σ Q u s:=⟨v,H,I,r,h⟩
 rcases l with⟨hk,hm⟩|⟨hk,c,hc,hcell⟩
 ·exact wpAny_Name (wpAny_loadName_local I.ok.kind hk hn hm fin) hd
 ·rcases hk with hk|hk
  ·exact wpAny_Name (wpAny_loadName_cell I.ok.kind hk hc hcell fin) hd
  ·exact wpAny_Name (wpAny_loadName_free I.ok.kind hk hc hcell fin hcd) hd
theorem CY {i j pos}:PE X (.Constant (.int i) j pos) (tC (.int i)):=λ_ _ _ H _ I h=>wpAny_Constant_int ⟨.int i,H,I.tok _,⟨_,rfl⟩,h⟩
theorem Bo {b j pos}:PE X (.Constant (.bool b) j pos) (tC (.bl b)):=λ_ _ _ H _ I h=>Constant_bool ⟨.bl b,H,I,rfl,h⟩
theorem rS {x j pos}:PE X (.Constant (.str x) j pos) (tC (.str x)):=λ_ _ _ H _ I h=>Calls.Constant_str ⟨.str x,H,I.tok _,⟨_,rfl⟩,h⟩
def Gl(X:Cx)(x:Str):Prop:=X.env.kindOf x=some .globalImplicit
theorem Bd {E:Value->Shared->Prop}{aa:List (Addr×Obj)}{s:Shared}{σ:St}{H:Hp}{x:Str}{u:Value}{pos:Pos}{Q:Value->Shared->Prop}(I:Inv X aa σ H s)(hg:Gl X x)(hm:X.mg x=some u)(h:Q u s)
 (hd:(x==("__debug__":Str))=false:=by decide):wpAny (model X.prog X.w) X.A (eval (.Name x pos) X.env) Q E s:=
 Calls.Name_function_global I.ok.kind hg (Calls.loadGlobal_global (by rw[I.ok.glob];exact I.mod.glob.keeps I.bk) hm h) hd
theorem iD {E:Value->Shared->Prop}{aa:List (Addr×Obj)}{s:Shared}{σ:St}{H:Hp}{x:Str}{u:Value}{pos:Pos}{Q:Value->Shared->Prop}(I:Inv X aa σ H s)(hg:Gl X x)(hm:X.mg x=none)(hv:bootBuiltins x=some u)(h:Q u s)
 (hn:x≠"__name__":=by decide) (hd:(x==("__debug__":Str))=false:=by decide):wpAny (model X.prog X.w) X.A (eval (.Name x pos) X.env) Q E s:=by
 obtain⟨mb,h1,h2⟩:=I.mod.blt
 exact Calls.Name_function_global I.ok.kind hg (Calls.loadGlobal_builtin (by rw[I.ok.glob];exact I.mod.glob.keeps I.bk) hm (by rw[I.ok.blt];exact h1.keeps I.bk) ((h2 x hn).trans hv) h) hd
theorem Ba {x:Str}{v:V}{u:Value}{pos:Pos}(hg:Gl X x)(hm:X.mg x=none)(hv:bootBuiltins x=some u)(r:RelV v u)(hn:x≠"__name__":=by decide)(hd:(x==("__debug__":Str))=false:=by decide):PE X (.Name x pos) (tC v):=
 λ_ _ _ H _ I h=>iD I hg hm hv ⟨v,H,I,r,h⟩ hn hd
variable {a b:Expr}{ta tb:TE}{pos:Pos}
def PC(X:Cx)(op:CmpOp)(a b:Expr)(t:TE):Prop:=
 ∀(aa:List (Addr×Obj)) (s:Shared) (σ:St) (H:Hp) (Q:VK),Inv X aa σ H s->t σ H Q->
  wpAny (model X.prog X.w) X.A (eval a X.env) (λv s₁=>wpAny (model X.prog X.w) X.A (eval b X.env) (λu s₂=>wpAny (model X.prog X.w) X.A (compareOp op v u) (EP X aa σ Q) X.xe s₂) X.xe s₁) X.xe s
def tB(t:TE):TT:=λσ H Q=>t σ H λx H1=> ∃c,x=.bl c/\Q c H1
theorem tm {op:CmpOp}{t:TE}(h:PC X op a b t)(h1:behindInMarks op b=false:=by first|exact nobehind _ (by decide) (by decide)|rfl):PT X (.Compare a [op] [b] pos) (tB t):=by
 intro aa s σ H Q I hw;refine wpAny_isTrue_Compare1 (aZ (h aa s σ H _ I hw) λv s1 h1=>aZ h1 λu s2 h2=>aZ h2 λc s3 ⟨x,H1,I1,r1,q1⟩=>?_) h1
 obtain⟨d,rfl,q⟩:=q1
 cases r1
 exact wpAny_truthy_bool ⟨H1,I1,q⟩
variable {tA tB':TT}{rest:List Expr}
def Fo(t u:TT):TT:=λσ H Q=>t σ H λc H1=>if c=true then u σ H1 Q else Q false H1
def GN(t u:TT):TT:=λσ H Q=>t σ H λc H1=>if c=true then Q true H1 else u σ H1 Q
def F5(t:TT):TT:=λσ H Q=>t σ H λc H1=>Q (!c) H1
theorem pw_and1(ha:PT X a tA):PW X (.BoolOp .And [a] pos) tA:=by
 intro wh aa s σ H Q I h;refine isTrue_and (aZ (ha aa s σ H Q I h) λc s1 e=>?_)
 cases c with
 |true=>exact isTrue_and_nil e
 |false=>exact e
theorem pw_or1(ha:PT X a tA):PW X (.BoolOp .Or [a] pos) tA:=by
 intro wh aa s σ H Q I h;refine isTrue_or (aZ (ha aa s σ H Q I h) λc s1 e=>?_)
 cases c with
 |false=>exact isTrue_or_nil e
 |true=>exact e
theorem pw_and(ha:PT X a tA)(hb:PW X (.BoolOp .And (b::rest) pos) tB'):PW X (.BoolOp .And (a::b::rest) pos) (Fo tA tB'):=by
 intro wh aa s σ H Q I h;refine isTrue_and (aZ (ha aa s σ H _ I h) λc s1 hq_=>?_)
 obtain⟨H1,I1,q1⟩:=hq_
 cases c with
 |true=>exact hb wh aa s1 σ H1 Q I1 q1
 |false=>exact⟨H1,I1,q1⟩
theorem pw_or(ha:PT X a tA)(hb:PW X (.BoolOp .Or (b::rest) pos) tB'):PW X (.BoolOp .Or (a::b::rest) pos) (GN tA tB'):=by
 intro wh aa s σ H Q I h;refine isTrue_or (aZ (ha aa s σ H _ I h) λc s1 hq_=>?_)
 obtain⟨H1,I1,q1⟩:=hq_
 cases c with
 |true=>exact⟨H1,I1,q1⟩
 |false=>exact hb wh aa s1 σ H1 Q I1 q1
theorem Cq(ha:PT X a tA):PT X (.UnaryOp .Not a pos) (F5 tA):=by
 intro aa s σ H Q I h;exact isTrue_not (ha aa s σ H (λc H1=>Q (!c) H1) I h)
def Ej(ta tb:TE):TE:=λσ H Q=>ta σ H λx H1=> ∃c,x=.bl c/\if c=true then tb σ H1 Q else Q (.bl false) H1
def DL(ta:TE):TE:=λσ H Q=>ta σ H λx H1=> ∃c,x=.bl c/\Q (.bl (!c)) H1
theorem CO {op}{t:TE}(h:PE X a t):PE X (.BoolOp op [a] pos) t:=λaa s σ H Q I hw=>BoolOp_one (h aa s σ H Q I hw)
theorem BM(ha:PE X a ta)(hb:PE X (.BoolOp .And (b::rest) pos) tb):PE X (.BoolOp .And (a::b::rest) pos) (Ej ta tb):=by
 intro aa s σ H Q I h;refine BoolOp_and (aZ (ha aa s σ H _ I h) λv s1 hq_=>?_)
 obtain⟨x,H1,I1,r1,q1⟩:=hq_
 obtain⟨c,rfl,q1⟩:=q1
 cases r1
 refine wpAny_truthy_bool ?_
 cases c with
 |true=>exact hb aa s1 σ H1 Q I1 q1
 |false=>exact⟨.bl false,H1,I1,rfl,q1⟩
theorem CC(ha:PE X a ta):PE X (.UnaryOp .Not a pos) (DL ta):=by
 intro aa s σ H Q I h;refine UnaryOp_ (aZ (ha aa s σ H _ I h) λv s1 hq_=>?_)
 obtain⟨x,H1,I1,r1,q1⟩:=hq_
 obtain⟨c,rfl,q1⟩:=q1
 cases r1
 exact not_of (wpAny_truthy_bool ⟨.bl (!c),H1,I1,rfl,q1⟩)
def GX(t:TT)(ta tb:TE):TE:=λσ H Q=>t σ H λc H1=>if c=true then ta σ H1 Q else tb σ H1 Q
theorem y8 {c:Expr}(hc:PT X c tA)(ha:PE X a ta)(hb:PE X b tb):PE X (.IfExp c a b pos) (GX tA ta tb):=by
 intro aa s σ H Q I h;refine wpAny_IfExp (aZ (hc aa s σ H _ I h) λd s1 hq_=>?_)
 obtain⟨H1,I1,q1⟩:=hq_
 cases d with
 |true=>exact ha aa s1 σ H1 Q I1 q1
 |false=>exact hb aa s1 σ H1 Q I1 q1
end
def SqL(K:W.Frag)(H:Hp)(a:Addr)(xs:List V):Prop:=
 Rd H a (.lst xs)\/
  ∃(o:Obj) (its:Array Value) (n:Nat),K.lookup a=some o/\o.cls=.type "list"/\o.dict=none/\o.data=.seq its n/\its.size<=sizeLine/\Vals xs its.toList
def SqT(K:W.Frag)(H:Hp)(a:Addr)(xs:List V):Prop:=
 Rd H a (.tup xs)\/
  ∃(o:Obj) (its:Array Value) (n:Nat),K.lookup a=some o/\o.cls=.type "tuple"/\o.data=.seq its n/\its.size<=sizeLine/\Vals xs its.toList/\o.dict=none
def Gr:Value->Option V
 | .none=>some .non
 | .bool b=>some (.bl b)
 | .int i _=>some (.int i)
 | .str x _=>some (.str x)
 | .bytes b _=>some (.byt b)
 | .float b _=>some (.flt b)
 | .ref a=>some (.ref a)
 | .type n=>some (.ty n)
 |_=>none
theorem RelV.abs {x:V}{u:Value}(r:RelV x u):Gr u=some x:=by
 cases x with
 |non=>cases r;rfl
 |bl _=>cases r;rfl
 |int _=>obtain⟨t,rfl⟩:=r;rfl
 |str _=>obtain⟨t,rfl⟩:=r;rfl
 |byt _=>obtain⟨t,rfl⟩:=r;rfl
 |flt _=>obtain⟨t,rfl⟩:=r;rfl
 |ref _=>cases r;rfl
 |ty _=>cases r;rfl
theorem RelV.inj {x y:V}{u:Value}(r:RelV x u)(q:RelV y u):x=y:=Option.some.inj (r.abs.symm.trans q.abs)
theorem Vals.inj: ∀ {xs ys:List V} {us:List Value},Vals xs us->Vals ys us->xs=ys
 |_,_,_,.nil,.nil=>rfl
 |_,_,_,.cons r t,.cons r' t'=>by rw[r.inj r',Vals.inj t t']
section
variable {X:Cx}{aa:List (Addr×Obj)}{σ:St}{H:Hp}{s:Shared}{a:Addr}{xs ys:List V}
theorem SqL.of {K:W.Frag}(h:H a=some (.lst xs)):SqL K H a xs:=.inl (.inl h)
theorem SqT.of {K:W.Frag}(h:H a=some (.tup xs)):SqT K H a xs:=.inl (.inl h)
theorem Inv.list(I:Inv X aa σ H s)(h:SqL X.K H a xs): ∃its:List Value,Vals xs its/\PlainL s.heap a its.toArray/\xs.length<=sizeLine:=by
 rcases h with h|⟨o,its,n,hk,hc,hd,hs,hz,r⟩
 ·obtain⟨z,its,n,r,e⟩:=h.ok I.hok
  exact⟨its,r,⟨_,n,e,rfl,rfl,rfl⟩,z⟩
 ·refine⟨its.toList,r,⟨o,n,I.kIn a o hk,hc,hd,by simpa using hs⟩,?_⟩
  have e:=r.length
  simp only[Array.length_toList] at e;omega
theorem Inv.tuple(I:Inv X aa σ H s)(h:SqT X.K H a xs): ∃its:List Value,Vals xs its/\IsTup s.heap a its.toArray/\xs.length<=sizeLine:=by
 rcases h with h|⟨o,its,n,hk,hc,hs,hz,r,_⟩
 ·obtain⟨z,its,r,p,_⟩:=h.ok I.hok
  exact⟨its,r,p,z⟩
 ·refine⟨its.toList,r,⟨o,I.kIn a o hk,hc,n,by simpa using hs⟩,?_⟩
  have e:=r.length
  simp only[Array.length_toList] at e;omega
theorem Inv.tupleN(I:Inv X aa σ H s)(h:SqT X.K H a xs):(∃o,s.heap.get? a=some o/\o.cls=.type "tuple")/\ ∃o,s.heap.get? a=some o/\o.dict=none:=by
 rcases h with h|⟨o,its,n,hk,hc,hs,hz,r,hd⟩
 ·obtain⟨z,its,r,⟨ob,e,c,_⟩,o2,e2,d2⟩:=h.ok I.hok
  exact⟨⟨ob,e,c⟩,o2,e2,d2⟩
 ·exact⟨⟨o,I.kIn a o hk,hc⟩,o,I.kIn a o hk,hd⟩
theorem Inv.list_inj(I:Inv X aa σ H s)(h:SqL X.K H a xs)(h':SqL X.K H a ys):xs=ys:=by
 obtain⟨its,r,⟨o,n,e,_,_,d⟩,_⟩:=I.list h
 obtain⟨its',r',⟨o',n',e',_,_,d'⟩,_⟩:=I.list h'
 rw[e] at e';cases e';rw[d] at d';injection d' with d1 _
 have:its=its':=by simpa using congrArg Array.toList d1
 subst this;exact r.inj r'
theorem Inv.tuple_inj(I:Inv X aa σ H s)(h:SqT X.K H a xs)(h':SqT X.K H a ys):xs=ys:=by
 obtain⟨its,r,⟨o,e,_,n,d⟩,_⟩:=I.tuple h
 obtain⟨its',r',⟨o',e',_,n',d'⟩,_⟩:=I.tuple h'
 rw[e] at e';cases e';rw[d] at d';injection d' with d1 _
 have:its=its':=by simpa using congrArg Array.toList d1
 subst this;exact r.inj r'
end
abbrev Cx.wish(X:Cx)(E:Value->Shared->Prop):Cx:={X with xe:=E}
abbrev Cx.nox(X:Cx):Cx:=X.wish λ_ _=>False
theorem Cx.Ok.wish {X:Cx}(ok:X.Ok)(E:Value->Shared->Prop):(X.wish E).Ok:=
 ⟨ok.mod,ok.kind,ok.glob,ok.blt,ok.above,ok.inj,ok.has,ok.cab,ok.hd,ok.frames,ok.stk,ok.exf,ok.bs,ok.bsz,ok.noex,ok.exfs,ok.funs,ok.frf⟩
theorem Cx.Ok.unwish {X:Cx}{E:Value->Shared->Prop}(ok:(X.wish E).Ok):X.Ok:=
 ⟨ok.mod,ok.kind,ok.glob,ok.blt,ok.above,ok.inj,ok.has,ok.cab,ok.hd,ok.frames,ok.stk,ok.exf,ok.bs,ok.bsz,ok.noex,ok.exfs,ok.funs,ok.frf⟩
section
variable {X:Cx}{aa:List (Addr×Obj)}{σ:St}{H:Hp}{s:Shared}{E:Value->Shared->Prop}
theorem Inv.wish(I:Inv X aa σ H s)(E:Value->Shared->Prop):Inv (X.wish E) aa σ H s:=⟨I.ok.wish E,I.os,I.bare,I.base,I.loc,I.cell,I.free,I.freeC,I.pin,I.hok,I.len⟩
theorem Inv.unwish(I:Inv (X.wish E) aa σ H s):Inv X aa σ H s:=⟨I.ok.unwish,I.os,I.bare,I.base,I.loc,I.cell,I.free,I.freeC,I.pin,I.hok,I.len⟩
theorem SP.unwish {D:Ends}{f:Flow}{s':Shared}(h:SP (X.wish E) aa D f s'):SP X aa D f s':=by
 cases f with
 |next=>obtain⟨σ',H',I,q⟩:=h;exact⟨σ',H',I.unwish,q⟩
 |brk=>obtain⟨σ',H',I,q⟩:=h;exact⟨σ',H',I.unwish,q⟩
 |cont=>obtain⟨σ',H',I,q⟩:=h;exact⟨σ',H',I.unwish,q⟩
 |ret u=>obtain⟨v,σ',H',I,r,q⟩:=h;exact⟨v,σ',H',I.unwish,r,q⟩
theorem PSs.nox {st:List Stmt}{t:TS}(h:PSs X.nox st t):PSs X st t:=λaa s σ H D I hw=>
 wpAny_mono (h aa s σ H D (I.wish _) hw) (λ_ _ q=>q.unwish) λ_ _ z=>False.elim z
end
section
variable {X:Cx}{st:Stmt}{rest:List Stmt}{t u:TS}{e:Expr}{te:TE}{pos:Pos}
def ER:TS:=λD σ H=>D.nx σ H
def FN(t u:TS):TS:=λD σ H=>t {D with nx:=u D} σ H
theorem z9:PSs X [] ER:=λ_ _ σ H _ I h=>wpAny_execs_nil ⟨σ,H,I,h⟩
theorem xg(h1:PS X st t)(h2:PSs X rest u):PSs X (st::rest) (FN t u):=by
 intro aa s σ H D I h;refine wpAny_execs_cons (aZ (h1 aa s σ H {D with nx:=u D} I h) λf s1 q=>?_)
 cases f with
 |next=>
  obtain⟨σ',H',I',q⟩:=q
  exact h2 aa s1 σ' H' D I' q
 |ret v=>exact q
 |brk=>exact q
 |cont=>exact q
theorem z0(h1:PS X st t):PSs X [st] t:=by
 intro aa s σ H D I h;refine wpAny_execs_cons (aZ (h1 aa s σ H D I h) λf s1 q=>?_)
 cases f with
 |next=>exact wpAny_execs_nil q
 |ret v=>exact q
 |brk=>exact q
 |cont=>exact q
theorem Inv.quiet {aa:List (Addr×Obj)}{σ:St}{H:Hp}{s:Shared}(I:Inv X aa σ H s):interactive X.env=false:=by simp[interactive,I.ok.kind]
def DX(te:TE):TS:=λD σ H=>te σ H λ_ H1=>D.nx σ H1
theorem zH(he:PE X e te)(hs:swapsWith e none pos.line X.env=pure false:=by rfl):PS X (.Expr e pos) (DX te):=by
 intro aa s σ H D I h;exact wpAny_Expr_any (aZ (he aa s σ H _ I h) λv s1 ⟨x,H1,I1,r1,q1⟩=>⟨σ,H1,I1,q1⟩) I.quiet hs
def Fp(te:TE):TS:=λD σ H=>te σ H D.rt
theorem yg(he:PE X e te):PS X (.Return (some e) pos) (Fp te):=by
 intro aa s σ H D I h;exact wpAny_Return_some (aZ (he aa s σ H _ I h) λv s1 ⟨x,H1,I1,r1,q1⟩=>⟨x,σ,H1,I1,r1,q1⟩)
def Gb(c:TT)(t u:TS):TS:=λD σ H=>c σ H λb H1=>if b=true then t D σ H1 else u D σ H1
theorem EN {c:Expr}{a b:List Stmt}{tc:TT}(hc:PT X c tc)(ha:PSs X a t)(hb:PSs X b u):PS X (.If c a b pos) (Gb tc t u):=by
 intro aa s σ H D I h;refine wpAny_If (aZ (hc aa s σ H _ I h) λd s1 hq_=>?_)
 obtain⟨H1,I1,q1⟩:=hq_
 cases d with
 |true=>exact ha aa s1 σ H1 D I1 q1
 |false=>exact hb aa s1 σ H1 D I1 q1
end
abbrev TG:=V->St->Hp->(St->Hp->Prop)->Prop
abbrev xS:=List V->St->Hp->(St->Hp->Prop)->Prop
def PG(X:Cx)(target:Expr)(t:TG):Prop:=
 ∀(aa:List (Addr×Obj)) (s:Shared) (σ:St) (H:Hp) (v:V) (u:Value) (Q:St->Hp->Prop),Inv X aa σ H s->RelV v u->t v σ H Q->
  wpAny (model X.prog X.w) X.A (assign target X.env u) (λ_ s'=> ∃σ' H',Inv X aa σ' H' s'/\Q σ' H') X.xe s
def PGs(X:Cx)(ts:List Expr)(t:xS):Prop:=
 ∀(aa:List (Addr×Obj)) (s:Shared) (σ:St) (H:Hp) (vs:List V) (us:List Value) (Q:St->Hp->Prop),Inv X aa σ H s->Vals vs us->t vs σ H Q->
  wpAny (model X.prog X.w) X.A (assignInOrder ((assignEach ts X.env).map (·.2)) us) (λ_ s'=> ∃σ' H',Inv X aa σ' H' s'/\Q σ' H') X.xe s
abbrev Cd:=V->V->V->Hp->(Hp->Prop)->Prop
def Ef(X:Cx)(t:Cd):Prop:=
 ∀(aa:List (Addr×Obj)) (s:Shared) (σ:St) (H:Hp) (o i v:V) (ov iv u:Value) (Q:Hp->Prop),Inv X aa σ H s->RelV o ov->RelV i iv->RelV v u->t o i v H Q->
  wpAny (model X.prog X.w) X.A (setItem ov iv u) (λ_ s'=> ∃H',Inv X aa σ H' s'/\Q H') X.xe s
section
variable {X:Cx}{pos:Pos}
def uj(i:Nat):TG:=λv σ H Q=>Q (σ.set i (some v)) H
theorem Bf {i:Nat}{x:Str}(hN:X.N.Nodup)(hi:X.N[i]? =some x)(hx:yt X.env.scope x)(hf:X.fn x=true\/X.env.scope.names.lookup x=some .local:=by first|exact .inl rfl|exact .inr rfl|assumption):PG X (.Name x pos) (uj i):=by
 intro aa s σ H v u Q I r h;exact wpAny_assign_Name (i0 I hN hi hx r (λs' I'=>⟨_,H,I',h⟩) hf)
def F6:xS:=λvs σ H Q=>vs=[]/\Q σ H
def DC(t:TG)(u:xS):xS:=λvs σ H Q=> ∃v r,vs=v::r/\t v σ H λσ' H'=>u r σ' H' Q
theorem uC:PGs X [] F6:=by
 intro aa s σ H vs us Q I r h;obtain⟨e,h⟩:=h
 subst e;cases r
 exact assignInOrder_nil ⟨σ,H,I,h⟩
theorem rG {e:Expr}{es:List Expr}{t:TG}{u:xS}(h1:PG X e t)(h2:PGs X es u)
 (hs:(assignEach (e::es) X.env).map (·.2)=assign e X.env::(assignEach es X.env).map (·.2):=by rfl):PGs X (e::es) (DC t u):=by
 intro aa s σ H vs us Q I r h;obtain⟨v,vr,e1,h⟩:=h
 subst e1;cases r with
 |cons r rr=>
  rw[hs];refine assignInOrder_cons (aZ (h1 aa s σ H _ _ _ I r h) λ_ s1 hq_=>?_)
  obtain⟨σ1,H1,I1,q1⟩:=hq_
  exact h2 aa s1 σ1 H1 _ _ Q I1 rr q1
def FL(K:W.Frag)(n:Nat)(t:xS):TG:=λv σ H Q=> ∃a xs,v=.ref a/\SqT K H a xs/\xs.length=n/\t xs σ H Q
theorem x9 {es:List Expr}{k:Nat}{t:xS}{n:Nat}(hc:X.calm=true)(h:PGs X es t)
 (hn:(assignEach es X.env).length=n:=by rfl) (hst:(assignEach es X.env).findIdx? (·.1)=none:=by rfl):PG X (.Tuple es k pos) (FL X.K n t):=by
 intro aa s σ H v u Q I r hw;obtain⟨a,xs,e1,hq,hl,hw⟩:=hw
 subst e1;cases r
 obtain⟨its,rv,ht,hz⟩:=I.tuple hq
 refine assign_Tuple_tuple (I.ok.hd hc) ht (by simp[hn,<-hl,rv.length]) hst λh' hx=>?_
 have I1:Inv X aa σ H {s with heap:=h'}:=I.kept (t':=s.toks) λb o e=>hx b o (Nat.ne_of_lt (Heap.lt_size e)) e
 exact h aa _ σ H xs _ Q I1 (by simpa using rv) hw
def F0(to ti:TE)(t:Cd):TG:=λv σ H Q=>to σ H λo H1=>ti σ H1 λi H2=>t o i v H2 λH3=>Q σ H3
theorem BH {o i:Expr}{to ti:TE}{t:Cd}(ho:PE X o to)(hi:PE X i ti)(hs:Ef X t)
 (ha: ∀v,assign (.Subscript o i pos) X.env v=(do
   let ov <-holding [v] (eval o X.env)
   let iv <-holding [v,ov] (eval i X.env)
   standAt pos
   holding [v,ov,iv] (setItem ov iv v)
   release [v,ov,iv] []):=by intro _;rfl):PG X (.Subscript o i pos) (F0 to ti t):=by
 intro aa s σ H v u Q I r h;rw[ha];refine wpAny_bind (wpAny_holding (aZ (ho aa s σ H _ I h) λov s1 hq_=>?_))
 obtain⟨x,H1,I1,r1,q1⟩:=hq_
 refine wpAny_bind (wpAny_holding (aZ (hi aa s1 σ H1 _ I1 q1) λiv s2 hq_=>?_))
 obtain⟨y,H2,I2,r2,q2⟩:=hq_
 refine wpAny_bind (wpAny_standAt (wpAny_bind (wpAny_holding (aZ (hs aa s2 σ H2 x y v ov iv u _ I2 r1 r2 r q2) λ_ s3 hq_=>?_))))
 obtain⟨H3,I3,q3⟩:=hq_
 exact wpAny_release ⟨σ,H3,I3,q3⟩
def Ad(te:TE)(g:TG):TS:=λD σ H=>te σ H λx H1=>g x σ H1 D.nx
theorem y6 {tg e:Expr}{te:TE}{g:TG}(he:PE X e te)(hg:PG X tg g)(hs:swapsWithSole [tg] e pos.line X.env=pure false:=by rfl)(hw:swappedStores [tg] e X.env=pure none:=by rfl)
 (h1:(assignEach [tg] X.env).map (·.2)=[assign tg X.env]:=by rfl):PS X (.Assign [tg] e pos) (Ad te g):=by
 intro aa s σ H D I h;refine wpAny_Assign_stores (aZ (he aa s σ H _ I h) λv s1 ⟨x,H1,I1,r1,q1⟩=>?_) hs hw
 rw[h1];exact aZ (hg aa s1 σ H1 x v _ I1 r1 q1) λ_ s2 q=>q
theorem j5 {i:Nat}{x:Str}{e:Expr}{te:TE}{pos':Pos}(hN:X.N.Nodup)(hi:X.N[i]? =some x)(hx:yt X.env.scope x)(he:PE X e te)(hs:swapsWith e (some (.Name x pos')) pos.line X.env=pure false:=by rfl)(hf:X.fn x=true\/X.env.scope.names.lookup x=some .local:=by first|exact .inl rfl|exact .inr rfl|assumption):
 PS X (.Assign [.Name x pos'] e pos) (Ad te (uj i)):=by
 intro aa s σ H D I h;refine wpAny_Assign_Name (aZ (he aa s σ H _ I h) λv s1 ⟨y,H1,I1,r1,q1⟩=>?_) hs
 exact i0 I1 hN hi hx r1 (λs2 I2=>⟨_,H1,I2,q1⟩) hf
def FQ(i j:Nat)(ta:TA):TS:=λD σ H=>ta σ H λvs H1=> ∃v w,vs=[v,w]/\D.nx ((σ.set i (some v)).set j (some w)) H1
theorem Dn {i j:Nat}{x y:Str}{a b:Expr}{ta:TA}{px py pt:Pos}{kt k2 pt2}(hc:X.calm=true)(hN:X.N.Nodup)(hi:X.N[i]? =some x)(hj:X.N[j]? =some y)(hij:i≠j)
 (hx:X.env.scope.names.lookup x=some .local) (hy:X.env.scope.names.lookup y=some .local) (ha:PA X [a,b] ta)
 (hw:swappedStores [.Tuple [.Name x px,.Name y py] kt pt] (.Tuple [a,b] k2 pt2) X.env=pure (some [x,y]))
 (hs:swapsWithSole [.Tuple [.Name x px,.Name y py] kt pt] (.Tuple [a,b] k2 pt2) pos.line X.env=pure false:=by rfl):
 PS X (.Assign [.Tuple [.Name x px,.Name y py] kt pt] (.Tuple [a,b] k2 pt2) pos) (FQ i j ta):=by
 intro aa s σ H D I h;rw[exec_Assign_arm];refine wpAny_bind (wpAny_standAt ?_)
 rw[hs];refine wpAny_bind (wpAny_pure ?_)
 rw[if_neg (by decide)]
 refine wpAny_bind (Tuple_ (aZ (ha _ aa s σ H _ I h) λus s1 hq_=>?_))
 obtain⟨vs,H1,I1,r1,q1⟩:=hq_
 obtain⟨v,w,e1,q1⟩:=q1
 subst e1;obtain⟨u1,u2,rfl,rv,rw'⟩: ∃u1 u2,us=[u1,u2]/\RelV v u1/\RelV w u2:=by
  cases r1 with
  |cons p q=>
   cases q with
   |cons p' q'=>
    cases q'
    exact⟨_,_,rfl,p,p'⟩
 refine wpAny_newObj_type ?_ (by show 2<=sizeLine;decide)
 have I2:Inv X aa σ H1 {s1 with heap:=s1.heap.push {cls:=.type "tuple",data:=.seq [u1,u2].toArray}}:=I1.kept (t':=s1.toks) λb o e=>Heap.get?_push_of_some _ e
 rw[hw];refine wpAny_bind (wpAny_pure ?_)
 show wpAny (model X.prog X.w) X.A (do rule "assign.swapped-stores";let items <-unpackItems (.ref s1.heap.objs.size) 2 none;assignInOrder [λv=>bindName X.env y v,λv=>bindName X.env x v] items.reverse;pure Flow.next) _ _ _
 refine wpAny_bind (wpAny_rule (wpAny_bind (unpackItems_tuple (items:= #[u1,u2]) (I.ok.hd hc) (IsTup.new s1.heap _) λh' hx'=>?_)))
 have I3:=I2.kept (h':=h') (t':=s1.toks) λb o e=>hx' b o (Nat.ne_of_lt (Heap.lt_size e)) e
 show wpAny _ _ (assignInOrder [λv=>bindName X.env y v,λv=>bindName X.env x v] [u2,u1]>>=λ_=>pure Flow.next) _ _ _
 refine wpAny_bind (assignInOrder_cons (wpAny_bindName (i0 I3 hN hj (.inl hy) rw' (λs2 I4=>?_) (.inr hy))))
 refine assignInOrder_cons (wpAny_bindName (i0 I4 hN hi (.inl hx) rv (λs3 I5=>assignInOrder_nil (wpAny_pure ?_)) (.inr hx)))
 rw[List.set_comm _ _ (Ne.symm hij)] at I5;exact⟨_,H1,I5,q1⟩
end
section
variable {X:Cx}{pos:Pos}
def CA(c:TT)(tb:TS):TS:=λD σ H=> ∃W:Nat->St->Hp->Prop,(∃m,W m σ H)/\ ∀m σ H,W m σ H->
 c σ H λb H1=>if b=true then∃N:St->Hp->Prop,(∀σ' H',N σ' H'-> ∃m',m'<m/\W m' σ' H')/\tb {D with nx:=N,ct:=N,bk:=D.nx} σ H1 else D.nx σ H1
theorem yC {c:Expr}{body:List Stmt}{tc:TT}{tb:TS}(hp:PassesOwn (model X.prog X.w) X.A X.env X.xe)(hc:PT X c tc)(hb:PSs X body tb):PS X (.While c body [] pos) (CA tc tb):=by
 intro aa s σ H D I h;obtain⟨W,⟨m0,w0⟩,turn⟩:=h
 refine wpAny_While (codeAny_whileLoop (λn s'=> ∃σ' H',Inv X aa σ' H' s'/\W n σ' H') ?_ m0 ⟨σ,H,I,w0⟩)
 rintro n s1 ⟨σ1,H1,I1,w1⟩
 refine wpAny_passesOwn hp (aZ (hc aa s1 σ1 H1 _ I1 (turn n σ1 H1 w1)) λb s2 hq_=>?_)
 obtain⟨H2,I2,q2⟩:=hq_
 cases b with
 |true=>
  obtain⟨N,hN,q2⟩:=q2
  rw[if_pos rfl];refine wpAny_passesOwn hp (aZ (hb aa s2 σ1 H2 _ I2 q2) λf s3 q3=>?_)
  cases f with
  |next=>
   obtain⟨σ3,H3,I3,n3⟩:=q3
   obtain⟨m',hm,w3⟩:=hN σ3 H3 n3
   exact⟨m',hm,σ3,H3,I3,w3⟩
  |cont=>
   obtain⟨σ3,H3,I3,n3⟩:=q3
   obtain⟨m',hm,w3⟩:=hN σ3 H3 n3
   exact⟨m',hm,σ3,H3,I3,w3⟩
  |brk=>exact q3
  |ret v=>exact q3
 |false=>
  rw[if_neg Bool.false_ne_true];exact wpAny_execs_nil ⟨σ1,H2,I2,q2⟩
end
structure It where
 go:Nat->Hp->Prop
 yld:Nat->Hp->V->Hp->Prop
 stop:Nat->Hp->Prop
def eW(X:Cx)(aa:List (Addr×Obj))(H:Hp)(b:Addr):Prop:=
 H b=none/\b≠X.env.locals/\b∉X.fs/\(b∈X.ex\/X.s₀.heap.objs.size<=b)/\(∀x c,X.env.cells.lookup x=some c->c≠b)/\ ∀p∈X.pn++aa,p.1≠b
theorem Inv.fpOk {X:Cx}{aa:List (Addr×Obj)}{σ:St}{H H':Hp}{s:Shared}{b:Addr}(I:Inv X aa σ H s)(hb:s.heap.objs.size<=b)(hn:H' b=none):eW X aa H' b:=by
 refine⟨hn,Nat.ne_of_gt (Nat.lt_of_lt_of_le I.lt hb),I.nofs hb,.inr (Nat.le_trans I.sz hb),λx c e z=>?_,λp hp z=>?_⟩
 ·obtain⟨v,q⟩:=I.cell x c e
  exact absurd (Nat.lt_of_lt_of_le q.lt (by rw[z];exact hb)) (Nat.lt_irrefl _)
 ·exact absurd (Nat.lt_of_lt_of_le (Heap.lt_size (I.pin p hp).1) (by rw[z];exact hb)) (Nat.lt_irrefl _)
structure Turn(P:Program)(w:World)(K:W.Frag)(tg:Expr)(J:It)(fp:List Addr)(it:Addr)(tn:Nat->Heap->Prop):Prop where
 mem:it∈fp
 obj: ∀i h,tn i h-> ∀b∈fp,∃o,h.get? b=some o/\ ∀v,o.data≠ .cell v
 keep: ∀i h h',tn i h->(∀b∈fp,∀o,h.get? b=some o->h'.get? b=some o)->tn i h'
 item: ∀(X:Cx),X.prog=P->X.w=w->X.K=K->X.calm=true-> ∀(i:Nat) (aa:List (Addr×Obj)) (s:Shared) (σ:St) (H:Hp) (E:Value->Shared->Prop),Inv X aa σ H s->(∀b∈fp,eW X aa H b)->tn i s.heap->J.go i H->
  wpAny (model P w) X.A (pyNext (.ref it)) (λr s1=> ∃u,r=some u/\
   wpAny (model P w) X.A (letOwnedTupleGo tg (.ref it) u) (λ_ s2=> ∃x H',Inv X aa σ H' s2/\RelV x u/\J.yld i H x H'/\tn (i+1) s2.heap/\ ∀b∈fp,H' b=none) E s1) E s
 done: ∀(X:Cx),X.prog=P->X.w=w->X.K=K->X.calm=true-> ∀(i:Nat) (aa:List (Addr×Obj)) (s:Shared) (σ:St) (H:Hp) (E:Value->Shared->Prop),Inv X aa σ H s->(∀b∈fp,eW X aa H b)->tn i s.heap->J.stop i H->
  wpAny (model P w) X.A (pyNext (.ref it)) (λr s1=>r=none/\Inv X aa σ H s1) E s
 self: ∀(A:Around) (i:Nat) (s:Shared) (Q:Value->Shared->Prop) (E:Value->Shared->Prop),tn i s.heap->Q (.ref it) s->wpAny (model P w) A (pyIter (.ref it)) Q E s
abbrev TI:=St->Hp->(It->Hp->Prop)->Prop
def Gx(X:Cx)(aa:List (Addr×Obj))(σ:St)(tg:Expr)(R:It->Hp->Prop)(itv:Value)(s2:Shared):Prop:=
 ∃(it:Addr) (fp:List Addr) (tn:Nat->Heap->Prop) (J:It) (H':Hp),itv=.ref it/\Inv X aa σ H' s2/\Turn X.prog X.w X.K tg J fp it tn/\tn 0 s2.heap/\(∀b∈fp,eW X aa H' b)/\R J H'
def PI(X:Cx)(tg iter:Expr)(wi:TI):Prop:=
 ∀(aa:List (Addr×Obj)) (s:Shared) (σ:St) (H:Hp) (R:It->Hp->Prop),Inv X aa σ H s->wi σ H R->
  wpAny (model X.prog X.w) X.A (eval iter X.env) (λv s1=>wpAny (model X.prog X.w) X.A (pyIter v) (Gx X aa σ tg R) X.xe s1) X.xe s
theorem ui {M:Model}{A:Around}{E:Value->Shared->Prop}{s:Shared}{tg:Expr}{it:Addr}{u:Value}{o:Obj}{n:String}{vs:Array Value}{Q:Unit->Shared->Prop}(ho:s.heap.get? it=some o)(hc:o.cls=.type n)(hd:o.data=.fields vs)
 (hn:["enumerate","zip","dict_itemiterator","dict_reverseitemiterator","odict_iterator","itertools.zip_longest","itertools.pairwise"].contains n=false) (hQ:Q () s):wpAny M A (letOwnedTupleGo tg (.ref it) u) Q E s:=by
 unfold letOwnedTupleGo;cases tg<;>first
  |exact wpAny_pure hQ
  |(cases u<;>first
     |exact wpAny_pure hQ
     |(refine wpAny_bind (wpAny_load ho ?_)
       rw[hc,hd];show wpAny M A (if(["enumerate","zip","dict_itemiterator","dict_reverseitemiterator","odict_iterator","itertools.zip_longest","itertools.pairwise"].contains n&&vs[0]? ==some (rawInt _))=true then _ else _) Q E s
       rw[if_neg (by intro h;rw[hn,Bool.false_and] at h;cases h)]
       exact wpAny_pure hQ))
def FJ(K:W.Frag)(a:Addr):It:=
 ⟨λi H=> ∃xs x,SqL K H a xs/\xs[i]? =some x,λi H x H'=>H'=H/\ ∀xs,SqL K H a xs->xs[i]? =some x,λi H=> ∃xs,SqL K H a xs/\xs.length<=i⟩
def FI(K:W.Frag)(a:Addr):It:=
 ⟨λi H=> ∃xs x,SqT K H a xs/\xs[i]? =some x,λi H x H'=>H'=H/\ ∀xs,SqT K H a xs->xs[i]? =some x,λi H=> ∃xs,SqT K H a xs/\xs.length<=i⟩
def Fa(lo:Int)(n:Nat):It:=⟨λi _=>i<n,λi H x H'=>H'=H/\x=.int (lo+i),λi _=>n<=i⟩
theorem vC {P:Program}{w:World}{K:W.Frag}{tg:Expr}(a it:Addr):Turn P w K tg (FJ K a) [it] it (λi h=>h.IsListIter it a i) where
 mem:=by simp
 obj:=λi h st b hb=>by
  have e:b=it:=by simpa using hb
  subst e;obtain⟨o,e,c,d⟩:=st
  exact⟨o,e,λv z=>by rw[d] at z;cases z⟩
 keep:=λi h h' st k=>st.at λo e=>k it (by simp) o e
 item:=by
  intro X hP hw hK hc i aa s σ H E I hf st hg;subst hP hw hK;obtain⟨xs,x,hq,hx⟩:=hg
  obtain⟨its,rv,p,hz⟩:=I.list hq
  obtain⟨u,hu,ru⟩:=rv.get hx
  obtain⟨f0,f1,f2,f3,f4,f5⟩:=hf it (by simp)
  refine wpAny_pyNext_list_item st p.isList (x:=u) (by simpa using hu) λh' st' sb=>?_
  have I1:Inv X aa σ H {s with heap:=h'}:=I.turned (t':=s.toks) (λb o hb e=>(sb.2 b hb).trans e) f0 f1 f3 f4 f5
  obtain⟨o,e,c,d⟩:=id st'
  exact⟨u,rfl,ui (s:={s with heap:=h'}) e c d (by decide) ⟨x,H,I1,ru,⟨rfl,λys hy=>by rw[I.list_inj hy hq];exact hx⟩,st',λb hb=>(hf b hb).1⟩⟩
 done:=by
  intro X hP hw hK hc i aa s σ H E I hf st hg;subst hP hw hK;obtain⟨xs,hq,hx⟩:=hg
  obtain⟨its,rv,p,hz⟩:=I.list hq
  obtain⟨f0,f1,f2,f3,f4,f5⟩:=hf it (by simp)
  have hl:=rv.length
  exact wpAny_pyNext_list_end (I.ok.hd hc) st p.isList (by simp;omega) λh' eb=>⟨rfl,I.turned (t':=s.toks) (λb o hb e=>eb b o hb e) f0 f1 f3 f4 f5⟩
 self:=λ_ _ _ _ _ st h=>wpAny_pyIter_listiter st h
theorem tj {P:Program}{w:World}{K:W.Frag}{tg:Expr}(a it:Addr):Turn P w K tg (FI K a) [it] it (λi h=>h.IsTupleIter it a i) where
 mem:=by simp
 obj:=λi h st b hb=>by
  have e:b=it:=by simpa using hb
  subst e;obtain⟨o,e,c,d⟩:=st
  exact⟨o,e,λv z=>by rw[d] at z;cases z⟩
 keep:=λi h h' st k=>st.at λo e=>k it (by simp) o e
 item:=by
  intro X hP hw hK hc i aa s σ H E I hf st hg;subst hP hw hK;obtain⟨xs,x,hq,hx⟩:=hg
  obtain⟨its,rv,p,hz⟩:=I.tuple hq
  obtain⟨u,hu,ru⟩:=rv.get hx
  obtain⟨f0,f1,f2,f3,f4,f5⟩:=hf it (by simp)
  refine wpAny_pyNext_tuple_item st (show s.heap.IsTuple a its.toArray from p) (x:=u) (by simpa using hu) λh' st' sb=>?_
  have I1:Inv X aa σ H {s with heap:=h'}:=I.turned (t':=s.toks) (λb o hb e=>(sb.2 b hb).trans e) f0 f1 f3 f4 f5
  obtain⟨o,e,c,d⟩:=id st'
  exact⟨u,rfl,ui (s:={s with heap:=h'}) e c d (by decide) ⟨x,H,I1,ru,⟨rfl,λys hy=>by rw[I.tuple_inj hy hq];exact hx⟩,st',λb hb=>(hf b hb).1⟩⟩
 done:=by
  intro X hP hw hK hc i aa s σ H E I hf st hg;subst hP hw hK;obtain⟨xs,hq,hx⟩:=hg
  obtain⟨its,rv,p,hz⟩:=I.tuple hq
  obtain⟨f0,f1,f2,f3,f4,f5⟩:=hf it (by simp)
  have hl:=rv.length
  exact wpAny_pyNext_tuple_end (I.ok.hd hc) st (show s.heap.IsTuple a its.toArray from p) (by simp;omega) λh' eb=>⟨rfl,I.turned (t':=s.toks) (λb o hb e=>eb b o hb e) f0 f1 f3 f4 f5⟩
 self:=λ_ _ _ _ _ st h=>wpAny_pyIter_tupleiter st h
theorem tO {P:Program}{w:World}{K:W.Frag}{tg:Expr}(it:Addr)(lo:Int)(n:Nat):Turn P w K tg (Fa lo n) [it] it (λi h=>IsRangeIter h it (lo+(i:Nat)*1) ((n:Int) - (i:Nat)) 1) where
 mem:=by simp
 obj:=λi h st b hb=>by
  have e:b=it:=by simpa using hb
  subst e;exact⟨_,st,λv z=>by
   have z':Data.fields _=Data.cell v:=z
   cases z'⟩
 keep:=λi h h' st k=>k it (by simp) _ st
 item:=by
  intro X hP hw hK hc i aa s σ H E I hf st hg;subst hP hw hK;obtain⟨f0,f1,f2,f3,f4,f5⟩:=hf it (by simp)
  have W:=Walks.range (prog:=X.prog) (w:=X.w) (I.ok.hd hc) it lo 1 n
  refine W.item i s _ _ hg st λv h' tk hv st' kk=>?_
  obtain⟨t,rfl⟩:=hv
  have I1:Inv X aa σ H {s with heap:=h',toks:=tk}:=I.turned (λb o hb e=>kk b o (by simpa using hb) e) f0 f1 f3 f4 f5
  refine⟨_,rfl,ui (s:={s with heap:=h',toks:=tk}) (n:="range_iterator") st' rfl rfl (by decide) ⟨.int (lo+i),H,I1,⟨t,?_⟩,⟨rfl,rfl⟩,st',λb hb=>(hf b hb).1⟩⟩
  rw[Int.mul_one]
 done:=by
  intro X hP hw hK hc i aa s σ H E I hf st hg;subst hP hw hK;obtain⟨f0,f1,f2,f3,f4,f5⟩:=hf it (by simp)
  exact wpAny_pyNext_range_end (I.ok.hd hc) st (by have:n<=i:=hg;omega) λh' eb=>⟨rfl,I.turned (t':=s.toks) (λb o hb e=>eb b o hb e) f0 f1 f3 f4 f5⟩
 self:=λ_ _ _ _ _ st h=>wpAny_pyIter_rangeiter st h
section
variable {X:Cx}{tg:Expr}
def Dz(K:W.Frag)(tl:TE):TI:=λσ H R=>tl σ H λx H1=> ∃a,x=.ref a/\(∃xs,SqL K H1 a xs)/\R (FJ K a) H1
def Gk(K:W.Frag)(tl:TE):TI:=λσ H R=>tl σ H λx H1=> ∃a,x=.ref a/\(∃xs,SqT K H1 a xs)/\R (FI K a) H1
theorem t6 {l:Expr}{tl:TE}(hl:PE X l tl):PI X tg l (Dz X.K tl):=by
 intro aa s σ H R I h;refine aZ (hl aa s σ H _ I h) λv s1 hq_=>?_
 obtain⟨x,H1,I1,r1,q1⟩:=hq_
 obtain⟨a,e,⟨xs,hq⟩,q⟩:=q1
 subst e;cases r1
 obtain⟨its,rv,p,hz⟩:=I1.list hq
 refine wpAny_pyIter_list p.isList ?_
 refine⟨s1.heap.objs.size,[s1.heap.objs.size],_,_,H1,rfl,I1.kept (t':=s1.toks) λb o e=>Heap.get?_push_of_some _ e,vC a _,⟨_,Heap.get?_push_size _ rfl,rfl,rfl⟩,λb hb=>?_,q⟩
 have e:b=s1.heap.objs.size:=by simpa using hb
 subst e;exact I1.fpOk (Nat.le_refl _) (I1.hok.fresh (Nat.le_refl _))
theorem C1 {l:Expr}{tl:TE}(hl:PE X l tl):PI X tg l (Gk X.K tl):=by
 intro aa s σ H R I h;refine aZ (hl aa s σ H _ I h) λv s1 hq_=>?_
 obtain⟨x,H1,I1,r1,q1⟩:=hq_
 obtain⟨a,e,⟨xs,hq⟩,q⟩:=q1
 subst e;cases r1
 obtain⟨its,rv,p,hz⟩:=I1.tuple hq
 refine wpAny_pyIter_tuple (show s1.heap.IsTuple a its.toArray from p) ?_
 refine⟨s1.heap.objs.size,[s1.heap.objs.size],_,_,H1,rfl,I1.kept (t':=s1.toks) λb o e=>Heap.get?_push_of_some _ e,tj a _,⟨_,Heap.get?_push_size _ rfl,rfl,rfl⟩,λb hb=>?_,q⟩
 have e:b=s1.heap.objs.size:=by simpa using hb
 subst e;exact I1.fpOk (Nat.le_refl _) (I1.hok.fresh (Nat.le_refl _))
theorem xi {aa:List (Addr×Obj)}{σ:St}{H:Hp}{s:Shared}{R:It->Hp->Prop}{E:Value->Shared->Prop}{lo hi:Int}{t u v:Tok}{tk:Nat}(I:Inv X aa σ H s)(h1: -(2^62)<=lo)(h2:lo<2^62)(h3: -(2^62)<=hi)(h4:hi<2^62)
 (q:R (Fa lo (hi-lo).toNat) H):wpAny (model X.prog X.w) X.A (pyIter (.ref s.heap.objs.size)) (Gx X aa σ tg R) E {s with heap:=s.heap.push {cls:=.type "range",data:=.fields #[.int lo t,.int hi u,.int 1 v]},toks:=tk}:=by
 refine wpAny_pyIter_range (IsRange.new ..) (small_one h1 h2 h3 h4) ?_
 have I1:Inv X aa σ H {s with heap:=s.heap.push {cls:=.type "range",data:=.fields #[.int lo t,.int hi u,.int 1 v]},toks:=tk}:=I.kept λb o e=>Heap.get?_push_of_some _ e
 refine⟨(s.heap.push {cls:=.type "range",data:=.fields #[.int lo t,.int hi u,.int 1 v]}).objs.size,[(s.heap.push {cls:=.type "range",data:=.fields #[.int lo t,.int hi u,.int 1 v]}).objs.size],_,_,H,rfl,
  I1.kept (t':=tk) λb o e=>Heap.get?_push_of_some _ e,tO _ lo (hi-lo).toNat,?_,λb hb=>?_,q⟩
 ·have e1:lo+((0:Nat):Int)*1=lo:=by simp
  have e2:(((hi-lo).toNat:Nat):Int) - ((0:Nat):Int)=Builtin.Range.rangeSize lo hi 1:=by rw[rangeSize_one];split<;>omega
  show IsRangeIter _ _ (lo+((0:Nat):Int)*1) ((((hi-lo).toNat:Nat):Int) - ((0:Nat):Int)) 1;rw[e1,e2];exact Heap.get?_push_size _ rfl
 ·have e:b=(s.heap.push {cls:=.type "range",data:=.fields #[.int lo t,.int hi u,.int 1 v]}).objs.size:=by simpa using hb
  subst e;exact I1.fpOk (Nat.le_refl _) (I1.hok.fresh (Nat.le_refl _))
def D3(ta:TA):TI:=λσ H R=>ta σ H λvs H1=> ∃j:Int,vs=[.int j]/\ -(2^62)<=j/\j<2^62/\R (Fa 0 j.toNat) H1
theorem wC {a:Expr}{ta:TA}{p pos:Pos}(hg:Gl X "range")(hm:X.mg "range"=none)(ha:PA X [a] ta)(hs:starEach [a] X.env=[(false,eval a X.env)]:=by rfl):PI X tg (.Call (.Name "range" p) [a] [] pos) (D3 ta):=by
 intro aa s σ H R I h;refine Call_ (iD I hg hm boot_range (PyProof.Rows.callWith_type1 (aZ (ha pos aa s σ H _ I h) λus s1 ⟨vs,H1,I1,r1,q1⟩=>?_) hs rfl))
 obtain⟨j,e,q1,q2,q⟩:=q1
 subst e;cases r1 with
 |cons r rr=>
  cases rr
  obtain⟨t,rfl⟩:=r
  exact call_range_1 (xi I1 (by omega) (by omega) q1 q2 (by simpa using q))
def FR(wi:TI)(g:TG)(tb:TS):TS:=λD σ H=>wi σ H λJ H1=> ∃W:Nat->Nat->St->Hp->Prop,(∃m,W 0 m σ H1)/\ ∀i m σ H,W i m σ H->
 (J.stop i H/\D.nx σ H)\/(J.go i H/\ ∃N:St->Hp->Prop,(∀σ' H',N σ' H'-> ∃m',m'<m/\W (i+1) m' σ' H')/\ ∀x H',J.yld i H x H'->g x σ H' λσ2 H2=>tb {D with nx:=N,ct:=N,bk:=D.nx} σ2 H2)
def iC(fp:List Addr)(h:Heap):List (Addr×Obj):=fp.filterMap λb=>(h.get? b).map λo=>(b,o)
theorem bL {fp:List Addr}{h:Heap}{b:Addr}{o:Obj}(hb:b∈fp)(e:h.get? b=some o):(b,o)∈iC fp h:=List.mem_filterMap.mpr ⟨b,hb,by rw[e];rfl⟩
theorem wF {fp:List Addr}{h:Heap}{p:Addr×Obj}(hp:p∈iC fp h):p.1∈fp/\h.get? p.1=some p.2:=by
 obtain⟨b,hb,e⟩:=List.mem_filterMap.mp hp
 cases q:h.get? b with
 |none=>rw[q] at e;cases e
 |some o=>
  rw[q] at e;have e':(b,o)=p:=Option.some.inj e
  subst e';exact⟨hb,q⟩
theorem Inv.pinned {aa:List (Addr×Obj)}{σ:St}{H:Hp}{s:Shared}{fp:List Addr}(I:Inv X aa σ H s)(hf: ∀b∈fp,eW X aa H b)(ho: ∀b∈fp,∃o,s.heap.get? b=some o/\ ∀v,o.data≠ .cell v):Inv X (aa++iC fp s.heap) σ H s:=
 I.pins_of λp hp=>(List.mem_append.mp hp).elim (λz=>I.pin p (List.mem_append_right _ z)) λz=>by
  obtain⟨hb,e⟩:=wF z
  obtain⟨f0,f1,f2,_⟩:=hf p.1 hb
  obtain⟨o,e',d⟩:=ho p.1 hb
  rw[e] at e';cases e';exact⟨e,f0,f1,f2,d⟩
theorem Inv.unpinned {aa pl:List (Addr×Obj)}{σ:St}{H:Hp}{s:Shared}(I:Inv X (aa++pl) σ H s):Inv X aa σ H s:=I.pins_of λp hp=>I.pin p (List.mem_append_right _ (List.mem_append_left _ hp))
theorem BL {iter:Expr}{body:List Stmt}{wi:TI}{g:TG}{tb:TS}{pos:Pos}(hp:PassesOwn (model X.prog X.w) X.A X.env X.xe)(hc:X.calm=true)(hi:PI X tg iter wi)(hg:PG X tg g)(hb:PSs X body tb)
 (hs: ∀x,foldedSetIterable iter X.env x=pure x:=by intro _;rfl):PS X (.For tg iter body [] pos) (FR wi g tb):=by
 intro aa s σ H D I h;refine wpAny_For (aZ (hi aa s σ H _ I h) λv s1 h1=>aZ h1 λitv s2 h2=>?_) hs
 obtain⟨it,fp,tn,J,H2,e,I2,T,st2,f2,W,⟨m0,w0⟩,turn⟩:=h2
 subst e;have stat: ∀ {H':Hp},(∀b∈fp,H' b=none)-> ∀b∈fp,eW X aa H' b:=λhn b hb=>⟨hn b hb,(f2 b hb).2⟩
 refine codeAny_forLoop_any (λn s'=> ∃i σ' H',Inv X aa σ' H' s'/\tn i s'.heap/\(∀b∈fp,H' b=none)/\W i n σ' H') ?_ m0 ⟨0,σ,H2,I2,st2,λb hb=>(f2 b hb).1,w0⟩
 rintro n s3 ⟨i,σ3,H3,I3,st3,fr3,w3⟩
 rcases turn i n σ3 H3 w3 with⟨stop,qn⟩|⟨go,N,hN,step⟩
 ·refine wpAny_passesOwn hp (aZ (T.done X rfl rfl rfl hc i aa s3 σ3 H3 X.xe I3 (stat fr3) st3 stop) λr s4 hq_=>?_)
  obtain⟨hr,I4⟩:=hq_
  subst hr;exact wpAny_execs_nil ⟨σ3,H3,I4,qn⟩
 ·refine wpAny_passesOwn hp (aZ (T.item X rfl rfl rfl hc i aa s3 σ3 H3 X.xe I3 (stat fr3) st3 go) λr s4 hq_=>?_)
  obtain⟨u,hr,h4⟩:=hq_
  subst hr;refine wpAny_passesOwn hp (aZ h4 λ_ s5 hq_=>?_)
  obtain⟨x,H5,I5,r5,y5,st5,fr5⟩:=hq_
  have I5':=I5.pinned (stat fr5) (T.obj _ _ st5)
  refine wpAny_passesOwn hp (aZ (hg _ s5 σ3 H5 x u _ I5' r5 (step x H5 y5)) λ_ s6 hq_=>?_)
  obtain⟨σ6,H6,I6,q6⟩:=hq_
  refine wpAny_passesOwn hp (aZ (hb _ s6 σ6 H6 _ I6 q6) λf s7 q7=>?_)
  have again: ∀ {σ7:St} {H7:Hp},Inv X (aa++iC fp s5.heap) σ7 H7 s7->N σ7 H7-> ∃m,m<n/\ ∃i σ' H',Inv X aa σ' H' s7/\tn i s7.heap/\(∀b∈fp,H' b=none)/\W i m σ' H':=λ{σ7 H7} I7 n7=>by
   obtain⟨m',hm,w7⟩:=hN σ7 H7 n7
   refine⟨m',hm,i+1,σ7,H7,I7.unpinned,T.keep _ _ _ st5 λb hb o e=>(I7.pin (b,o) (List.mem_append_right _ (List.mem_append_right _ (bL hb e)))).1,λb hb=>?_,w7⟩
   obtain⟨o,e,d⟩:=T.obj _ _ st5 b hb
   exact(I7.pin (b,o) (List.mem_append_right _ (List.mem_append_right _ (bL hb e)))).2.1
  cases f with
  |next=>obtain⟨σ7,H7,I7,n7⟩:=q7;exact again I7 n7
  |cont=>obtain⟨σ7,H7,I7,n7⟩:=q7;exact again I7 n7
  |brk=>obtain⟨σ7,H7,I7,q7⟩:=q7;exact⟨σ7,H7,I7.unpinned,q7⟩
  |ret v=>obtain⟨x7,σ7,H7,I7,r7,q7⟩:=q7;exact⟨x7,σ7,H7,I7.unpinned,r7,q7⟩
end
abbrev R2:=V->V->Hp->VK->Prop
def jD(X:Cx)(f:Value->Value->Sem Value)(r:R2):Prop:=
 ∀(aa:List (Addr×Obj)) (s:Shared) (σ:St) (H:Hp) (x y:V) (v u:Value) (Q:VK),Inv X aa σ H s->RelV x v->RelV y u->r x y H Q->
  wpAny (model X.prog X.w) X.A (f v u) (EP X aa σ Q) X.xe s
def Gm(X:Cx)(f:Value->Sem Value)(r:V->Hp->VK->Prop):Prop:=
 ∀(aa:List (Addr×Obj)) (s:Shared) (σ:St) (H:Hp) (x:V) (v:Value) (Q:VK),Inv X aa σ H s->RelV x v->r x H Q->
  wpAny (model X.prog X.w) X.A (f v) (EP X aa σ Q) X.xe s
def bU(X:Cx)(f:Value)(r:List V->Hp->VK->Prop):Prop:=
 ∀(aa:List (Addr×Obj)) (s:Shared) (σ:St) (H:Hp) (xs:List V) (us:List Value) (Q:VK),Inv X aa σ H s->Vals xs us->r xs H Q->
  wpAny (model X.prog X.w) X.A (call f us) (EP X aa σ Q) X.xe s
def F7(X:Cx)(r:V->Hp->(Bool->Hp->Prop)->Prop):Prop:=
 ∀(aa:List (Addr×Obj)) (s:Shared) (σ:St) (H:Hp) (x:V) (v:Value) (Q:Bool->Hp->Prop),Inv X aa σ H s->RelV x v->r x H Q->
  wpAny (model X.prog X.w) X.A (truthy v) (TP X aa σ Q) X.xe s
def Dt(r:R2)(ta tb:TE):TE:=λσ H Q=>ta σ H λx H1=>tb σ H1 λy H2=>r x y H2 Q
def GS(r:V->Hp->VK->Prop)(ta:TE):TE:=λσ H Q=>ta σ H λx H1=>r x H1 Q
def rI(C:Int->Int->Prop)(g:Int->Int->V):R2:=λx y H Q=> ∃i j,x=.int i/\y=.int j/\C i j/\Q (g i j) H
def zP(g:Int->Int->V):R2:=λx y H Q=> ∃i j,x=.int i/\y=.int j/\Q (g i j) H
def rU(g:Int->V):V->Hp->VK->Prop:=λx H Q=> ∃i,x=.int i/\Q (g i) H
section
variable {X:Cx}{a b c:Expr}{ta tb tc:TE}{pos:Pos}
theorem CK(ha:PE X a ta)(hb:PE X b tb){aa:List (Addr×Obj)}{s:Shared}{σ:St}{H:Hp}{R:V->V->Hp->Prop}(I:Inv X aa σ H s)
 (h:ta σ H λx H1=>tb σ H1 λy H2=>R x y H2) {Q:Value->Shared->Prop} {f:Value->Value->Sem Value}
 (hf: ∀v u s2 x y H2,Inv X aa σ H2 s2->RelV x v->RelV y u->R x y H2->wpAny (model X.prog X.w) X.A (f v u) Q X.xe s2):
 wpAny (model X.prog X.w) X.A (eval a X.env) (λv s₁=>wpAny (model X.prog X.w) X.A (eval b X.env) (λu s₂=>wpAny (model X.prog X.w) X.A (f v u) Q X.xe s₂) X.xe s₁) X.xe s:=by
 refine aZ (ha aa s σ H _ I h) λv s1 hq_=>?_
 obtain⟨x,H1,I1,r1,q1⟩:=hq_
 refine aZ (hb aa s1 σ H1 _ I1 q1) λu s2 hq_=>?_
 obtain⟨y,H2,I2,r2,q2⟩:=hq_
 exact hf v u s2 x y H2 I2 r1 r2 q2
theorem wV {op:Operator}{r:R2}(ho:jD X (binaryOp op) r)(ha:PE X a ta)(hb:PE X b tb):PE X (.BinOp a op b pos) (Dt r ta tb):=by
 intro aa s σ H Q I h;exact wpAny_BinOp (CK ha hb I h λv u s2 x y H2 I2 rx ry q=>ho aa s2 σ H2 x y v u Q I2 rx ry q)
theorem Eu {op:UnaryOp}{r:V->Hp->VK->Prop}(ho:Gm X (unaryOp op) r)(ha:PE X a ta):PE X (.UnaryOp op a pos) (GS r ta):=by
 intro aa s σ H Q I h;exact UnaryOp_ (aZ (ha aa s σ H _ I h) λv s1 ⟨x,H1,I1,r1,q1⟩=>ho aa s1 σ H1 x v Q I1 r1 q1)
theorem Fc {f:Value->Value->Sem Value}{C:Int->Int->Prop}{g:Int->Int->Int}
 (rule: ∀(i j:Int) (t u:Tok) (s:Shared) (Q:Value->Shared->Prop) (E:Value->Shared->Prop),C i j->Q (.int (g i j) s.toks) {s with toks:=s.toks+1}->wpAny (model X.prog X.w) X.A (f (.int i t) (.int j u)) Q E s):
 jD X f (rI C λi j=>.int (g i j)):=by
 intro aa s σ H x y v u Q I rx ry h;obtain⟨i,j,rfl,rfl,hc,q⟩:=h
 obtain⟨t,rfl⟩:=rx
 obtain⟨t',rfl⟩:=ry
 exact rule i j t t' s _ _ hc ⟨.int (g i j),H,I.tok _,⟨_,rfl⟩,q⟩
theorem DM {f:Value->Value->Sem Value}{g:Int->Int->Int}
 (rule: ∀(i j:Int) (t u:Tok) (s:Shared) (Q:Value->Shared->Prop) (E:Value->Shared->Prop),Q (.int (g i j) s.toks) {s with toks:=s.toks+1}->wpAny (model X.prog X.w) X.A (f (.int i t) (.int j u)) Q E s):
 jD X f (zP λi j=>.int (g i j)):=by
 intro aa s σ H x y v u Q I rx ry h;obtain⟨i,j,rfl,rfl,q⟩:=h
 obtain⟨t,rfl⟩:=rx
 obtain⟨t',rfl⟩:=ry
 exact rule i j t t' s _ _ ⟨.int (g i j),H,I.tok _,⟨_,rfl⟩,q⟩
theorem Dq {f:Value->Value->Sem Value}{g:Int->Int->Bool}
 (rule: ∀(i j:Int) (t u:Tok) (s:Shared) (Q:Value->Shared->Prop) (E:Value->Shared->Prop),Q (.bool (g i j)) s->wpAny (model X.prog X.w) X.A (f (.int i t) (.int j u)) Q E s):
 jD X f (zP λi j=>.bl (g i j)):=by
 intro aa s σ H x y v u Q I rx ry h;obtain⟨i,j,rfl,rfl,q⟩:=h
 obtain⟨t,rfl⟩:=rx
 obtain⟨t',rfl⟩:=ry
 exact rule i j t t' s _ _ ⟨.bl (g i j),H,I,rfl,q⟩
def EM(i j:Int):Prop:=0<=j/\j<=1000000/\i.natAbs<2^64
theorem wT:jD X (binaryOp .Add) (zP λi j=>.int (i+j)):=DM λ_ _ _ _ _ _ _ q=>add_int q
theorem xu:jD X (binaryOp .Sub) (zP λi j=>.int (i-j)):=DM λ_ _ _ _ _ _ _ q=>sub_int q
theorem Ca:jD X (binaryOp .Mod) (rI (λ_ j=>0<j) λi j=>.int (i % j)):=Fc λi j _ _ _ _ _ hc q=>by
 have h1:(0:Int)<j:=hc
 exact mod_int' (by omega) (by rw[Int.fmod_eq_emod_of_nonneg i (by omega)];exact q)
theorem Cy:jD X (binaryOp .Pow) (rI EM λi j=>.int (i^j.toNat)):=Fc λ_ _ _ _ _ _ _ hc q=>pow_int_small hc.1 hc.2.1 hc.2.2 q
theorem GM {f:Value->Sem Value}{g:Int->Int}
 (rule: ∀(i:Int) (t:Tok) (s:Shared) (Q:Value->Shared->Prop) (E:Value->Shared->Prop),Q (.int (g i) s.toks) {s with toks:=s.toks+1}->wpAny (model X.prog X.w) X.A (f (.int i t)) Q E s):
 Gm X f (rU λi=>.int (g i)):=by
 intro aa s σ H x v Q I rx h;obtain⟨i,rfl,q⟩:=h
 obtain⟨t,rfl⟩:=rx
 exact rule i t s _ _ ⟨.int (g i),H,I.tok _,⟨_,rfl⟩,q⟩
theorem CQ:Gm X (unaryOp .USub) (rU λi=>.int (-i)):=GM λ_ _ _ _ _ q=>neg_int q
end
section
variable {X:Cx}{a b c:Expr}{ta tb tc:TE}{pos:Pos}
theorem qV:jD X (compareOp .Lt) (zP λi j=>.bl (decide (i<j))):=Dq λ_ _ _ _ _ _ _ q=>lt_int q
theorem u7:jD X (compareOp .Gt) (zP λi j=>.bl (decide (j<i))):=Dq λ_ _ _ _ _ _ _ q=>gt_int q
theorem DF:jD X (compareOp .GtE) (zP λi j=>.bl (decide (j<=i))):=Dq λ_ _ _ _ _ _ _ q=>ge_int q
theorem bG(b:Expr){op:CmpOp}(h:op≠ .In:=by decide)(h2:op≠ .NotIn:=by decide):behindInMarks op b=false:=by
 have e1:(op==CmpOp.In)=false:=by cases op<;>first|rfl|exact absurd rfl h
 have e2:(op==CmpOp.NotIn)=false:=by cases op<;>first|rfl|exact absurd rfl h2
 cases b<;>simp[behindInMarks,e1,e2]
theorem Ae {op:CmpOp}{r:R2}(ho:jD X (compareOp op) r)(ha:PE X a ta)(hb:PE X b tb)(hm:behindInMarks op b=false):PE X (.Compare a [op] [b] pos) (Dt r ta tb):=by
 intro aa s σ H Q I h;exact wpAny_Compare1 (CK ha hb I h λv u s2 x y H2 I2 rx ry q=>ho aa s2 σ H2 x y v u Q I2 rx ry q) hm
def EZ(t:TE):TT:=λσ H Q=>t σ H λx H'=> ∃k,x=.bl k/\Q k H'
theorem AW {op:CmpOp}{r:R2}(ho:jD X (compareOp op) r)(ha:PE X a ta)(hb:PE X b tb)(hm:behindInMarks op b=false):PT X (.Compare a [op] [b] pos) (EZ (Dt r ta tb)):=by
 intro aa s σ H Q I h;refine wpAny_isTrue_Compare1 (aZ (ha aa s σ H _ I h) λv s1 ⟨x,H1,I1,r1,q1⟩=>aZ (hb aa s1 σ H1 _ I1 q1) λu s2 ⟨y,H2,I2,r2,q2⟩=>
  aZ (ho aa s2 σ H2 x y v u _ I2 r1 r2 q2) λc s3 ⟨z,H3,I3,r3,k,e,q3⟩=>?_) hm
 subst e;cases r3
 exact wpAny_truthy_bool ⟨H3,I3,q3⟩
def Cz(K:W.Frag)(x:V)(H:Hp)(k:Bool):Prop:=
 match x with
 | .non=>k=false
 | .bl b=>k=b
 | .int i=>k=(i !=0)
 | .str y=>y.length<=sizeLine/\k=((y.length:Int) !=0)
 | .byt y=>y.size<=sizeLine/\k=((y.size:Int) !=0)
 | .ref p=>(∃xs,SqL K H p xs/\k= !xs.isEmpty)\/(∃xs,SqT K H p xs/\k= !xs.isEmpty)\/ ∃kvs,H p=some (.dK kvs)/\k= !kvs.isEmpty
 |_=>False
theorem sU {κ:Type}{kvs:List (κ×V)}{vs:List (κ×Value)}(r:KV kvs vs):(!vs.isEmpty)= !kvs.isEmpty:=by
 cases r<;>rfl
theorem ln {xs:List V}{its:List Value}(r:Vals xs its):(!its.toArray.isEmpty)= !xs.isEmpty:=by
 cases r<;>simp
theorem ke:(sizeLine:Nat)<2^63:=by rw[sizeLine_eq];decide
theorem CT:F7 X (λx H Q=> ∃k,Cz X.K x H k/\Q k H):=by
 intro aa s σ H x v Q I rx h;obtain⟨k,e,q⟩:=h
 have hl:=ke
 have hs:sizeLine=16777216:=sizeLine_eq
 cases x with
 |non=>
  cases rx
  have e':k=false:=e
  subst e';exact truthy_none ⟨H,I,q⟩
 |bl b=>
  cases rx
  have e':k=b:=e
  subst e';exact wpAny_truthy_bool ⟨H,I,q⟩
 |int i=>
  obtain⟨t,rfl⟩:=rx
  have e':k=(i !=0):=e
  subst e';exact PySem.P.truthy_int ⟨H,I,q⟩
 |str y=>
  obtain⟨t,rfl⟩:=rx
  obtain⟨hy,e'⟩:y.length<=sizeLine/\k=((y.length:Int) !=0):=e
  subst e';exact PySem.P.truthy_str (by omega) ⟨H,I.tok _,q⟩
 |byt y=>
  obtain⟨t,rfl⟩:=rx
  obtain⟨hy,e'⟩:y.size<=sizeLine/\k=((y.size:Int) !=0):=e
  subst e';exact W.truthy_bytes (by omega) ⟨H,I.tok _,q⟩
 |ref p=>
  cases rx
  have e':(∃xs,SqL X.K H p xs/\k= !xs.isEmpty)\/(∃xs,SqT X.K H p xs/\k= !xs.isEmpty)\/ ∃kvs,H p=some (.dK kvs)/\k= !kvs.isEmpty:=e
  rcases e' with⟨xs,hx,e'⟩|⟨xs,hx,e'⟩|⟨kvs,hx,e'⟩
  ·subst e'
   obtain⟨its,r,pl,hz⟩:=I.list hx
   have hlen:=r.length
   exact wpAny_truthy_list pl.isList (by simp only[List.size_toArray];omega) ⟨H,I.tok _,by rw[ln r];exact q⟩
  ·subst e'
   obtain⟨its,r,pl,hz⟩:=I.tuple hx
   have hlen:=r.length
   exact truthy_tuple pl (by simp only[List.size_toArray];omega) ⟨H,I.tok _,by rw[ln r];exact q⟩
  ·subst e'
   obtain⟨hz,hS,vs,r,m⟩:kvs.length<=sizeLine/\(p==sysModules)=false/\ ∃vs,KV kvs vs/\s.heap.DictOf (bi X.prog X.w) p vs:=I.hok p _ hx
   have hlen:kvs.length=vs.length:=Paired.length r
   exact wpAny_truthy_dict hS m (by omega) ⟨H,I.tok _,by rw[sU r];exact q⟩
 |_=>exact(show False from e).elim
theorem yO(ha:PE X a ta)(he: ∀whole,isTrue a X.env whole=(do let v <-whole;standAt a.pos;holding [v] (truthy v))):
 PT X a (λσ H Q=>ta σ H λx H'=> ∃k,Cz X.K x H' k/\Q k H'):=by
 intro aa s σ H Q I h;exact isTrue_plain (aZ (ha aa s σ H _ I h) λv s1 ⟨x,H1,I1,r1,q1⟩=>CT aa s1 σ H1 x v Q I1 r1 q1) (he _)
theorem dU {x:V}{us:List Value}(r:Vals [x] us): ∃u,us=[u]/\RelV x u:=by
 cases r with
 |cons r1 r2=>cases r2;exact⟨_,rfl,r1⟩
theorem xV {x y:V}{us:List Value}(r:Vals [x,y] us): ∃u w',us=[u,w']/\RelV x u/\RelV y w':=by
 cases r with
 |cons r1 r2=>
  cases r2 with
  |cons r3 r4=>cases r4;exact⟨_,_,rfl,r1,r3⟩
theorem yy:bU X (.builtin "abs") (λxs H Q=> ∃i,xs=[.int i]/\Q (.int (if i<0 then -i else i)) H):=by
 intro aa s σ H xs us Q I r h;obtain⟨i,rfl,q⟩:=h
 obtain⟨u,rfl,t,rfl⟩:=dU r
 exact call_abs_int λu tk=>⟨.int (if i<0 then -i else i),H,I.tok _,⟨_,rfl⟩,q⟩
theorem vD(hc:X.calm=true):bU X (.builtin "max") (λxs H Q=> ∃i j,xs=[.int i,.int j]/\Q (.int (if j>i then j else i)) H):=by
 intro aa s σ H xs us Q I r h;obtain⟨i,j,rfl,q⟩:=h
 obtain⟨u,w',rfl,⟨t,rfl⟩,⟨t',rfl⟩⟩:=xV r
 refine max_two_ints (I.ok.hd hc) λh' tk k=>⟨_,H,I.kept k,?_,q⟩
 by_cases hj:j>i
 ·rw[if_pos hj,if_pos hj];exact⟨_,rfl⟩
 ·rw[if_neg hj,if_neg hj];exact⟨_,rfl⟩
theorem nC(hc:X.calm=true):bU X (.builtin "min") (λxs H Q=> ∃i j,xs=[.int i,.int j]/\Q (.int (if j<i then j else i)) H):=by
 intro aa s σ H xs us Q I r h;obtain⟨i,j,rfl,q⟩:=h
 obtain⟨u,w',rfl,⟨t,rfl⟩,⟨t',rfl⟩⟩:=xV r
 refine min_two_ints (I.ok.hd hc) λh' tk k=>⟨_,H,I.kept k,?_,q⟩
 by_cases hj:j<i
 ·rw[if_pos hj,if_pos hj];exact⟨_,rfl⟩
 ·rw[if_neg hj,if_neg hj];exact⟨_,rfl⟩
end
theorem RelO.some_of {v:V}{o:Option Value}(r:RelO (some v) o): ∃u,o=some u/\RelV v u:=by
 cases o with
 |none=>exact(show False from r).elim
 |some u=>exact⟨u,rfl,r⟩
structure Room(k:Nat)(A:Around):Prop where
 hd:A.handled=none
 dp:A.depth+3*k+5<recursionLimit
 un:A.units+16*k+200<cLine
theorem Room.mono {j k:Nat}{A:Around}(r:Room k A)(h:j<=k):Room j A:=⟨r.hd,by have:=r.dp;omega,by have:=r.un;omega⟩
theorem Room.deeper {k:Nat}{A:Around}(r:Room (k+1) A)(env:Env):Room k (A.deeper env):=
 ⟨r.hd,by have:=r.dp;show A.depth+1+3*k+5<_;omega,by have:=r.un;show A.units+3+16*k+200<_;omega⟩
theorem Room.depth {k:Nat}{A:Around}(r:Room k A):A.depth<recursionLimit:=by have:=r.dp;omega
theorem Room.units {k:Nat}{A:Around}(r:Room k A):A.units+64<cLine:=by have:=r.un;omega
def CP:TA:=λ_ H Q=>Q [] H
def By(ta:TE)(tr:TA):TA:=λσ H Q=>ta σ H λx H1=>tr σ H1 λxs H2=>Q (x::xs) H2
section
variable {X:Cx}{e:Expr}{es:List Expr}{te:TE}{t:TA}{pos:Pos}
theorem bJ:PA X [] CP:=λ_ _ _ _ H Q I h=>Calls.spliced_nil ⟨[],H,I,.nil,h⟩
theorem a8(ha:PE X e te)(hr:PA X es t)(hs:starEach (e::es) X.env=(false,eval e X.env)::starEach es X.env:=by rfl):PA X (e::es) (By te t):=by
 intro pos aa s σ H Q I h;rw[hs];show wpAny _ _ (spliced ((false,eval e X.env)::backTo pos (starEach es X.env))) _ _ s;refine Calls.spliced_cons (aZ (ha aa s σ H _ I h) λu s1 hq_=>?_)
 obtain⟨x,H1,I1,r1,q1⟩:=hq_
 exact aZ (hr pos aa s1 σ H1 _ I1 q1) λus s2 ⟨xs,H2,I2,r2,q2⟩=>⟨x::xs,H2,I2,.cons r1 r2,q2⟩
def Ft(t:TA):TE:=λσ H Q=>t σ H λxs H1=>xs.length<=sizeLine/\ ∀p,H1 p=none->Q (.ref p) (aV H1 p (.tup xs))
def Fz(t:TA):TE:=λσ H Q=>t σ H λxs H1=>xs.length<=sizeLine/\ ∀p,H1 p=none->Q (.ref p) (aV H1 p (.lst xs))
theorem o6 {x1}(h:PA X es t):PE X (.Tuple es x1 pos) (Ft t):=by
 intro aa s σ H Q I hq;refine wpAny_Tuple_spliced (aZ (h pos aa s σ H _ I hq) λus s1 ⟨xs,H1,I1,r,z,q⟩=>⟨by rw[<-r.length];exact z,?_⟩)
 have hf:H1 s1.heap.objs.size=none:=I1.hok.fresh (Nat.le_refl _)
 refine⟨.ref s1.heap.objs.size,aV H1 s1.heap.objs.size (.tup xs),I1.laid (t':=s1.toks) (λb u e=>Heap.get?_push_of_some _ e) (Nat.le_refl _) ?_,rfl,q _ hf⟩
 exact⟨z,us,r,⟨_,Heap.get?_push_size _ rfl,rfl,_,rfl⟩,_,Heap.get?_push_size _ rfl,rfl⟩
theorem CS(h:PA X es t):PE X (.List es pos) (Fz t):=by
 intro aa s σ H Q I hq;refine wpAny_List_spliced (aZ (h pos aa s σ H _ I hq) λus s1 ⟨xs,H1,I1,r,z,q⟩=>⟨by rw[<-r.length];exact z,?_⟩)
 have hf:H1 s1.heap.objs.size=none:=I1.hok.fresh (Nat.le_refl _)
 refine⟨.ref s1.heap.objs.size,aV H1 s1.heap.objs.size (.lst xs),I1.laid (t':=s1.toks) (λb u e=>Heap.get?_push_of_some _ e) (Nat.le_refl _) ?_,rfl,q _ hf⟩
 exact⟨z,us,0,r,Heap.get?_push_size _ rfl⟩
end
abbrev Sp:=List V->Hp->VK->XK->Prop
abbrev xC:=List Env->Hp->Shared->XK->Value->Shared->Prop
structure Env0(P:Program)(w:World)(K:W.Frag)(mg:Str->Option Value)(base:Heap)(A:Around)(outer:List Env)(s:Shared)(H:Hp):Prop where
 frames:A.frames=some outer
 mod:Mod K mg base
 bs: ∀b o,base.get? b=some o->s.heap.get? b=some o/\H b=none
 bsz:base.objs.size<=s.heap.objs.size
 funs:s.heap.FunFrames base outer
 frf: ∀b∈frs outer,H b=none
 hok:HOk P w H s.heap
 bare:AllBare s.gens
def CE(outer:List Env)(P:Program)(w:World)(H:Hp)(s:Shared)(Q:VK)(u:Value)(s':Shared):Prop:=
 ∃v H',s'.os=s.os/\AllBare s'.gens/\Un (frs outer) [] H H' s.heap s'.heap/\HOk P w H' s'.heap/\RelV v u/\Q v H'
def CR(CX:xC)(outer:List Env)(P:Program)(w:World)(H:Hp)(s:Shared)(Q:VK)(E:XK)(r:Result)(s':Shared):Prop:=
 match r with
 | .ok (.ret u)=>CE outer P w H s Q u s'
 | .ok _=>False
 | .error e=>CX outer H s E e s'
structure FnOk(P:Program)(w:World)(K:W.Frag)(mg:Str->Option Value)(base:Heap)(CX:xC)(k:Nat)(f:Addr)(fd:FuncData)(ps:List Str)(sp:Sp):Prop where
 len: ∀vs H Q E,sp vs H Q E->vs.length=ps.length
 run: ∀(A:Around) (outer:List Env) (s:Shared) (H:Hp) (args:Args) (us:List Value) (vs:List V) (Q:VK) (E:XK),Room k A->Env0 P w K mg base A outer s H->BindsTo s fd args (ps.zip us)->Vals vs us->sp vs H Q E->
  codeAny (model P w) A (.call (.ref f) args) (CR CX outer P w H s Q E) s
theorem FnOk.imp {P:Program}{w:World}{K:W.Frag}{mg:Str->Option Value}{base:Heap}{CX:xC}{k:Nat}{f:Addr}{fd:FuncData}{ps:List Str}{sp sp':Sp}(F:FnOk P w K mg base CX k f fd ps sp)
 (h: ∀vs H Q E,sp' vs H Q E->sp vs H Q E):FnOk P w K mg base CX k f fd ps sp':=
 ⟨λvs H Q E q=>F.len vs H Q E (h _ _ _ _ q),λA outer s H args us vs Q E hr he hb hv hs=>F.run A outer s H args us vs Q E hr he hb hv (h _ _ _ _ hs)⟩
section
variable {X:Cx}{aa:List (Addr×Obj)}{σ:St}{H:Hp}{s s':Shared}
theorem Inv.env0(I:Inv X aa σ H s):Env0 X.prog X.w X.K X.mg X.base X.A X.stack s H:=
 ⟨I.ok.frames,I.ok.mod,I.bs,Nat.le_trans I.ok.bsz I.sz,I.stack,I.stkFree,I.hok,I.bare⟩
theorem Inv.after {Q:VK}{u:Value}(I:Inv X aa σ H s)(h:CE X.stack X.prog X.w H s Q u s'):EP X aa σ Q u s':=by
 obtain⟨v,H',os,bare,un,hok,r,q⟩:=h
 obtain⟨hh,g,d,t,os'⟩:=s'
 obtain rfl:os'=s.os:=os
 exact⟨v,H',I.call (h':=hh) (g':=g) (d':=d) (t':=t) (ch:=[]) un hok bare (λb z=>absurd z (by simp)),r,q⟩
end
def Et(sp:Sp)(dvs:List V)(E:XK)(t:TA):TE:=λσ H Q=>t σ H λvs H1=>sp (vs++dvs) H1 Q E
def Binds(K:W.Frag)(fd:FuncData)(ps:List Str)(ds:List Value):Prop:=
 ∀(s:Shared) (us:List Value),K.In s.heap->(us++ds).length=ps.length->BindsTo s fd ⟨us,[]⟩ (ps.zip (us++ds))
theorem Binds.all {K:W.Frag}{fd:FuncData}{ps:List Str}(h: ∀us:List Value,us.length=ps.length->bindArgs fd ⟨us,[]⟩=pure (ps.zip us)):Binds K fd ps []:=λs us _ hl=>by
 rw[List.append_nil] at hl⊢;exact .of_eq (h us hl)
def r8(CX:xC)(X:Cx)(E:XK):Prop:= ∀(aa:List (Addr×Obj)) (σ:St) (H:Hp) (s:Shared) (e:Value) (s':Shared),Inv X aa σ H s->CX X.stack H s E e s'->X.xe e s'
section
variable {X:Cx}{CX:xC}{k:Nat}{f C:Addr}{fd:FuncData}{ps:List Str}{sp:Sp}{dvs:List V}{ds:List Value}{E:XK}{x m:Str}{p pos apos:Pos}{e o:Expr}{es:List Expr}{ta:TE}{t:TA}
theorem Dp {aa:List (Addr×Obj)}{σ:St}{H:Hp}{s:Shared}{Q:VK}{us:List Value}{vs:List V}(F:FnOk X.prog X.w X.K X.mg X.base CX k f fd ps sp)(hr:Room k X.A)(hb:Binds X.K fd ps ds)(hd:Vals dvs ds)(hx:r8 CX X E)
 (I:Inv X aa σ H s) (r:Vals vs us) (h:sp (vs++dvs) H Q E):wpAny (model X.prog X.w) X.A (call (.ref f) us) (EP X aa σ Q) X.xe s:=by
 have r2:Vals (vs++dvs) (us++ds):=r.append hd
 have hl:(us++ds).length=ps.length:=by rw[<-r2.length];exact F.len _ _ _ _ h
 refine wpAny_call (codeAny_mono (F.run X.A X.stack s H ⟨us,[]⟩ (us++ds) (vs++dvs) Q E hr I.env0 (hb s us I.kIn hl) r2 h) λr s' hq=>?_)
 cases r with
 |error e=>exact hx aa σ H s e s' I hq
 |ok fl=>
  cases fl with
  |ret u=>exact I.after hq
  |next=>exact False.elim hq
  |brk=>exact False.elim hq
  |cont=>exact False.elim hq
theorem pD(F:FnOk X.prog X.w X.K X.mg X.base CX k f fd ps sp)(hr:Room k X.A)(hg:Gl X x)(hm:X.mg x=some (.ref f))(hk:W.keepIn X.K (.ref f)=true)(hb:Binds X.K fd ps ds)(hd:Vals dvs ds)(hx:r8 CX X E)
 (ha:PA X (e::es) t) (hdb:(x==("__debug__":Str))=false:=by decide) (he:starEach (e::es) X.env=(false,eval e X.env)::starEach es X.env:=by rfl) (hpl:(backTo pos (starEach es X.env)).any (·.1)=false:=by rfl):
 PE X (.Call (.Name x p) (e::es) [] pos) (Et sp dvs E t):=by
 intro aa s σ H Q I h;refine wpAny_Call_Name_kw (Bd I hg hm ?_ hdb)
 refine W.callWith_K (h₀:=X.base) I.ok.mod.kin hk (aZ (ha pos aa s σ H _ I h) λus s1 ⟨vs,H1,I1,r,q⟩=>⟨I1.kIn,?_⟩) he hpl
 exact Dp F hr hb hd hx I1 r q
end
structure FnScope(N P:List Str)(sc:Scope):Prop where
 kind:sc.kind=.function
 co:sc.isCoroutine=false
 gen:sc.isGenerator=false
 nd:N.Nodup
 pre:N.take P.length=P
 par: ∀x∈P,sc.names.lookup x=some .local\/sc.names.lookup x=some .cell
 nofree: ∀y∈sc.names,y.2≠ .free
theorem nB {kindOf:Str->Option NameKind}{x:Str}: ∀ {binds:List (Str×Value)} {m:Str->Option Value},(∀v,(x,v)∉binds)->bindL kindOf binds m x=m x
 | [],_,_=>rfl
 |(n,v)::r,m,h=>by
  unfold bindL;rw[nB λw hw=>h w (List.mem_cons_of_mem _ hw)]
  split
  ·have:x≠n:=by rintro rfl;exact h v List.mem_cons_self
   simp[this]
  ·rfl
theorem nY {kindOf:Str->Option NameKind}{x:Str}: ∀ {binds:List (Str×Value)} {m:Str->Option Value},(∀v,(x,v)∉binds)->bindC kindOf binds m x=m x
 | [],_,_=>rfl
 |(n,v)::r,m,h=>by
  unfold bindC;rw[nY λw hw=>h w (List.mem_cons_of_mem _ hw)]
  split
  ·rfl
  ·have:x≠n:=by rintro rfl;exact h v List.mem_cons_self
   simp[this]
theorem nP {kindOf:Str->Option NameKind}{x:Str}{v:Value}: ∀ {P:List Str} {vs:List Value} {i:Nat} {m:Str->Option Value},P.Nodup->P[i]? =some x->vs[i]? =some v->kindOf x=some .local->
 bindL kindOf (P.zip vs) m x=some v
 | [],_,_,_,_,h,_,_=>by simp at h
 |_::_,[],_,_,_,_,h,_=>by simp at h
 |p::P,w::vs,0,m,nd,h1,h2,hk=>by
  simp at h1 h2;subst h1;subst h2;show bindL kindOf ((p,w)::P.zip vs) m p=_;unfold bindL;rw[nB λv hv=>(List.nodup_cons.mp nd).1 (List.of_mem_zip hv).1,if_pos hk]
  simp
 |p::P,w::vs,i+1,m,nd,h1,h2,hk=>by
  show bindL kindOf ((p,w)::P.zip vs) m x=_;unfold bindL;exact nP (i:=i) (List.nodup_cons.mp nd).2 (by simpa using h1) (by simpa using h2) hk
theorem nX {kindOf:Str->Option NameKind}{x:Str}{v:Value}: ∀ {P:List Str} {vs:List Value} {i:Nat} {m:Str->Option Value},P.Nodup->P[i]? =some x->vs[i]? =some v->kindOf x≠some .local->
 bindC kindOf (P.zip vs) m x=some v
 | [],_,_,_,_,h,_,_=>by simp at h
 |_::_,[],_,_,_,_,h,_=>by simp at h
 |p::P,w::vs,0,m,nd,h1,h2,hk=>by
  simp at h1 h2;subst h1;subst h2;show bindC kindOf ((p,w)::P.zip vs) m p=_;unfold bindC;rw[nY λv hv=>(List.nodup_cons.mp nd).1 (List.of_mem_zip hv).1,if_neg hk]
  simp
 |p::P,w::vs,i+1,m,nd,h1,h2,hk=>by
  show bindC kindOf ((p,w)::P.zip vs) m x=_;unfold bindC;exact nX (i:=i) (List.nodup_cons.mp nd).2 (by simpa using h1) (by simpa using h2) hk
def fB(N:List Str)(vs:List V):St:=vs.map some++List.replicate (N.length-vs.length) none
def m9(CX:xC)(P:Program)(w:World)(K:W.Frag)(mg:Str->Option Value)(base:Heap)(N:List Str)(qual:Str)(scope:Scope)(f:Addr)(cd:Value)(A:Around)(outer:List Env)(s:Shared)(H:Hp)(E:XK):Cx where
 prog:=P
 w:=w
 K:=K
 mg:=mg
 base:=base
 A:=A.deeper (envOfC qual scope s.heap.objs.size f cd)
 N:=N
 s₀:=s
 H₀:=H
 env:=envOfC qual scope s.heap.objs.size f cd
 outer:=outer
 stack:=envOfC qual scope s.heap.objs.size f cd::outer
 ex:=[]
 calm:=true
 fn:=λ_=>true
 pn:=[]
 xe:=λe s'=>wpAny (model P w) (A.deeper (envOfC qual scope s.heap.objs.size f cd)) (leaving (envOfC qual scope s.heap.objs.size f cd) e) (λ_ s''=>CX outer H s E e s'') (λe' s''=>CX outer H s E e' s'') s'
theorem qJ {sc:Scope}{n:Nat}{x:Str}(h:sc.names.lookup x=some .cell): ∃c,(cellsFrom n sc.names []).lookup x=some c:=by
 have q:=W.cellsFrom_some sc.names n [] (.inl h)
 exact Option.isSome_iff_exists.mp q
theorem wJ {CX:xC}{P:Program}{w:World}{K:W.Frag}{mg:Str->Option Value}{base:Heap}{N ps:List Str}{qual:Str}{scope:Scope}{f:Addr}{cd:Value}{A:Around}{outer:List Env}{s s1:Shared}{H:Hp}{E:XK}{us:List Value}{vs:List V}
 (S:FnScope N ps scope) (hd:A.handled=none) (e0:Env0 P w K mg base A outer s H) (hl:vs.length=ps.length) (r:Vals vs us)
 (x:InCallC s s.heap.objs.size (bindL (envOfC qual scope s.heap.objs.size f cd).kindOf (ps.zip us) λ_=>none) (cellsFrom (s.heap.objs.size+1) scope.names []) (bindC (envOfC qual scope s.heap.objs.size f cd).kindOf (ps.zip us) λ_=>none) s1):
 Inv (m9 CX P w K mg base N qual scope f cd A outer s H E) [] (fB N vs) H s1:=by
 have hpl:ps.length<=N.length:=by have:=congrArg List.length S.pre;rw[List.length_take] at this;omega
 obtain⟨h1,tk,rfl,hk⟩:=x.done
 have noA: ∀b:Addr,b∉(m9 CX P w K mg base N qual scope f cd A outer s H E).ex:=λb z=>absurd (show b∈([]:List Addr) from z) (by simp)
 refine⟨⟨e0.mod,S.kind,rfl,rfl,Nat.le_refl _,λy z c h1 h2=>?_,λy hy=>?_,λy c _ h=>?_,λ_=>hd,Around.frames_deeper e0.frames,.inr ⟨rfl,rfl⟩,λb z=>absurd z (noA b),e0.bs,e0.bsz,λb _ _=>noA b,λb z=>absurd z (noA b),e0.funs,e0.frf⟩,
  rfl,e0.bare,Un.kept hk,⟨_,x.toInCall.ns,λi y v h1 h2 h3=>?_⟩,λy c h=>⟨_,x.cell y c h⟩,e0.hok.fresh (Nat.le_refl _),λy c h=>?_,λp hp=>absurd (show p∈([]:List (Addr×Obj)) from hp) (by simp),e0.hok.kept hk,?_⟩
 ·exact name_of_addr x.apart (PySem.mem_of_lookup h1) (PySem.mem_of_lookup h2)
 ·have hy:scope.names.lookup y=some .cell\/scope.names.lookup y=some .free:=hy
  rcases hy with hy|hy
  ·exact qJ hy
  ·exact absurd rfl (S.nofree _ (PySem.mem_of_lookup hy))
 ·exact Nat.le_of_lt (x.above y c (PySem.mem_of_lookup h))
 ·have hi:i<vs.length:=by
   unfold fB at h2
   by_cases hi:i<vs.length
   ·exact hi
   ·rw[List.getElem?_append_right (by simpa using hi)] at h2
    rw[List.getElem?_replicate] at h2;split at h2<;>cases h2
  have ha:vs[i]? =some v:=by
   unfold fB at h2;rw[List.getElem?_append_left (by simpa using hi),List.getElem?_map] at h2
   cases e:vs[i]? with
   |none=>rw[e] at h2;cases h2
   |some a=>rw[e] at h2;cases h2;rfl
  obtain⟨u,hu,rv⟩:=r.get ha
  have hp:ps[i]? =some y:=by
   rw[<-S.pre,List.getElem?_take_of_lt (by omega)];exact h1
  have ndP:ps.Nodup:=by rw[<-S.pre];exact S.nd.sublist (List.take_sublist _ _)
  refine⟨u,rv,?_⟩
  rcases S.par y (List.mem_of_getElem? hp) with k|k
  ·exact .inl ⟨k,nP ndP hp hu k⟩
  ·obtain⟨c,e⟩:=qJ (n:=s.heap.objs.size+1) k
   refine .inr ⟨.inl k,c,e,?_⟩
   have q:=x.cell y c e
   rw[nX ndP hp hu (by show scope.names.lookup y≠_;rw[k];decide)] at q
   exact q
 ·exact e0.hok.fresh (Nat.le_of_lt (x.above y c (PySem.mem_of_lookup h)))
 ·unfold fB
  show _=N.length;rw[List.length_append,List.length_map,List.length_replicate];omega
theorem DD {CX:xC}{P:Program}{w:World}{K:W.Frag}{mg:Str->Option Value}{base:Heap}{k:Nat}{f:Addr}{name qual:Str}{params:Arguments}{body:List Stmt}{scope:Scope}{dV kV doc pm cdv ct oc:Value}{an od:Option Addr}
 {osl:Array (Option Value)} {N ps:List Str} {sp:Sp} (lk:K.lookup f=some ⟨oc,od,.func (W.fnOf name qual params body scope dV kV doc pm an cdv ct),osl⟩) (hcd:W.codeIn K cdv qual=true) (S:FnScope N ps scope)
 (len: ∀vs H Q E,sp vs H Q E->vs.length=ps.length)
 (hbody: ∀(A:Around) (outer:List Env) (s:Shared) (H:Hp) (vs:List V) (Q:VK) (E:XK),Room k (A.deeper (envOfC qual scope s.heap.objs.size f cdv))->sp vs H Q E->
   ∃t,PSs (m9 CX P w K mg base N qual scope f cdv A outer s H E) body t/\t {nx:=λ_ H'=>Q .non H',rt:=Q} (fB N vs) H):
 FnOk P w K mg base CX (k+1) f (W.fnOf name qual params body scope dV kV doc pm an cdv ct) ps sp:=by
 refine⟨len,λA outer s H args us vs Q E hr e0 hb r hsp=>?_⟩
 have hl:=len _ _ _ _ hsp
 have KX:K.In s.heap:=e0.mod.kin.keeps λb o e=>(e0.bs b o e).1
 have lim:s.heap.NoLimit:=e0.mod.nolimit.keeps λb o e=>(e0.bs b o e).1
 have hkind: ∀y∈ps.zip us,scope.names.lookup y.1=some .local\/(scope.names.lookup y.1=some .cell/\((cellsFrom (s.heap.objs.size+1) scope.names []).lookup y.1).isSome=true):=λ⟨n,v⟩ hy=>by
  rcases S.par n (List.of_mem_zip hy).1 with q|q
  ·exact .inl q
  ·exact .inr ⟨q,W.cellsFrom_some _ _ _ (.inl q)⟩
 refine codeAny_call_function hr.depth (KX _ _ lk) rfl S.co S.gen rfl (W.codeRec_of KX hcd) (hb _ _ _ _ ?_)
 refine wpAny_newFunctionEnv_cells S.kind hkind λenv he s1 x=>?_
 subst he;refine⟨lim.keeps x.toInCall.keep,codeAny_func ?_⟩
 obtain⟨t,ht,hq⟩:=hbody A outer s H vs Q E (hr.deeper _) hsp
 have I:Inv (m9 CX P w K mg base N qual scope f cdv A outer s H E) [] (fB N vs) H s1:=wJ S hr.hd e0 hl r x
 refine wpAny_mono (ht [] s1 (fB N vs) H _ I hq) (λfl s' hs=>?_) λe s' hs=>hs
 have fin: ∀ {σ':St} {H':Hp} {v:V} {u:Value},Inv (m9 CX P w K mg base N qual scope f cdv A outer s H E) [] σ' H' s'->RelV v u->Q v H'->CE outer P w H s Q u s':=
  λ{σ' H' v u} J rv q=>⟨v,H',J.os,J.bare,J.base,J.hok,rv,q⟩
 cases fl with
 |ret u=>
  obtain⟨v,σ',H',J,rv,q⟩:=hs
  exact fin J rv q
 |next=>
  obtain⟨σ',H',J,q⟩:=hs
  exact fin (v:=V.non) (u:=Value.none) J rfl q
 |brk=>
  obtain⟨_,_,_,q⟩:=hs
  exact False.elim q
 |cont=>
  obtain⟨_,_,_,q⟩:=hs
  exact False.elim q
section
variable {X:Cx}{x:Str}{p pos:Pos}{e:Expr}{es:List Expr}{t:TA}{id T:String}{r:List V->Hp->VK->Prop}
def En(r:List V->Hp->VK->Prop)(t:TA):TE:=λσ H Q=>t σ H λvs H1=>r vs H1 Q
theorem fC(hc:bU X (.builtin id) r)(hg:Gl X x)(hm:X.mg x=none)(hv:bootBuiltins x=some (.builtin id))(ha:PA X (e::es) t)(hn:x≠"__name__":=by decide)(hdb:(x==("__debug__":Str))=false:=by decide)
 (he:starEach (e::es) X.env=(false,eval e X.env)::starEach es X.env:=by rfl) (hpl:(backTo pos (starEach es X.env)).any (·.1)=false:=by rfl):PE X (.Call (.Name x p) (e::es) [] pos) (En r t):=by
 intro aa s σ H Q I h;refine wpAny_Call_Name_kw (iD I hg hm hv ?_ hn hdb)
 exact PyProof.Rows.callWith_builtin1 (aZ (ha pos aa s σ H _ I h) λus s1 ⟨vs,H1,I1,r1,q1⟩=>hc aa s1 σ H1 vs us Q I1 r1 q1) he hpl
theorem fq(hc:bU X (.type T) r)(hg:Gl X x)(hm:X.mg x=none)(hv:bootBuiltins x=some (.type T))(ha:PA X (e::es) t)(hn:x≠"__name__":=by decide)(hdb:(x==("__debug__":Str))=false:=by decide)
 (he:starEach (e::es) X.env=(false,eval e X.env)::starEach es X.env:=by rfl) (hpl:(backTo pos (starEach es X.env)).any (·.1)=false:=by rfl):PE X (.Call (.Name x p) (e::es) [] pos) (En r t):=by
 intro aa s σ H Q I h;refine wpAny_Call_Name_kw (iD I hg hm hv ?_ hn hdb)
 exact PyProof.Rows.callWith_type1 (aZ (ha pos aa s σ H _ I h) λus s1 ⟨vs,H1,I1,r1,q1⟩=>hc aa s1 σ H1 vs us Q I1 r1 q1) he hpl
theorem sP(hc:bU X (.type T) r)(hg:Gl X x)(hm:X.mg x=none)(hv:bootBuiltins x=some (.type T))(hn:x≠"__name__":=by decide)(hdb:(x==("__debug__":Str))=false:=by decide):
 PE X (.Call (.Name x p) [] [] pos) (En r CP):=by
 intro aa s σ H Q I h;refine wpAny_Call_Name_kw (iD I hg hm hv ?_ hn hdb)
 exact PyProof.Rows.callWith_type0 (hc aa s σ H [] [] Q I .nil h)
end
end L2
namespace HT
open PySem PyProof.Rows
section
variable {prog:Program}{w:World}{A:Around}{E:Value->Shared->Prop}{s:Shared}
theorem cat_tup {t b:Addr}{vs ws:List Value}{Q:Value->Shared->Prop}(ht:IsTup s.heap t vs.toArray)(hb:IsTup s.heap b ws.toArray)(hv:vs≠[])
 (h1:ws=[]->Q (.ref t) s) (h2:ws≠[]->Q (.ref s.heap.objs.size) {s with heap:=s.heap.push {cls:=.type "tuple",data:=.seq (vs++ws).toArray}})
 (hsz:vs.length+ws.length<=sizeLine):wpAny (model prog w) A (binaryOp .Add (.ref t) (.ref b)) Q E s:=by
 obtain⟨⟨cls,dd,data,sl⟩,ho,hc,n,hd⟩:=id ht
 obtain⟨⟨cls2,dd2,data2,sl2⟩,ho2,hc2,n2,hd2⟩:=id hb
 simp only at hc hd hc2 hd2;subst hc hd hc2 hd2;have e:vs.toArray++ws.toArray=(vs++ws).toArray:=by simp
 by_cases hw:ws=[]
 ·exact concat_meets ⟨_,ho,rfl⟩ ⟨_,ho2,rfl⟩ noFill_tuple_add seq_tuple_add PySem.F.slot_tuple_add PySem.F.entry_tuple_add (PySem.F.args_tuple_add_2 _ _)
   (tuple_addW1 t b vs.toArray ws.toArray n n2 dd dd2 sl sl2 (by simpa using hv) (by simp[hw])) ⟨ho,ho2,h1 hw⟩
 ·refine concat_meets ⟨_,ho,rfl⟩ ⟨_,ho2,rfl⟩ noFill_tuple_add seq_tuple_add PySem.F.slot_tuple_add PySem.F.entry_tuple_add (PySem.F.args_tuple_add_2 _ _)
   (tuple_addW2 t b vs.toArray ws.toArray n n2 dd dd2 sl sl2 (by simpa using hv) (by simpa using hw) (by rw[List.size_toArray,List.size_toArray];exact hsz)) ⟨ho,ho2,?_⟩
  rw[e];exact h2 hw
def sIx(n d:Nat):Option Int->Nat
 |none=>d
 |some v=>if v<0 then(v+(n:Int)).toNat else min v.toNat n
end
end HT
namespace L2
open PySem PySem.Spec PyProof.Rows
abbrev TO:=St->Hp->(Option Int->Hp->Prop)->Prop
def PO(X:Cx)(e:Option Expr)(t:TO):Prop:=
 ∀(aa:List (Addr×Obj)) (s:Shared) (σ:St) (H:Hp) (Q:Option Int->Hp->Prop),Inv X aa σ H s->t σ H Q->
  wpAny (model X.prog X.w) X.A (evalPart e X.env) (λu s'=> ∃o H',Inv X aa σ H' s'/\IsPart u o/\Q o H') X.xe s
def AB:TO:=λ_ H Q=>Q none H
def EA(t:TE):TO:=λσ H Q=>t σ H λx H1=> ∃i,x=.int i/\Q (some i) H1
theorem tE {ns:List Int}: ∀ {us:List Value},Vals (ns.map V.int) us->IntsAre us ns:=by
 induction ns with
 |nil=>intro us r;rw[List.map_nil] at r;cases r;exact .nil
 |cons n ns ih=>
  intro us r;rw[List.map_cons] at r;cases r with
  |cons r1 r2=>
   obtain⟨t,e⟩:=r1
   subst e;exact .cons n t (ih r2)
section
variable {X:Cx}{e:Expr}{te:TE}{lo hi:Option Expr}{tl th:TO}{pos p2:Pos}
theorem A6:PO X none AB:=by
 intro aa s σ H Q I h;rw[evalPart_none];exact wpAny_pure ⟨none,H,I,.none,h⟩
theorem zI(h:PE X e te):PO X (some e) (EA te):=by
 intro aa s σ H Q I hw;rw[evalPart_some];refine aZ (h aa s σ H _ I hw) λu s1 hq_=>?_
 obtain⟨x,H1,I1,r1,q1⟩:=hq_
 obtain⟨i,rfl,q⟩:=q1
 obtain⟨t,rfl⟩:=r1
 exact⟨some i,H1,I1,.int i t,q⟩
def GI(X:Cx)(r:V->Option Int->Option Int->Hp->VK->Prop):Prop:=
 ∀(aa:List (Addr×Obj)) (s:Shared) (σ:St) (H:Hp) (x:V) (v vl vu:Value) (lo hi:Option Int) (sl:Addr) (Q:VK),Inv X aa σ H s->RelV x v->s.heap.IsSliceOf sl vl vu .none->IsPart vl lo->IsPart vu hi->r x lo hi H Q->
  ∃T id,typeLookup (.type T) "__getitem__"=pure (some (.builtin id))/\s.TypeIs v T/\wpAny (model X.prog X.w) X.A (getItem v (.ref sl)) (EP X aa σ Q) X.xe s
def GR(r:V->Option Int->Option Int->Hp->VK->Prop)(te:TE)(tl th:TO):TE:=λσ H Q=>te σ H λx H1=>tl σ H1 λl H2=>th σ H2 λu H3=>r x l u H3 Q
theorem wX {r:V->Option Int->Option Int->Hp->VK->Prop}(hr:GI X r)(he:PE X e te)(hl:PO X lo tl)(hu:PO X hi th):PE X (.Subscript e (.Slice lo hi none p2) pos) (GR r te tl th):=by
 intro aa s σ H Q I h;refine Subscript_ (aZ (he aa s σ H _ I h) λv s1 hq_=>?_)
 obtain⟨x,H1,I1,r1,q1⟩:=hq_
 refine wpAny_Slice (aZ (hl aa s1 σ H1 _ I1 q1) λvl s2 ⟨l,H2,I2,pl,q2⟩=>aZ (hu aa s2 σ H2 _ I2 q2) λvu s3 hq_=>?_)
 obtain⟨u,H3,I3,pu,q3⟩:=hq_
 rw[evalPart_none];refine wpAny_pure ?_
 have I4:Inv X aa σ H3 {s3 with heap:=s3.heap.push {cls:=.type "slice",data:=.fields #[vl,vu,.none]}}:=I3.kept (t':=s3.toks) λb ob q=>Heap.get?_push_of_some _ q
 obtain⟨T,id,hT,ht,hg⟩:=hr aa {s3 with heap:=s3.heap.push {cls:=.type "slice",data:=.fields #[vl,vu,.none]}} σ H3 x v vl vu l u s3.heap.objs.size Q I4 r1 (Heap.IsSliceOf.new ..) pl pu q3
 show wpAny (model X.prog X.w) X.A (subscriptTail e (.Slice lo hi none p2) v (.ref s3.heap.objs.size)) (EP X aa σ Q) X.xe {s3 with heap:=s3.heap.push {cls:=.type "slice",data:=.fields #[vl,vu,.none]}}
 exact tail_any (ops:=[.ref s3.heap.objs.size,v]) ht hT hg (by with_unfolding_all rfl)
def v0(xs:List V)(lo hi:Option Int):List V:=(xs.drop (HT.sIx xs.length 0 lo)).take (HT.sIx xs.length xs.length hi-HT.sIx xs.length 0 lo)
theorem qx(xs:List V)(lo hi:Option Int):(v0 xs lo hi).length<=xs.length:=by
 unfold v0;rw[List.length_take,List.length_drop];omega
def EC(K:W.Frag):R2:=λx y H Q=> ∃a b xs ys,x=.ref a/\y=.ref b/\SqT K H a xs/\SqT K H b ys/\xs≠[]/\xs.length+ys.length<=sizeLine/\
 (ys=[]->Q (.ref a) H)/\(ys≠[]-> ∀p,H p=none->Q (.ref p) (aV H p (.tup (xs++ys))))
theorem Vals.nil_iff {xs:List V}{us:List Value}(r:Vals xs us):us=[]↔xs=[]:=by
 cases r with
 |nil=>simp
 |cons _ _=>simp
theorem AT:jD X (binaryOp .Add) (EC X.K):=by
 intro aa s σ H x y v u Q I rx ry h;obtain⟨a,b,xs,ys,rfl,rfl,ha,hb,hx,hz,q1,q2⟩:=h
 cases rx
 cases ry
 obtain⟨its,r1,p1,_⟩:=I.tuple ha
 obtain⟨its2,r2,p2,_⟩:=I.tuple hb
 refine HT.cat_tup p1 p2 (λz=>hx (r1.nil_iff.mp z)) (λz=>⟨.ref a,H,I,rfl,q1 (r2.nil_iff.mp z)⟩) (λz=>?_) (by rw[<-r1.length,<-r2.length];exact hz)
 refine⟨.ref s.heap.objs.size,_,I.laid (t':=s.toks) (o:=.tup (xs++ys)) (λb ob q=>Heap.get?_push_of_some _ q) (Nat.le_refl _) ?_,rfl,q2 (λw=>z (r2.nil_iff.mpr w)) _ (I.hok.fresh (Nat.le_refl _))⟩
 exact⟨by rw[List.length_append];exact hz,_,r1.append r2,IsTup.new _ _,_,Heap.get?_push_size _ rfl,rfl⟩
end
def wP(n:Nat)(i:Int):Option Nat:=if 0<=i then(if i<n then some i.toNat else none) else if -(n:Int)<=i then some (i+n).toNat else none
def qP {α:Type}(xs:List α)(i:Int):Option α:=(wP xs.length i).bind λj=>xs[j]?
theorem uM {n:Nat}{i:Int}{j:Nat}(h:wP n i=some j):seqIndex? i n=some j/\j<n/\ -(n:Int)<=i/\i<n:=by
 unfold wP at h
 by_cases h0:0<=i
 ·rw[if_pos h0] at h
  by_cases h1:i<n
  ·rw[if_pos h1] at h
   have e:i.toNat=j:=Option.some.inj h
   exact⟨by rw[seqIndex_of h0 h1,e],by omega,by omega,h1⟩
  ·rw[if_neg h1] at h;cases h
 ·rw[if_neg h0] at h
  by_cases h1: -(n:Int)<=i
  ·rw[if_pos h1] at h
   have e:(i+n).toNat=j:=Option.some.inj h
   exact⟨by rw[seqIndex_neg (by omega) h1,e],by omega,h1,by omega⟩
  ·rw[if_neg h1] at h;cases h
theorem oW {α:Type}{xs:List α}{i:Int}{v:α}(h:qP xs i=some v): ∃j,seqIndex? i xs.length=some j/\xs[j]? =some v/\j<xs.length/\ -(xs.length:Int)<=i/\i<xs.length:=by
 unfold qP at h;cases e:wP xs.length i with
 |none=>rw[e] at h;cases h
 |some j=>
  rw[e] at h;obtain⟨h1,h2,h3,h4⟩:=uM e
  exact⟨j,h1,h,h2,h3,h4⟩
def oC(b:Expr):Prop:= ∀o i,subscripted b false o i=operate [o,i] (getItem o i)
def IxR(X:Cx)(r:R2):Prop:=
 ∀(value slice:Expr) (aa:List (Addr×Obj)) (s:Shared) (σ:St) (H:Hp) (x y:V) (v u:Value) (Q:VK),Inv X aa σ H s->RelV x v->RelV y u->r x y H Q->
  subscripted slice false v u=operate [v,u] (getItem v u)->wpAny (model X.prog X.w) X.A (subscriptTail value slice v u) (EP X aa σ Q) X.xe s
def E6(X:Cx)(id:String)(r:V->List V->Hp->VK->Prop):Prop:=
 ∀(aa:List (Addr×Obj)) (s:Shared) (σ:St) (H:Hp) (x:V) (xs:List V) (v:Value) (us:List Value) (Q:VK),Inv X aa σ H s->RelV x v->Vals xs us->r x xs H Q->
  wpAny (model X.prog X.w) X.A (call (.builtin id) (v::us)) (EP X aa σ Q) X.xe s
section
variable {X:Cx}{a b:Expr}{ta tb:TE}{pos:Pos}
theorem IxR.or {r r':R2}(h:IxR X r)(h':IxR X r'):IxR X (λx y H Q=>r x y H Q\/r' x y H Q):=by
 intro value slice aa s σ H x y v u Q I rx ry q hs;rcases q with q|q
 ·exact h value slice aa s σ H x y v u Q I rx ry q hs
 ·exact h' value slice aa s σ H x y v u Q I rx ry q hs
theorem BE {r:R2}(hr:IxR X r)(ha:PE X a ta)(hb:PE X b tb)(hs:oC b):PE X (.Subscript a b pos) (Dt r ta tb):=by
 intro aa s σ H Q I h;exact Subscript_ (CK ha hb I h λv u s2 x y H2 I2 rx ry q=>hr a b aa s2 σ H2 x y v u Q I2 rx ry q (hs _ _))
def D6(K:W.Frag):R2:=λx y H Q=> ∃p xs i v,x=.ref p/\y=.int i/\SqL K H p xs/\qP xs i=some v/\Q v H
def DJ(K:W.Frag):R2:=λx y H Q=> ∃p xs i v,x=.ref p/\y=.int i/\SqT K H p xs/\qP xs i=some v/\Q v H
def D1:R2:=λx y H Q=> ∃z i c,x=.str z/\y=.int i/\z.length<=sizeLine/\qP z.cps.toList i=some c/\Q (.str ⟨#[c]⟩) H
theorem ix_list:IxR X (D6 X.K):=by
 intro value slice aa s σ H x y v u Q I rx ry h hs;obtain⟨p,xs,i,z,rfl,rfl,hq,he,q⟩:=h
 cases rx
 obtain⟨t,rfl⟩:=ry
 obtain⟨its,r,pl,hz⟩:=I.list hq
 obtain⟨j,h1,h2,h3,h4,h5⟩:=oW he
 obtain⟨w,ew,rw'⟩:=r.get h2
 have hl:=r.length
 have hn:=ke
 have fin:EP X aa σ Q w s:=⟨z,H,I,rw',q⟩
 by_cases h0:0<=i
 ·have hj:i.toNat=j:=by
   rw[seqIndex_of h0 h5] at h1;exact Option.some.inj h1
  exact item_listR pl.isList h0 (by omega) (by rw[hj];simpa using ew) fin hs
 ·have hj:(i+(its.toArray.size:Int)).toNat=j:=by
   rw[seqIndex_neg (by omega) h4] at h1
   rw[List.size_toArray,<-hl];exact Option.some.inj h1
  exact subscriptTail_builtinR (x:=w) pl.isList.typeIs slot_list_getitem.lookup
   (wpAny_getItem_list_neg (Q:=λr s'=>r=w/\EP X aa σ Q r s') pl.isList (by omega) (by rw[List.size_toArray]<;>omega) (by omega) (by rw[hj];simpa using ew) ⟨rfl,fin⟩) hs
theorem ix_tup:IxR X (DJ X.K):=by
 intro value slice aa s σ H x y v u Q I rx ry h hs;obtain⟨p,xs,i,z,rfl,rfl,hq,he,q⟩:=h
 cases rx
 obtain⟨t,rfl⟩:=ry
 obtain⟨its,r,pl,hz⟩:=I.tuple hq
 obtain⟨j,h1,h2,h3,h4,h5⟩:=oW he
 obtain⟨w,ew,rw'⟩:=r.get h2
 have hl:=r.length
 have hn:=ke
 have fin:EP X aa σ Q w s:=⟨z,H,I,rw',q⟩
 exact subscriptTail_builtinR (x:=w) pl.typeIs slot_tuple_getitem.lookup
  (getItem_tuple (j:=j) (Q:=λr s'=>r=w/\EP X aa σ Q r s') pl (by omega) (by omega) (by rw[List.size_toArray,<-hl];exact h1) (by simpa using ew) ⟨rfl,fin⟩) hs
theorem BI:IxR X D1:=by
 intro value slice aa s σ H x y v u Q I rx ry h hs;obtain⟨z,i,c,rfl,rfl,hz,he,q⟩:=h
 obtain⟨t,rfl⟩:=rx
 obtain⟨t',rfl⟩:=ry
 obtain⟨j,h1,h2,h3,h4,h5⟩:=oW he
 have hl:z.cps.toList.length=z.length:=by simp[Str.length]
 rw[hl] at h1 h4 h5;have hn:=ke
 exact tail_any (typeIs_str s z t) slot_str_getitem.lookup (getItem_str (c:=c) (by
  have e1:decide (i< -(2^63:Int))=false:=decide_eq_false (by omega)
  have e2:decide (i≥2^63)=false:=decide_eq_false (by omega)
  rw[e1,e2,Bool.or_false]) (by rw[h1];simpa using h2) ⟨.str ⟨#[c]⟩,H,I.tok _,⟨_,rfl⟩,q⟩) hs
def FZ(K:W.Frag):R2:=λx y H Q=>D6 K x y H Q\/DJ K x y H Q\/D1 x y H Q
theorem aQ:IxR X (FZ X.K):=ix_list.or (ix_tup.or BI)
theorem sS(its:List Value)(n j:Nat)(u:Value):Obj.mapSeq (·.setIfInBounds j u) {cls:=.type "list",data:=.seq its.toArray n}={cls:=.type "list",data:=.seq (its.set j u).toArray n}:=by
 simp[Obj.mapSeq]
theorem Inv.lst {aa:List (Addr×Obj)}{σ:St}{H:Hp}{s:Shared}{p:Addr}{xs:List V}(I:Inv X aa σ H s)(h:H p=some (.lst xs)):
 ∃(its:List Value) (n:Nat),Vals xs its/\s.heap.get? p=some {cls:=.type "list",data:=.seq its.toArray n}/\xs.length<=sizeLine:=by
 obtain⟨z,its,n,r,e⟩:=I.hok p _ h
 exact⟨its,n,r,e,z⟩
theorem Inv.lstUpd {aa:List (Addr×Obj)}{σ:St}{H:Hp}{s:Shared}{p:Addr}{xs ys:List V}{its its':List Value}{n n':Nat}{f:Obj->Obj}(I:Inv X aa σ H s)(h:H p=some (.lst xs))
 (ho:s.heap.get? p=some {cls:=.type "list",data:=.seq its.toArray n}) (hf:f {cls:=.type "list",data:=.seq its.toArray n}={cls:=.type "list",data:=.seq its'.toArray n'}) (r:Vals ys its') (hz:ys.length<=sizeLine) (t:Nat):
 Inv X aa σ (aV H p (.lst ys)) {s with heap:=s.heap.update p f,toks:=t}:=by
 have e:(s.heap.update p f).get? p=some {cls:=.type "list",data:=.seq its'.toArray n'}:=by
  rw[Heap.get?_update_self f ho (by rw[hf]<;>rfl),hf]
 refine I.write (x:=p) (e:=p) (by rw[h];trivial) (.inl rfl) (λb u hb q=>(Heap.get?_update_other _ _ (Ne.symm hb)).trans q) ⟨_,e⟩ ?_
 exact⟨hz,its',n',r,e⟩
def Ea:V->V->V->Hp->(Hp->Prop)->Prop:=λo i v H Q=> ∃p xs k j,o=.ref p/\i=.int k/\H p=some (.lst xs)/\wP xs.length k=some j/\Q (aV H p (.lst (xs.set j v)))
theorem yQ:Ef X Ea:=by
 intro aa s σ H o i v ov iv u Q I ro ri rv h;obtain⟨p,xs,k,j,rfl,rfl,hp,hj,q⟩:=h
 cases ro
 obtain⟨t,rfl⟩:=ri
 obtain⟨its,n,r,ho,hz⟩:=I.lst hp
 obtain⟨h1,h2,h3,h4⟩:=uM hj
 have hl:=r.length
 have hn:=ke
 have I':Inv X aa σ (aV H p (.lst (xs.set j v))) {s with heap:=s.heap.update p (Obj.mapSeq (·.setIfInBounds j u))}:=
  I.lstUpd hp ho (sS its n j u) (r.set rv j) (by rw[List.length_set];exact hz) s.toks
 by_cases h0:0<=k
 ·have hk:k.toNat=j:=by
   rw[seqIndex_of h0 h4] at h1;exact Option.some.inj h1
  exact W.ki_setAt ho h0 (by omega) (by rw[List.size_toArray,<-hl];exact h4) (by rw[hk];exact⟨_,I',q⟩)
 ·have hk:(k+(its.toArray.size:Int)).toNat=j:=by
   rw[seqIndex_neg (by omega) h3] at h1
   rw[List.size_toArray,<-hl];exact Option.some.inj h1
  exact W.ki_setBack ho (by omega) (by rw[List.size_toArray,<-hl];exact h3) (by omega) (by rw[hk];exact⟨_,I',q⟩)
theorem oH(lo hi:Option Int)(n:Nat):(sliceBounds lo hi none n).1=((HT.sIx n 0 lo:Nat):Int)/\(sliceBounds lo hi none n).2.1=((HT.sIx n n hi:Nat):Int)/\(sliceBounds lo hi none n).2.2=1:=by
 refine⟨?_,?_,rfl⟩
 ·cases lo with
  |none=>simp[sliceBounds,HT.sIx]
  |some i=>
   simp only[sliceBounds,HT.sIx,Option.getD_none,show(1:Int)>0 by decide,if_true]
   by_cases h:i<0
   ·simp only[h,if_true]<;>omega
   ·simp only[h,if_false]<;>omega
 ·cases hi with
  |none=>simp[sliceBounds,HT.sIx]
  |some i=>
   simp only[sliceBounds,HT.sIx,Option.getD_none,show(1:Int)>0 by decide,if_true]
   by_cases h:i<0
   ·simp only[h,if_true]<;>omega
   ·simp only[h,if_false]<;>omega
theorem mR(its:List Value)(lo hi:Option Int):slicePick its.toArray lo hi none=((its.drop (HT.sIx its.length 0 lo)).take (HT.sIx its.length its.length hi-HT.sIx its.length 0 lo)).toArray:=by
 obtain⟨h1,h2,h3⟩:=oH lo hi its.toArray.size
 unfold slicePick;rw[h1,h2,h3];simp only[sliceRange_one,pick_run,List.size_toArray]<;>rfl
def Gf(K:W.Frag):V->Option Int->Option Int->Hp->VK->Prop:=λx lo hi H Q=> ∃a xs,x=.ref a/\SqL K H a xs/\ ∀p,H p=none->Q (.ref p) (aV H p (.lst (v0 xs lo hi)))
theorem zW:GI X (Gf X.K):=by
 intro aa s σ H x v vl vu lo hi sl Q I rx hs pl pu h;obtain⟨a,xs,rfl,hx,q⟩:=h
 cases rx
 obtain⟨its,r,ht,hz⟩:=I.list hx
 have hlen:=r.length
 refine⟨"list",_,slot_list_getitem.lookup,ht.isList.typeIs,?_⟩
 refine wpAny_getItem_list_slice ht.isList hs pl pu .none (by simp) ?_ (by rw[List.size_toArray]<;>omega)
 rw[mR,<-hlen];refine⟨.ref s.heap.objs.size,_,I.laid (t':=s.toks) (o:=.lst (v0 xs lo hi)) (λb ob q=>Heap.get?_push_of_some _ q) (Nat.le_refl _) ?_,rfl,q _ (I.hok.fresh (Nat.le_refl _))⟩
 exact⟨Nat.le_trans (qx xs lo hi) hz,_,0,(r.drop (HT.sIx xs.length 0 lo)).take (HT.sIx xs.length xs.length hi-HT.sIx xs.length 0 lo),Heap.get?_push_size _ rfl⟩
theorem aK:bU X (.builtin "len") (λxs H Q=> ∃p ys,xs=[.ref p]/\(SqL X.K H p ys\/SqT X.K H p ys)/\Q (.int ys.length) H):=by
 intro aa s σ H xs us Q I r h;obtain⟨p,ys,rfl,hq,q⟩:=h
 obtain⟨u,rfl,rx⟩:=dU r
 cases rx
 have hn:=ke
 rcases hq with hq|hq
 ·obtain⟨its,r',pl,hz⟩:=I.list hq
  have hlen:=r'.length
  exact Calls.call_len_list pl.isList (by simp only[List.size_toArray]<;>omega) ⟨.int ys.length,H,I.tok _,⟨s.toks+1,by rw[List.size_toArray,hlen]⟩,q⟩
 ·obtain⟨its,r',pl,hz⟩:=I.tuple hq
  have hlen:=r'.length
  exact len_tuple pl (by simp only[List.size_toArray]<;>omega) ⟨.int ys.length,H,I.tok _,⟨s.toks+1,by rw[List.size_toArray,hlen]⟩,q⟩
theorem js:bU X (.type "list") (λxs H Q=> ∃p ys,xs=[.ref p]/\(SqL X.K H p ys\/SqT X.K H p ys)/\ ∀l,H l=none->Q (.ref l) (aV H l (.lst ys))):=by
 intro aa s σ H xs us Q I r h;obtain⟨p,ys,rfl,hq,q⟩:=h
 obtain⟨u,rfl,rx⟩:=dU r
 cases rx
 have fin: ∀(its:List Value),Vals ys its->ys.length<=sizeLine-> ∀(h':Heap) (c':Nat),(∀b o',s.heap.get? b=some o'->h'.get? b=some o')->
  h'.get? s.heap.objs.size=some {cls:=.type "list",dict:=none,data:=.seq its.toArray c',slots:= #[]}->EP X aa σ Q (.ref s.heap.objs.size) {s with heap:=h'}:=λits r' hz h' c' kp e=>
  ⟨.ref s.heap.objs.size,_,I.laid (t':=s.toks) kp (Nat.le_refl _) (show ObjOk X.prog X.w _ h' _ (.lst ys) from⟨hz,its,c',r',e⟩),rfl,q _ (I.hok.fresh (Nat.le_refl _))⟩
 rcases hq with hq|hq
 ·obtain⟨its,r',pl,hz⟩:=I.list hq
  have hlen:=r'.length
  obtain⟨o,ho,hc,n,hd⟩:=pl.isList
  exact call_list_seq p (.inl rfl) ho hc hd (λh' c' kp e=>fin its r' hz h' c' kp e) (by simp only[List.size_toArray]<;>omega)
 ·obtain⟨its,r',pl,hz⟩:=I.tuple hq
  have hlen:=r'.length
  obtain⟨o,ho,hc,n,hd⟩:=pl
  exact call_list_seq p (.inr rfl) ho hc hd (λh' c' kp e=>fin its r' hz h' c' kp e) (by simp only[List.size_toArray]<;>omega)
theorem mY:bU X (.type "tuple") (λxs H Q=> ∃p ys,xs=[.ref p]/\((SqL X.K H p ys/\ ∀l,H l=none->Q (.ref l) (aV H l (.tup ys)))\/(SqT X.K H p ys/\Q (.ref p) H))):=by
 intro aa s σ H xs us Q I r h;obtain⟨p,ys,rfl,h⟩:=h
 obtain⟨u,rfl,rx⟩:=dU r
 cases rx
 rcases h with⟨hq,q⟩|⟨hq,q⟩
 ·obtain⟨its,r',pl,hz⟩:=I.list hq
  have hlen:=r'.length
  refine call_tuple_list pl.isList (λh' kp=>?_) (by simp only[List.size_toArray]<;>omega)
  have I1:Inv X aa σ H {s with heap:=h'}:=I.kept (t':=s.toks) kp
  have I2:Inv X aa σ (aV H h'.objs.size (.tup ys)) {s with heap:=h'.push {cls:=.type "tuple",data:=.seq its.toArray}}:=
   I1.laid (t':=s.toks) (λb o e=>Heap.get?_push_of_some _ e) (Nat.le_refl _) (show ObjOk X.prog X.w _ _ _ (.tup ys) from⟨hz,its,r',IsTup.new _ _,_,Heap.get?_push_size _ rfl,rfl⟩)
  exact⟨.ref h'.objs.size,_,I2,rfl,q _ (I1.hok.fresh (Nat.le_refl _))⟩
 ·obtain⟨its,r',pl,hz⟩:=I.tuple hq
  exact call_tuple_same pl ⟨.ref p,H,I,rfl,q⟩
def GH(K:W.Frag)(T:String)(x:V)(H:Hp):Prop:=match x with
 | .str _=>T="str"
 | .int _=>T="int"
 | .ref p=>(T="list"/\ ∃xs,SqL K H p xs)\/(T="tuple"/\ ∃xs,SqT K H p xs)\/
    (T="dict"/\((∃kvs,H p=some (.dK kvs))\/ ∃kvs,H p=some (.dT kvs)))\/(T="set"/\ ∃S n,H p=some (.set S n))\/(T="set"/\ ∃xs,H p=some (.tst xs))
 |_=>False
theorem CF {aa:List (Addr×Obj)}{σ:St}{H:Hp}{s:Shared}{T:String}{x:V}{v:Value}(I:Inv X aa σ H s)(r:RelV x v)(ty:GH X.K T x H):
 s.TypeIs v T/\ ∀a,v=.ref a-> ∃ob,s.heap.get? a=some ob/\ob.dict=none:=by
 cases x with
 |str z=>
  obtain⟨t,rfl⟩:=r
  cases (show T="str" from ty)
  exact⟨typeIs_str s z t,λ_ e=>nomatch e⟩
 |int i=>
  obtain⟨t,rfl⟩:=r
  cases (show T="int" from ty)
  exact⟨typeIs_int s i t,λ_ e=>nomatch e⟩
 |ref p=>
  cases r
  rcases ty with⟨rfl,xs,hq⟩|⟨rfl,xs,hq⟩|⟨rfl,hk⟩|⟨rfl,S,n,hk⟩|⟨rfl,xs,hk⟩
  ·obtain⟨its,_,pl,_⟩:=I.list hq
   refine⟨pl.isList.typeIs,λa e=>?_⟩
   cases e
   obtain⟨o,n,e,c,hd,_⟩:=pl
   exact⟨o,e,hd⟩
  ·obtain⟨⟨ob,ho,hc⟩,o2,h2,hd⟩:=I.tupleN hq
   refine⟨⟨ob,ho,hc⟩,λa e=>?_⟩
   cases e
   exact⟨o2,h2,hd⟩
  ·have z: ∃o,s.heap.get? p=some o/\o.ExactDict:=by
    rcases hk with⟨kvs,hk⟩|⟨kvs,hk⟩
    ·obtain⟨_,_,_,_,o,_,_,e,ex,_⟩:=I.hok p _ hk
     exact⟨o,e,ex⟩
    ·obtain⟨_,_,_,_,o,_,_,e,ex,_⟩:=I.hok p _ hk
     exact⟨o,e,ex⟩
   obtain⟨o,e,ex⟩:=z
   refine⟨⟨o,e,ex.1⟩,λa e2=>?_⟩
   cases e2
   exact⟨o,e,ex.2.1⟩
  ·obtain⟨o,_,_,_,e,ex,_⟩:=I.hok p _ hk
   refine⟨⟨o,e,ex.1⟩,λa e2=>?_⟩
   cases e2
   exact⟨o,e,ex.2.1⟩
  ·obtain⟨o,_,_,_,e,ex⟩:=I.hok p _ hk
   refine⟨⟨o,e,ex.ex.1⟩,λa e2=>?_⟩
   cases e2
   exact⟨o,e,ex.ex.2.1⟩
 |_=>exact False.elim ty
def GU(K:W.Frag)(T:String)(r:V->List V->Hp->VK->Prop)(to:TE)(t:TA):TE:=λσ H Q=>to σ H λx H1=>GH K T x H1/\t σ H1 λxs H2=>r x xs H2 Q
variable {o e:Expr}{es:List Expr}{to:TE}{t:TA}{name:Str}{apos cpos:Pos}{T id:String}{r:V->List V->Hp->VK->Prop}
theorem qX(pa:PlainAttrs T)(slot:Slot T name id)(hty:typeOf (.builtin id)=pure (.type "method_descriptor"))(hm:E6 X id r)(ho:PE X o to)(ha:PA X (e::es) t)
 (hbase:attributeBase o name X.env (eval o X.env)=eval o X.env:=by rfl)
 (hfew:((backTo cpos (starEach (e::es) X.env)).all (λx=> !x.1)&&(backToKw cpos (keywordEach [] X.env)).all (λx=>x.1.isSome)
   &&decide ((e::es).length+([]:List Keyword).length+(if([]:List Keyword).isEmpty then 0 else 1)<30))=true:=by rfl)
 (hline:(apos.endLine==cpos.line)=true:=by rfl) (hs:starEach (e::es) X.env=(false,eval e X.env)::starEach es X.env:=by rfl) (hplain:(backTo cpos (starEach es X.env)).any (·.1)=false:=by rfl):
 PE X (.Call (.Attribute o name apos) (e::es) [] cpos) (GU X.K T r to t):=by
 intro aa s σ H Q I h;refine wpAny_Call_method_late hbase hfew hline rfl (aZ (ho aa s σ H _ I h) λv s1 hq_=>?_)
 obtain⟨x,H1,I1,r1,ty,q1⟩:=hq_
 obtain⟨h1,h2⟩:=CF I1 r1 ty
 refine⟨T,id,pa,slot,hty,h1,h2,?_⟩
 have hA:=ha cpos aa s1 σ H1 _ I1 q1
 rw[hs] at hA⊢;refine Calls.callWith_builtin (by show(false||(backTo cpos (starEach es X.env)).any (·.1))=false;rw[hplain]<;>rfl) (Calls.evalArgs_plain ?_)
 exact aZ hA λus s2 ⟨vs,H2,I2,r2,q2⟩=>hm aa s2 σ H2 x vs v us Q I2 r1 r2 q2
end
def GJ(X:Cx)(id:String)(r:V->List V->Hp->VK->Prop):Prop:=
 ∀(aa:List (Addr×Obj)) (s:Shared) (σ:St) (H:Hp) (x:V) (xs:List V) (v:Value) (us:List Value) (Q:VK),Inv X aa σ H s->RelV x v->Vals xs us->r x xs H Q->
  wpAny (model X.prog X.w) X.A (call (.builtin id) (v::us)) (EP X aa σ Q) X.xe s
theorem Vals.one: ∀ {x:V} {us:List Value},Vals [x] us-> ∃u,us=[u]/\RelV x u
 |_,_,.cons r .nil=>⟨_,rfl,r⟩
section
variable {X:Cx}{aa:List (Addr×Obj)}{σ:St}{H:Hp}{s:Shared}{l b:Addr}{xs ys zs:List V}
theorem Inv.lset {its its':List Value}{n:Nat}{f:Array Value->Array Value}{t':Nat}(I:Inv X aa σ H s)(hH:H l=some (.lst xs))
 (e:s.heap.get? l=some {cls:=.type "list",data:=.seq its.toArray n}) (hf:f its.toArray=its'.toArray) (hv:Vals ys its') (hz:ys.length<=sizeLine):
 Inv X aa σ (aV H l (.lst ys)) {s with heap:=s.heap.update l (Obj.mapSeq f),toks:=t'}:=by
 have q:=PySem.IsL.update e f
 rw[hf] at q;refine I.write (x:=l) (e:=l) (by rw[hH];exact trivial) (.inl rfl) (λb' u hb hu=>(Heap.get?_update_other s.heap (Obj.mapSeq f) (Ne.symm hb)).trans hu) ⟨_,q⟩ ?_
 exact⟨hz,its',_,hv,q⟩
theorem Inv.lstM(I:Inv X aa σ H s)(hH:H l=some (.lst xs)):xs.length<=sizeLine/\ ∃(its:List Value) (n:Nat),Vals xs its/\xs.length=its.length/\s.heap.get? l=some {cls:=.type "list",data:=.seq its.toArray n}:=by
 obtain⟨z,its,n,r,e⟩:=I.hok l _ hH
 exact⟨z,its,n,r,r.length,e⟩
end
section
variable {X:Cx}
def uf:V->List V->Hp->VK->Prop:=λx vs H Q=> ∃l xs y,x=.ref l/\vs=[y]/\H l=some (.lst xs)/\xs.length<sizeLine/\Q .non (aV H l (.lst (xs++[y])))
theorem gY:GJ X "list.append" uf:=by
 intro aa s σ H x vs v us Q I rx rv h;obtain⟨l,xs,y,rfl,rfl,hH,hz,q⟩:=h
 cases rx
 obtain⟨u,rfl,ru⟩:=rv.one
 obtain⟨z,its,n,r,hl,e⟩:=I.lstM hH
 refine call_meets F.slot_list_append ⟨_,e,rfl⟩ F.entry_list_append (F.args_list_append_2 _ _) (PySem.list_append l its.toArray n u (by rw[List.size_toArray];omega)) ⟨e,?_⟩
 refine⟨.non,_,I.lset (its':=its++[u]) hH e (by simp) (r.append (.cons ru .nil)) ?_,rfl,q⟩
 rw[List.length_append,List.length_singleton];omega
end
end L2
namespace Att
open PySem PySem.W PySem.Calls PyProof.Rows
theorem kO {P:Params}{h:Heap}: ∀(ns:List Int) (vs:List Value),WellAll P h vs (ns.map WData.int)->IntsAre vs ns:=by
 intro ns
 induction ns with
 |nil=>
  intro vs w;rw[List.map_nil] at w;cases w
  exact .nil
 |cons n ns ih=>
  intro vs w;rw[List.map_cons] at w;cases w with
  |cons a b=>
   cases a
   exact .cons _ _ (ih _ b)
theorem wA {l:OpenLaw}{n:Nat}(hn:l.most=some n){P:Params}{h:Heap}{args:List WData}{vals:List Value}
 (hpre:l.row.toRowW.claim.pre args=true) (hwl:WellAll P h vals args):
 ∃a vs ns,vals=[Value.ref a]/\args=[WData.list (ns.map WData.int)]/\h.get? a=some {cls:=.type "list",data:=.seq vs.toArray}/\IntsAre vs ns/\ns.length<=n:=by
 have hsh:WShape.hasAll [] args [.list .int]=true:=(pre_splitW hpre).1
 have hc:l.pre.holds [] {args:=args}=true:=(pre_splitW hpre).2
 obtain⟨d,r,rfl,h1,h2⟩:=hasAllW_cons hsh
 obtain rfl:=hasAllW_nil h2
 obtain⟨xs,rfl,h3⟩:=hasW_list h1
 obtain⟨ns,rfl⟩:=items_int h3
 have hlen:ns.length<=n:=by
  unfold OpenLaw.pre at hc;have h4:(WTm.not (.lt (.lit (.int (n:Int))) (.len (.arg 0)))).holds [] {args:=[.list (ns.map .int)]}=true:=by
   have h4:=(holds_andW hc).1
   rw[hn] at h4;exact h4
  have h5:=condW_of h4 (w_not (w_lt w_lit (w_len_list (w_arg rfl))))
  rw[List.length_map] at h5;refine Nat.le_of_not_lt λq=>?_
  have q':(n:Int)<((ns.length:Nat):Int):=by omega
  first
   |(rw[decide_eq_true q'] at h5;exact absurd h5 (by decide))
   |(simp at h5;omega)
 cases hwl with
 |cons w1 w2=>
  cases w2
  cases w1 with
  |list ho hall=>exact⟨_,_,ns,rfl,rfl,ho,kO ns _ hall,hlen⟩
theorem vJ(l:OpenLaw)(args:List WData):l.row.toRowW.claim.post args (.bool true) args=true:=
 postW_of (r:=l.row.toRowW) (X:=(true==true))
  (show WShape.has [] (.bool true) .bool=true by first|rfl|decide|simp[WShape.has,WShape.arms,WShape.armsAll])
  (show(WTm.eq .res (.lit (.bool true))).value [] {args:=args,res:=some (.bool true),after:=args}=some (.bool (true==true)) from w_eq_bool (w_res rfl) w_lit) rfl
theorem attach_call {l:OpenLaw}{n:Nat}{q:Program}{loose:List Str}{XP:(Str->Option Value)->Heap->Prop}{YP:World->Heap->Prop}{d:DefRec}
 (hn:l.most=some n) (hdf:d.params.defaults=[])
 (call: ∀(w:World) (s₀ s₁:Shared) (mg mb:Str->Option Value) (fa:Addr) (o:Obj) (pm cd doc:Value) (a:Addr) (vs:List Value) (ns:List Int),
   Ground q loose [] XP w s₀ mg mb s₁.heap->YP w s₁.heap->
   s₁.heap.get? fa=some o->o.data=.func (docDef d.name d.params d.body d.scope pm cd doc)->s₁.heap.CodeRec cd d.name->mg d.name=some (.ref fa)->
   s₁.heap.get? a=some {cls:=.type "list",data:=.seq vs.toArray}->IntsAre vs ns->ns.length<=n->s₁.gens= #[]->
   codeAny (model l.prog w) callerA (.call (.ref fa) ⟨[.ref a],[]⟩) (λr s'=>r=.ok (.ret (.bool true))/\OldK s₁.heap s'.heap/\s'.os=s₁.os/\AllBare s'.gens) s₁):
 WalkO q loose XP YP l.row.toRowW d [] (λf vs=>PySem.call f vs):=by
 intro w s₀ s₁ mg mb G Y fa o pm cd doc dV kV ho hd hcd hD hmg hg args vals as hpre hlay hrd hwl hlo;obtain rfl:dV=.none:=Dflts.none hD hdf
 obtain rfl:kV=.none:=Dflts.noKw hD
 obtain⟨a,vs,ns,rfl,rfl,hobj,hints,hlen⟩:=wA hn hpre hwl
 refine enter_call (codeAny_mono (call w s₀ s₁ mg mb fa o pm cd doc a vs ns G Y ho (fd_plain hd) hcd hmg hobj hints hlen hg) λr s' hq=>?_)
 obtain⟨rfl,h2,h3,h4⟩:=hq
 exact⟨.inl ⟨.bool true,.bool true,[],rfl,λ_=>rfl,.bool true,vJ l _,λ_=>⟨List.Pairwise.nil,λ_ hm=>(nomatch hm)⟩⟩,h2,h3,h4⟩
end Att
namespace L2
open PySem PySem.Spec PyProof.Rows
theorem nw: ∀ {vs:List Value} {ns:List Int},IntsAre vs ns->Vals (ns.map V.int) vs
 |_,_,.nil=>.nil
 |_,_,.cons n t h=>.cons ⟨t,rfl⟩ (nw h)
def Cv(H:Hp):Prop:= ∀b,H b=none\/ ∃o xs,H b=some (.frz o (.lst xs))
theorem xk {P:Program}{w:World}{K:W.Frag}{mg mb:Str->Option Value}{CX:xC}{k:Nat}{fa a:Addr}{fd:FuncData}{x:Str}{sp:Sp}{s₁:Shared}{vs:List Value}{ns:List Int}
 (KX:K.In s₁.heap) (hns:s₁.heap.Ns mainGlobals mg) (hb:s₁.heap.Ns builtinsNs mb) (hbb: ∀x:Str,x≠"__name__"->mb x=bootBuiltins x) (hlim:s₁.heap.NoLimit) (hg:s₁.gens= #[])
 (ha:s₁.heap.get? a=some {cls:=.type "list",data:=.seq vs.toArray}) (hi:IntsAre vs ns) (hl:ns.length<=sizeLine) (hr:Room k callerA)
 (F: ∀base:Heap,K.In base->base.Ns mainGlobals mg->FnOk P w K mg base CX k fa fd [x] sp) (hbind: ∀(s:Shared) (u:Value),BindsTo s fd ⟨[u],[]⟩ [(x,u)])
 (hsp: ∀H:Hp,Cv H->SqL K H a (ns.map V.int)->sp [.ref a] H (λv _=>v=.bl true) λ_ _ _=>False)
 (hCX: ∀H e s',CX [] H s₁ (λ_ _ _=>False) e s'->False):
 codeAny (model P w) callerA (.call (.ref fa) ⟨[.ref a],[]⟩) (λr s'=>r=.ok (.ret (.bool true))/\OldK s₁.heap s'.heap/\s'.os=s₁.os/\AllBare s'.gens) s₁:=by
 have rv:=nw hi
 have lenV:=hi.length
 have core: ∀H:Hp,Cv H->SqL K H a (ns.map V.int)->HOk P w H s₁.heap->(∀b,H b≠none->b=a)->(H a≠none->K.lookup a=none)->
  codeAny (model P w) callerA (.call (.ref fa) ⟨[.ref a],[]⟩) (λr s'=>r=.ok (.ret (.bool true))/\OldK s₁.heap s'.heap/\s'.os=s₁.os/\AllBare s'.gens) s₁:=by
  intro H hO hS hok hA hK;have base_of: ∀ {b:Addr} {o:Obj},s₁.heap.get? b=some o->H b=none->(pV s₁.heap H).get? b=some o:=λe n=>zd e n
  have noA: ∀ {b:Addr} {o:Obj} {es:Array DictEntry} {ep:Nat},s₁.heap.get? b=some o->o.data=.dict es ep->H b=none:=λ{b o es ep} e d=>by
   cases q:H b with
   |none=>rfl
   |some u=>
    have e':b=a:=hA b (by rw[q];simp)
    subst e';rw[ha] at e;cases e;have d':Data.seq vs.toArray _=Data.dict es ep:=d
    cases d'
  have nsK: ∀ {b:Addr} {m:Str->Option Value},s₁.heap.Ns b m->(pV s₁.heap H).Ns b m:=λ{b m} ⟨o,es,ep,e,d,r⟩=>⟨o,es,ep,base_of e (noA e d),d,r⟩
  have hKb:K.In (pV s₁.heap H):=λb o e=>base_of (KX b o e) (by
   cases q:H b with
   |none=>rfl
   |some u=>
    have e':b=a:=hA b (by rw[q];simp)
    subst e';rw[hK (by rw[q];simp)] at e;cases e)
  have hM:Mod K mg (pV s₁.heap H):=⟨hKb,nsK hns,⟨mb,nsK hb,hbb⟩,let⟨mc,h1,h2⟩:=hlim;⟨mc,nsK h1,h2⟩⟩
  have e0:Env0 P w K mg (pV s₁.heap H) callerA [] s₁ H:=⟨rfl,hM,λb o e=>Bi e,Nat.le_of_eq (vn _ _),trivial,λb hb=>absurd (show b∈([]:List Addr) from hb) (by simp),hok,.of_eq hg⟩
  refine codeAny_mono ((F _ hKb (nsK hns)).run callerA [] s₁ H ⟨[.ref a],[]⟩ [.ref a] [.ref a] _ _ hr e0 (hbind s₁ (.ref a)) (.cons rfl .nil) (hsp H hO hS)) λr s' h=>?_
  cases r with
  |error e=>exact(hCX H e s' h).elim
  |ok fl=>
   cases fl with
   |next=>exact False.elim h
   |brk=>exact False.elim h
   |cont=>exact False.elim h
   |ret u=>
    obtain⟨v,H',os,bare,un,hok',r',q⟩:=h
    have q':v=.bl true:=q
    subst q';obtain rfl:u=Value.bool true:=r'
    refine⟨rfl,OldK.of_keep λb o e=>?_,os,bare⟩
    cases q:H b with
    |none=>exact un.keep b o e q (by intro z;exact absurd (show b∈([]:List Addr) from z) (by simp)) (by simp)
    |some u=>
     rcases hO b with z|⟨ob,xs,z⟩
     ·rw[q] at z;cases z
     ·have z2:=un.frzs b ob _ z
      obtain⟨e1,_⟩:=hok b _ z
      obtain⟨e2,_⟩:=hok' b _ z2
      rw[e] at e1;cases e1;exact e2
 cases hk:K.lookup a with
 |some o=>
  have e:=KX a o hk
  rw[ha] at e;cases e
  refine core (λ_=>none) (λ_=>.inl rfl) (.inr ⟨_,vs.toArray,_,hk,rfl,rfl,rfl,by rw[List.size_toArray,lenV];exact hl,by simpa using rv⟩) (λb u z=>by have z':(none:Option HO)=some u:=z;cases z') (λb z=>absurd rfl z) λz=>absurd rfl z
 |none=>
  refine core (λb=>if b=a then some (.frz {cls:=.type "list",data:=.seq vs.toArray} (.lst (ns.map V.int))) else none) (λb=>?_) (.inl (.inr ⟨{cls:=.type "list",data:=.seq vs.toArray},if_pos rfl⟩)) (λb u z=>?_) (λb z=>?_) λ_=>hk
  ·by_cases hb:b=a
   ·exact .inr ⟨_,_,if_pos hb⟩
   ·exact .inl (if_neg hb)
  ·by_cases hb:b=a
   ·have z':=(if_pos hb).symm.trans z
    cases z'
    subst hb;exact⟨ha,by rw[List.length_map];exact hl,vs,_,rv,ha⟩
   ·have z':=(if_neg hb).symm.trans z
    cases z'
  ·by_cases hb:b=a
   ·exact hb
   ·exact absurd (if_neg hb) z
theorem walk_of {l:W.OpenLaw}{n k:Nat}{q:Program}{loose:List Str}{XP:(Str->Option Value)->Heap->Prop}{YP:World->Heap->Prop}{d:DefRec}{K:Params->W.Frag}{CX:World->xC}{sp:World->Sp}{x:Str}
 (hn:l.most=some n) (hn2:n<=sizeLine) (hdf:d.params.defaults=[]) (hr:Room k callerA)
 (hY: ∀(w:World) (h:Heap),YP w h->(K w.params).In h)
 (F: ∀(w:World) (mg:Str->Option Value) (fa:Addr) (h:Heap),(K w.params).In h->h.Ns mainGlobals mg->mg d.name=some (.ref fa)->
   ∃fd:FuncData,(∀(s:Shared) (u:Value),BindsTo s fd ⟨[u],[]⟩ [(x,u)])/\
    ∀base:Heap,(K w.params).In base->base.Ns mainGlobals mg->FnOk l.prog w (K w.params) mg base (CX w) k fa fd [x] (sp w))
 (hsp: ∀(w:World) (H:Hp) (a:Addr) (ns:List Int),ns.length<=n->Cv H->SqL (K w.params) H a (ns.map V.int)->sp w [.ref a] H (λv _=>v=.bl true) λ_ _ _=>False)
 (hCX: ∀(w:World) (H:Hp) (s:Shared) (e:Value) (s':Shared),CX w [] H s (λ_ _ _=>False) e s'->False):
 W.WalkO q loose XP YP l.row.toRowW d [] (λf vs=>PySem.call f vs):=by
 refine Att.attach_call hn hdf λw s₀ s₁ mg mb fa o pm cd doc a vs ns G Y ho hd hcd hmg hobj hints hlen hg=>?_
 have KX:=hY w _ Y
 obtain⟨fd,hb,hF⟩:=F w mg fa _ KX G.T.g hmg
 exact xk KX G.T.g G.T.b G.T.builtins G.T.nolimit hg hobj hints (Nat.le_trans hlen hn2) hr hF hb (λH hO hS=>hsp w H a ns hlen hO hS) λH e s'=>hCX w H s₁ e s'
def eC(s:Stmt):Arguments:=match s with
 | .FunctionDef _ a _ _ _ _ _ _ _ _=>a
 |_=>{posonlyargs:=[],args:=[],vararg:=none,kwonlyargs:=[],kw_defaults:=[],kwarg:=none,defaults:=[]}
def bR(s:Stmt):List Stmt:=match s with
 | .FunctionDef _ _ b _ _ _ _ _ _ _=>b
 |_=>[]
def al(s:Stmt):Scope:=match s with
 | .FunctionDef _ _ _ _ _ _ sc _ _ _=>sc
 |_=>{kind:=.function,names:=[],isGenerator:=false,isCoroutine:=false}
abbrev pN:xC:=λ_ _ _ _ _ _=>False
abbrev E0:XK:=λ_ _ _=>False
theorem xo {X:Cx}:r8 pN X E0:=λ_ _ _ _ _ _ _ h=>h.elim
structure Fun(K:W.Frag)(x qual:Str)(st:Stmt)(f:Addr)(fd:FuncData):Prop where
 ex: ∃(oc:Value) (od:Option Addr) (kV doc pm:Value) (an:Option Addr) (cdv ct:Value) (osl:Array (Option Value)),
  fd=W.fnOf x qual (eC st) (bR st) (al st) .none kV doc pm an cdv ct/\K.lookup f=some ⟨oc,od,.func fd,osl⟩/\W.codeIn K cdv qual=true
 kp:W.keepIn K (.ref f)=true
section
variable {P:Program}{w:World}{K:W.Frag}{mg:Str->Option Value}{base:Heap}
theorem Fun.ok {x qual:Str}{st:Stmt}{f:Addr}{fd:FuncData}{N ps:List Str}{k:Nat}{sp:Sp}(F:Fun K x qual st f fd)(S:FnScope N ps (al st))(len: ∀vs H Q E,sp vs H Q E->vs.length=ps.length)
 (hbody: ∀(cdv:Value) (A:Around) (outer:List Env) (s:Shared) (H:Hp) (vs:List V) (Q:VK) (E:XK),Room k (A.deeper (envOfC qual (al st) s.heap.objs.size f cdv))->sp vs H Q E->
   ∃t,PSs (m9 pN P w K mg base N qual (al st) f cdv A outer s H E).nox (bR st) t/\t {nx:=λ_ H'=>Q .non H',rt:=Q} (fB N vs) H):FnOk P w K mg base pN (k+1) f fd ps sp:=by
 obtain⟨oc,od,kV,doc,pm,an,cdv,ct,osl,rfl,lk,hcd⟩:=F.ex
 refine DD lk hcd S len λA outer s H vs Q E hr hsp=>?_
 obtain⟨t,h,q⟩:=hbody cdv A outer s H vs Q E hr hsp
 exact⟨t,h.nox,q⟩
theorem Fun.binds {x qual:Str}{st:Stmt}{f:Addr}{fd:FuncData}{ps:List Str}(F:Fun K x qual st f fd)
 (h: ∀(kV doc pm:Value) (an:Option Addr) (cdv ct:Value) (us:List Value),us.length=ps.length->bindArgs (W.fnOf x qual (eC st) (bR st) (al st) .none kV doc pm an cdv ct) ⟨us,[]⟩=pure (ps.zip us)):Binds K fd ps []:=by
 obtain⟨oc,od,kV,doc,pm,an,cdv,ct,osl,rfl,lk,hcd⟩:=F.ex
 exact .all (h kV doc pm an cdv ct)
theorem sQ {x qual:Str}{st:Stmt}{f:Addr}{oc:Value}{od an:Option Addr}{osl:Array (Option Value)}{kV doc pm cdv ct:Value}(l:K.lookup f=some ⟨oc,od,.func (W.fnOf x qual (eC st) (bR st) (al st) .none kV doc pm an cdv ct),osl⟩)
 (c:W.codeIn K cdv qual=true) (k:W.keepIn K (.ref f)=true):Fun K x qual st f (W.fnOf x qual (eC st) (bR st) (al st) .none kV doc pm an cdv ct):=⟨⟨oc,od,kV,doc,pm,an,cdv,ct,osl,rfl,l,c⟩,k⟩
end
theorem cG {A:Around}{k:Nat}(hr:Room k A):A.units+1<cLine:=Nat.lt_of_le_of_lt (Nat.add_le_add_left (by decide:1<=64) _) hr.units
theorem nN {n:Nat}(h:n<=1000):n<sizeLine:=Nat.lt_of_le_of_lt h (by decide)
section
variable {X:Cx}
theorem pv(i:Nat){x:Str}{pos:Pos}(hN:X.N[i]? =some x:=by rfl)(hv:lR X.env.scope x:=by first|exact Or.inl rfl|exact Or.inr (Or.inl rfl)|exact Or.inr (Or.inr rfl))(hd:(x==("__debug__":Str))=false:=by decide)
 (hcd:(x==("__classdict__":Str))=false:=by decide):PE X (.Name x pos) (EI i):=C5 hN hv hd hcd
end
theorem wg {A B:Prop}(h:B):if false=true then A else B:=by
 rw[if_neg Bool.false_ne_true];exact h
theorem vM {A B:Prop}(h:A):if true=true then A else B:=by
 rw[if_pos rfl];exact h
def Same(H H':Hp):Prop:= ∀b o,H b=some o->H' b=some o
theorem Same.refl(H:Hp):Same H H:=λ_ _ h=>h
theorem Same.trans {H H1 H2:Hp}(a:Same H H1)(b:Same H1 H2):Same H H2:=λc o h=>b c o (a c o h)
theorem Same.free {H H':Hp}(e:Same H H'){l:Addr}(h:H' l=Option.none):H l=Option.none:=by
 cases q:H l with
 |none=>rfl
 |some o=>
  rw[e l o q] at h;cases h
theorem Same.seq {K:W.Frag}{H H':Hp}{a:Addr}{xs:List V}(e:Same H H')(h:SqL K H a xs):SqL K H' a xs:=by
 rcases h with(h|⟨o,h⟩)|h
 ·exact .inl (.inl (e _ _ h))
 ·exact .inl (.inr ⟨o,e _ _ h⟩)
 ·exact .inr h
inductive D where
 |non|bl (b:Bool)|int (i:Int)|str (x:Str)|tup (ds:List D)|lst (ds:List D)
 |scr (ds:List D)
 |dct (ks:List (List aS)) (ds:List D)
def SqR(K:W.Frag)(H:Hp)(a:Addr)(xs:List V):Prop:=
 (∃o,H a=some (.frz o (.lst xs)))\/
   ∃(o:Obj) (its:Array Value) (n:Nat),K.lookup a=some o/\o.cls=.type "list"/\o.dict=none/\o.data=.seq its n/\its.size<=sizeLine/\Vals xs its.toList
theorem SqR.seq {K:W.Frag}{H:Hp}{a:Addr}{xs:List V}(h:SqR K H a xs):SqL K H a xs:=h.elim (λh=>.inl (.inr h)) .inr
theorem Same.seqR {K:W.Frag}{H H':Hp}{a:Addr}{xs:List V}(e:Same H H')(h:SqR K H a xs):SqR K H' a xs:=h.elim (λ⟨o,h⟩=>.inl ⟨o,e _ _ h⟩) .inr
mutual
inductive Rep (K:W.Frag) (F:Hp):V->D->Prop
 |non:Rep K F .non .non
 |bl {b:Bool}:Rep K F (.bl b) (.bl b)
 |int {i:Int}:Rep K F (.int i) (.int i)
 |str {x:Str}:Rep K F (.str x) (.str x)
 |tup {a:Addr} {xs:List V} {ds:List D}:F a=some (.tup xs)->Reps K F xs ds->Rep K F (.ref a) (.tup ds)
 |lst {a:Addr} {xs:List V} {ds:List D}:F a=some (.lst xs)->Reps K F xs ds->Rep K F (.ref a) (.lst ds)
 |scr {a:Addr} {xs:List V} {ds:List D}:SqR K F a xs->Reps K F xs ds->Rep K F (.ref a) (.scr ds)
 |dct {a:Addr} {o:Obj} {xs:List V} {ks:List (List aS)} {ds:List D}:F a=some (.frz o (.dT (ks.zip xs)))->ks.length=xs.length->Reps K F xs ds->Rep K F (.ref a) (.dct ks ds)
inductive Reps (K:W.Frag) (F:Hp):List V->List D->Prop
 |nil:Reps K F [] []
 |cons {x:V} {d:D} {xs:List V} {ds:List D}:Rep K F x d->Reps K F xs ds->Reps K F (x::xs) (d::ds)
end
theorem Same.seqT {K:W.Frag}{H H':Hp}{a:Addr}{xs:List V}(e:Same H H')(h:SqT K H a xs):SqT K H' a xs:=by
 rcases h with(h|⟨o,h⟩)|h
 ·exact .inl (.inl (e _ _ h))
 ·exact .inl (.inr ⟨o,e _ _ h⟩)
 ·exact .inr h
mutual
theorem Rep.mono {K:W.Frag}{F G:Hp}(s:Same F G): ∀ {v:V} {d:D},Rep K F v d->Rep K G v d
 |_,_,.non=>.non
 |_,_,.bl=>.bl
 |_,_,.int=>.int
 |_,_,.str=>.str
 |_,_,.tup h r=>.tup (s _ _ h) (Reps.mono s r)
 |_,_,.lst h r=>.lst (s _ _ h) (Reps.mono s r)
 |_,_,.scr h r=>.scr (Same.seqR s h) (Reps.mono s r)
 |_,_,.dct h l r=>.dct (s _ _ h) l (Reps.mono s r)
theorem Reps.mono {K:W.Frag}{F G:Hp}(s:Same F G): ∀ {v:List V} {d:List D},Reps K F v d->Reps K G v d
 |_,_,.nil=>.nil
 |_,_,.cons r t=>.cons (Rep.mono s r) (Reps.mono s t)
end
section
variable {K:W.Frag}{F G H:Hp}
theorem Reps.length: ∀ {xs:List V} {ds:List D},Reps K F xs ds->xs.length=ds.length
 |_,_,.nil=>rfl
 |_,_,.cons _ t=>by simp[t.length]
theorem Reps.get: ∀ {xs:List V} {ds:List D} {i:Nat} {d:D},Reps K F xs ds->ds[i]? =some d-> ∃x,xs[i]? =some x/\Rep K F x d
 |_,_,_,_,.nil,e=>by simp at e
 |_,_,0,_,.cons r _,e=>by simp at e;subst e;exact⟨_,rfl,r⟩
 |_,_,i+1,d,.cons _ t,e=>by
  obtain⟨u,h1,h2⟩:=Reps.get (i:=i) (d:=d) t (by simpa using e)
  exact⟨u,by simpa using h1,h2⟩
theorem Reps.get' {xs:List V}{ds:List D}{i:Nat}{x:V}(r:Reps K F xs ds)(e:xs[i]? =some x): ∃d,ds[i]? =some d/\Rep K F x d:=by
 have hl:=r.length
 have hi:=(List.getElem?_eq_some_iff.mp e).1
 have e2:ds[i]? =some ds[i]:=List.getElem?_eq_getElem (by omega)
 obtain⟨y,h1,h2⟩:=r.get e2
 rw[e] at h1;cases h1;exact⟨_,e2,h2⟩
theorem Reps.append: ∀ {xs ys:List V} {us ws:List D},Reps K F xs us->Reps K F ys ws->Reps K F (xs++ys) (us++ws)
 |_,_,_,_,.nil,s=>s
 |_,_,_,_,.cons r t,s=>.cons r (Reps.append t s)
theorem Reps.set {x:V}{u:D}(r:Rep K F x u): ∀ {xs:List V} {us:List D} (i:Nat),Reps K F xs us->Reps K F (xs.set i x) (us.set i u)
 |_,_,_,.nil=>.nil
 |_,_,0,.cons _ t=>.cons r t
 |_,_,i+1,.cons q t=>.cons q (Reps.set r i t)
theorem Reps.take: ∀ {xs:List V} {us:List D} (n:Nat),Reps K F xs us->Reps K F (xs.take n) (us.take n)
 |_,_,0,_=>.nil
 |_,_,_+1,.nil=>.nil
 |_,_,n+1,.cons r t=>.cons r (Reps.take n t)
theorem Reps.drop: ∀ {xs:List V} {us:List D} (n:Nat),Reps K F xs us->Reps K F (xs.drop n) (us.drop n)
 |_,_,0,r=>r
 |_,_,_+1,.nil=>.nil
 |_,_,n+1,.cons _ t=>Reps.drop n t
end
abbrev aX:=Addr->Bool
def vw(H:Hp)(hid:aX):Hp:=λb=>if hid b=true then none else H b
def a7(hid:aX)(a:Addr):aX:=λb=>hid b||decide (b=a)
def ft(hid:aX)(a:Addr):aX:=λb=>hid b&& !decide (b=a)
theorem vw_some {H:Hp}{hid:aX}{b:Addr}{o:HO}:vw H hid b=some o↔hid b=false/\H b=some o:=by
 unfold vw;cases hb:hid b<;>simp
theorem bt(H:Hp)(hid:aX):Same (vw H hid) H:=λb o h=>(vw_some.mp h).2
theorem aw {H H':Hp}{hid:aX}(s:Same H H'):Same (vw H hid) (vw H' hid):=λb o h=>vw_some.mpr ⟨(vw_some.mp h).1,s _ _ (vw_some.mp h).2⟩
theorem ul {H H':Hp}{hid:aX}(s: ∀b o,H b=some o->hid b=false->H' b=some o):Same (vw H hid) (vw H' hid):=λb o h=>vw_some.mpr ⟨(vw_some.mp h).1,s _ _ (vw_some.mp h).2 (vw_some.mp h).1⟩
theorem bS {H:Hp}{hid:aX}{a:Addr}{o:HO}(h:hid a=true):vw (aV H a o) hid=vw H hid:=by
 funext b;unfold vw aV
 by_cases e:b=a
 ·subst e;simp[h]
 ·simp[e]
theorem cX {H:Hp}{hid hid':aX}(h: ∀b,hid' b=true->hid b=true):Same (vw H hid) (vw H hid'):=λb o q=>by
 obtain⟨q1,q2⟩:=vw_some.mp q
 refine vw_some.mpr ⟨?_,q2⟩
 cases e:hid' b with
 |false=>rfl
 |true=>rw[h b e] at q1;cases q1
theorem pI {H:Hp}{hid:aX}{a:Addr}{o:HO}(h:H a=none):vw (aV H a o) (a7 hid a)=vw H hid:=by
 funext b;unfold vw aV a7
 by_cases e:b=a
 ·subst e
  cases hb:hid b<;>simp[h]
 ·simp[e]
inductive NO where
 |l (ds:List D)
 |k (kvs:List (aS×D))
inductive Ob where
 |nst (us:List NO)
 |dR (kvs:List (aS×D))
 |dRs (l:List (List (aS×D)))
 |exc (x:Str) (n:Int)
 |dK (kvs:List (aS×D))
 |dT (kvs:List (List aS×D))
 |set (ds:List D)
 |old (d:D)
 |jnk
 |tset (ks:List (List Int))
 |dF (kvs:List (List aS×D))
 |dQ (kvs:List (List aS×D))
 |frs (d:D)
inductive Sl where
 |no
 |v (d:D)
 |own (ds:List D)
 |arg (ds:List D)
 |ob (b:Ob)
abbrev ay:=List Sl
structure Ct where
 H₀:Hp
 hid₀:aX
 mu:Addr->Bool
def EL(K:W.Frag)(x:Str)(n:Int)(a:Addr)(h:Heap):Prop:= ∃C o,W.nsIn K mainGlobals x=some (some (.ref C))/\h.get? a=some o/\o.cls=.ref C/\o.dict=none/\W.notCls o=true
def E5:Option HO->Bool
 |some (.lst _)=>true
 |_=>false
def fv(c:Ct)(F:Hp):Hp:=λb=>if(c.H₀ b).isSome=true/\E5 (F b)=true then none else F b
def ov(c:Ct)(F:Hp):Hp:=λb=>if(c.H₀ b).isSome=true then F b else none
theorem fv_some {c:Ct}{F:Hp}{b:Addr}{o:HO}:fv c F b=some o↔(E5 (some o)=true->c.H₀ b=none)/\F b=some o:=by
 unfold fv;constructor
 ·intro h
  split at h
  ·cases h
  ·rename_i hn
   refine⟨λq=>?_,h⟩
   rw[h] at hn;cases hb:c.H₀ b with
   |none=>rfl
   |some u=>exact absurd ⟨by rw[hb];rfl,q⟩ hn
 ·rintro⟨h1,h2⟩
  rw[if_neg,h2]
  rintro⟨q1,q2⟩
  rw[h2] at q2;rw[h1 q2] at q1;cases q1
theorem ov_some {c:Ct}{F:Hp}{b:Addr}{o:HO}:ov c F b=some o↔(∃u,c.H₀ b=some u)/\F b=some o:=by
 unfold ov;cases hb:c.H₀ b<;>simp
theorem uJ {c:Ct}{F G:Hp}(s:Same F G):Same (fv c F) (fv c G):=λb o h=>fv_some.mpr ⟨(fv_some.mp h).1,s _ _ (fv_some.mp h).2⟩
theorem zY {c:Ct}{F G:Hp}(s:Same F G):Same (ov c F) (ov c G):=λb o h=>ov_some.mpr ⟨(ov_some.mp h).1,s _ _ (ov_some.mp h).2⟩
def NOk(K:W.Frag)(c:Ct)(hid:aX)(H:Hp)(p a:Addr):NO->Prop
 | .l ds=>(hid a=true/\c.H₀ a=none)/\ ∃xs:List V,H a=some (.nst p (.lst xs))/\Reps K (vw H hid) xs ds
 | .k kvs=>(hid a=true/\c.H₀ a=none)/\ ∃us:List (aS×V),H a=some (.nst p (.dK us))/\us.map (·.1)=kvs.map (·.1)/\Reps K (vw H hid) (us.map (·.2)) (kvs.map (·.2))
theorem NOk.mono {K:W.Frag}{c:Ct}{hid hid':aX}{H H':Hp}{p a:Addr}{b:NO}(h:NOk K c hid H p a b)(k: ∀u,H a=some (.nst p u)->H' a=some (.nst p u))(s:Same (vw H hid) (vw H' hid'))(w:(∃u,H a=some (.nst p u))->hid' a=true):NOk K c hid' H' p a b:=by
 cases b with
 |l ds=>obtain⟨h1,us,h2,h3⟩:=h;exact⟨⟨w ⟨_,h2⟩,h1.2⟩,us,k _ h2,h3.mono s⟩
 |k kvs=>obtain⟨h1,us,h2,h3,h4⟩:=h;exact⟨⟨w ⟨_,h2⟩,h1.2⟩,us,k _ h2,h3,h4.mono s⟩
def DRd(K:W.Frag)(W:Hp)(a:Addr)(kvs:List (aS×D)):Prop:= ∃o us,W a=some (.frz o (.dK us))/\us.map (·.1)=kvs.map (·.1)/\Reps K W (us.map (·.2)) (kvs.map (·.2))
theorem DRd.mono {K:W.Frag}{W W':Hp}{a:Addr}{kvs:List (aS×D)}(h:DRd K W a kvs)(s:Same W W'):DRd K W' a kvs:=by
 obtain⟨o,us,h1,h2,h3⟩:=h
 exact⟨o,us,s _ _ h1,h2,h3.mono s⟩
def DQd(K:W.Frag)(W:Hp)(a:Addr)(kvs:List (List aS×D)):Prop:= ∃o us,W a=some (.frz o (.dT us))/\us.map (·.1)=kvs.map (·.1)/\Reps K W (us.map (·.2)) (kvs.map (·.2))
theorem DQd.mono {K:W.Frag}{W W':Hp}{a:Addr}{kvs:List (List aS×D)}(h:DQd K W a kvs)(s:Same W W'):DQd K W' a kvs:=by
 obtain⟨o,us,h1,h2,h3⟩:=h
 exact⟨o,us,s _ _ h1,h2,h3.mono s⟩
def ObOk(K:W.Frag)(c:Ct)(hid:aX)(H:Hp)(a:Addr):Ob->Prop
 | .nst us=>(hid a=true/\c.H₀ a=none)/\ ∃bs:List Addr,H a=some (.lst (bs.map V.ref))/\bs.Nodup/\Paired (NOk K c hid H a) bs us
 | .dR kvs=>DRd K (vw H hid) a kvs
 | .dQ kvs=>DQd K (vw H hid) a kvs
 | .frs d=>Rep K (fv c (vw H hid)) (.ref a) d
 | .dRs l=> ∃bs:List Addr,vw H hid a=some (.lst (bs.map V.ref))/\Paired (DRd K (vw H hid)) bs l
 | .exc x n=> ∃φ,vw H hid a=some (.ext φ)/\ ∀h,φ h->EL K x n a h
 | .dK kvs=>(hid a=true/\c.H₀ a=none)/\ ∃us:List (aS×V),H a=some (.dK us)/\us.map (·.1)=kvs.map (·.1)/\Reps K (vw H hid) (us.map (·.2)) (kvs.map (·.2))
 | .dT kvs=>(hid a=true/\c.H₀ a=none)/\ ∃us:List (List aS×V),H a=some (.dT us)/\us.map (·.1)=kvs.map (·.1)/\Reps K (vw H hid) (us.map (·.2)) (kvs.map (·.2))
 | .set ds=>(hid a=true/\c.H₀ a=none)/\ ∃xs:List V,H a=some (.lst xs)/\Reps K (fv c (vw H hid)) xs ds
 | .old d=>Rep K (ov c (vw H hid)) (.ref a) d
 | .jnk=>(hid a=true/\c.H₀ a=none)/\ ∃xs:List V,H a=some (.lst xs)
 | .tset ks=>(hid a=true/\c.H₀ a=none)/\ ∃xs:List (List Int×Addr),H a=some (.tst xs)/\(xs.map (·.1)).Perm ks/\Reps K (vw H hid) (xs.map λx=>V.ref x.2) (xs.map λx=>D.tup (x.1.map D.int))
 | .dF kvs=>(hid a=true/\c.H₀ a=none)/\ ∃(o:Obj) (us:List (List aS×V)),H a=some (.frz o (.dT us))/\us.map (·.1)=kvs.map (·.1)/\Reps K (vw H hid) (us.map (·.2)) (kvs.map (·.2))
def n8:Ob->Prop
 | .exc _ _=>False
 | .old _=>False
 | .dR _=>False
 | .dRs _=>False
 | .dQ _=>False
 | .frs _=>False
 |_=>True
def At(H:Hp)(a x:Addr):Prop:=x=a\/ ∃u,H x=some (.nst a u)
theorem At.ne {H:Hp}{a a' x:Addr}{o:HO}(hx:At H a' x)(ne:a'≠a)(ha:H a=some o)(hn: ∀p u,o≠ .nst p u:=by intro _ _ e;cases e):x≠a:=λe=>by
 subst e;rcases hx with rfl|⟨u,hu⟩
 ·exact ne rfl
 ·rw[ha] at hu;cases hu;exact hn _ _ rfl
theorem ObOk.mono {K:W.Frag}{c:Ct}{hid hid':aX}{H H':Hp}{a:Addr}{b:Ob}(h:ObOk K c hid H a b)(k:n8 b-> ∀x,At H a x-> ∀o,H x=some o->H' x=some o)(s:Same (vw H hid) (vw H' hid'))(w:n8 b-> ∀x,At H a x->hid x=true->hid' x=true):ObOk K c hid' H' a b:=by
 have k1:n8 b-> ∀o,H a=some o->H' a=some o:=λo=>k o a (.inl rfl)
 have w1:n8 b->hid a=true->hid' a=true:=λo=>w o a (.inl rfl)
 cases b with
 |nst us=>
  obtain⟨h1,bs,h2,h3,h4⟩:=h
  refine⟨⟨w1 trivial h1.1,h1.2⟩,bs,k1 trivial _ h2,h3,Paired.mapP h4 λx y z=>z.mono (λu q=>k trivial x (.inr ⟨u,q⟩) _ q) s λq=>w trivial x (.inr q) ?_⟩
  cases y with
  |l ds=>exact z.1.1
  |k kvs=>exact z.1.1
 |dR kvs=>exact DRd.mono h s
 |dQ kvs=>exact DQd.mono h s
 |frs d=>exact Rep.mono (uJ s) h
 |dRs l=>obtain⟨bs,h1,h2⟩:=h;exact⟨bs,s _ _ h1,Paired.mapP h2 λ_ _ z=>z.mono s⟩
 |exc x n=>obtain⟨φ,h1,h2⟩:=h;exact⟨φ,s _ _ h1,h2⟩
 |dK kvs=>obtain⟨h1,us,h2,h3,h4⟩:=h;exact⟨⟨w1 trivial h1.1,h1.2⟩,us,k1 trivial _ h2,h3,h4.mono s⟩
 |dT kvs=>obtain⟨h1,us,h2,h3,h4⟩:=h;exact⟨⟨w1 trivial h1.1,h1.2⟩,us,k1 trivial _ h2,h3,h4.mono s⟩
 |set ds=>obtain⟨h1,us,h2,h3⟩:=h;exact⟨⟨w1 trivial h1.1,h1.2⟩,us,k1 trivial _ h2,h3.mono (uJ s)⟩
 |old d=>exact Rep.mono (zY s) h
 |jnk=>obtain⟨h1,us,h2⟩:=h;exact⟨⟨w1 trivial h1.1,h1.2⟩,us,k1 trivial _ h2⟩
 |tset ks=>obtain⟨h1,us,h2,h3,h4⟩:=h;exact⟨⟨w1 trivial h1.1,h1.2⟩,us,k1 trivial _ h2,h3,h4.mono s⟩
 |dF kvs=>obtain⟨h1,o,us,h2,h3,h4⟩:=h;exact⟨⟨w1 trivial h1.1,h1.2⟩,o,us,k1 trivial _ h2,h3,h4.mono s⟩
theorem ObOk.hid {K:W.Frag}{c:Ct}{hid:aX}{H:Hp}{a:Addr}{b:Ob}(h:ObOk K c hid H a b)(o:n8 b):hid a=true:=by
 cases b with
 |nst us=>exact h.1.1
 |dQ kvs=>exact o.elim
 |frs d=>exact o.elim
 |dR kvs=>exact o.elim
 |dRs l=>exact o.elim
 |exc x n=>exact o.elim
 |dK kvs=>exact h.1.1
 |dT kvs=>exact h.1.1
 |set ds=>exact h.1.1
 |old d=>exact o.elim
 |jnk=>exact h.1.1
 |tset ks=>exact h.1.1
 |dF kvs=>exact h.1.1
def SlOk(K:W.Frag)(c:Ct)(hid:aX)(σ:St)(H:Hp)(i:Nat):Sl->Prop
 | .no=>True
 | .v d=> ∃x,σ[i]? =some (some x)/\Rep K (vw H hid) x d
 | .own ds=> ∃a xs,σ[i]? =some (some (.ref a))/\H a=some (.lst xs)/\hid a=true/\c.H₀ a=none/\Reps K (vw H hid) xs ds
 | .arg ds=> ∃a xs,σ[i]? =some (some (.ref a))/\H a=some (.lst xs)/\hid a=true/\c.mu a=true/\Reps K (vw H hid) xs ds
 | .ob b=> ∃a,σ[i]? =some (some (.ref a))/\ObOk K c hid H a b
def Ow:Option Sl->Prop
 |some (.own _)=>True
 |some (.arg _)=>True
 |some (.ob b)=>n8 b
 |_=>False
structure SR(K:W.Frag)(c:Ct)(hid:aX)(ρ:ay)(σ:St)(H:Hp):Prop where
 tr: ∀b,hid b=true-> ∃o,H b=some o
 ht: ∀b xs,hid b=true->H b≠some (.tup xs)
 h0: ∀b,c.hid₀ b=true->hid b=true
 kp: ∀b o,c.H₀ b=some o->c.mu b=false->H b=some o
 t0: ∀b o,c.H₀ b=some o-> ∃o',H b=some o'
 c0: ∀b,c.hid₀ b=true-> ∃o,c.H₀ b=some o
 m0: ∀b,c.mu b=true->c.hid₀ b=true
 len:σ.length=ρ.length
 sl: ∀(i:Nat) (s:Sl),ρ[i]? =some s->SlOk K c hid σ H i s
 ap: ∀(i j:Nat) (a:Addr),i≠j->Ow ρ[i]? ->Ow ρ[j]? ->σ[i]? =some (some (.ref a))->σ[j]? =some (some (.ref a))->False
section
variable {K:W.Frag}{c:Ct}{hid:aX}{ρ:ay}{σ:St}{H H':Hp}{i:Nat}
theorem SlOk.ext {s:Sl}(h:SlOk K c hid σ H i s)(e:Same H H'):SlOk K c hid σ H' i s:=by
 cases s with
 |no=>trivial
 |v d=>obtain⟨x,h1,h2⟩:=h;exact⟨x,h1,h2.mono (aw e)⟩
 |own ds=>obtain⟨a,xs,h1,h2,h3,h4,h5⟩:=h;exact⟨a,xs,h1,e _ _ h2,h3,h4,h5.mono (aw e)⟩
 |arg ds=>obtain⟨a,xs,h1,h2,h3,h4,h5⟩:=h;exact⟨a,xs,h1,e _ _ h2,h3,h4,h5.mono (aw e)⟩
 |ob b=>obtain⟨a,h1,h2⟩:=h;exact⟨a,h1,h2.mono (λ_ x _=>e x) (aw e) λ_ _ _ q=>q⟩
theorem SR.ext(h:SR K c hid ρ σ H)(e:Same H H'):SR K c hid ρ σ H' where
 tr:=λb hb=>let⟨o,q⟩:=h.tr b hb;⟨o,e _ _ q⟩
 ht:=λb xs hb q=>let⟨o,w⟩:=h.tr b hb;by have z:=e _ _ w;rw[q] at z;cases z;exact h.ht b xs hb w
 h0:=h.h0
 kp:=λb o q m=>e _ _ (h.kp b o q m)
 t0:=λb o q=>let⟨o',q'⟩:=h.t0 b o q;⟨o',e _ _ q'⟩
 c0:=h.c0
 m0:=h.m0
 len:=h.len
 sl:=λi s q=>(h.sl i s q).ext e
 ap:=h.ap
def EX(hid:aX)(H:Hp):Prop:=(∀b,hid b=true-> ∃o,H b=some o)/\ ∀b xs,hid b=true->H b≠some (.tup xs)
theorem SR.trk(h:SR K c hid ρ σ H):EX hid H:=⟨h.tr,h.ht⟩
theorem SR.fresh(h:SR K c hid ρ σ H){a:Addr}(n:H a=none):hid a=false:=by
 cases e:hid a with
 |false=>rfl
 |true=>obtain⟨o,q⟩:=h.tr a e;rw[n] at q;cases q
theorem SR.fresh0(h:SR K c hid ρ σ H){a:Addr}(n:H a=none):c.H₀ a=none:=by
 cases e:c.H₀ a with
 |none=>rfl
 |some o=>obtain⟨o',q⟩:=h.t0 a o e;rw[n] at q;cases q
end
inductive Kd where
 |b|s|n
 deriving DecidableEq
def Rep1(K:W.Frag)(H W:Hp)(v:V)(d:D):Prop:=Rep K W v d\/ ∃a xs ds,v=.ref a/\d=.lst ds/\H a=some (.lst xs)/\Reps K W xs ds
def RN(K:W.Frag)(H H':Hp)(hid:aX)(v:V)(d:D):Prop:= ∃a xs ds,d=.lst ds/\v=.ref a/\H a=none/\H' a=some (.lst xs)/\Reps K (vw H' (a7 hid a)) xs ds
def RK(K:W.Frag)(k:Kd)(H H':Hp)(hid:aX)(v:V)(d:D):Prop:=match k with
 | .b=>Rep1 K H' (vw H' hid) v d
 | .s=>Rep K (vw H' hid) v d
 | .n=>RN K H H' hid v d
section
variable {K:W.Frag}{c:Ct}{hid:aX}{ρ:ay}{σ:St}{H H' H'':Hp}{i:Nat}{v:V}{d:D}
theorem RN.rep(h:RN K H H' hid v d)(hf: ∀a,H a=none->hid a=false):Rep K (vw H' hid) v d:=by
 obtain⟨a,xs,ds,rfl,rfl,h1,h2,h3⟩:=h
 refine .lst (vw_some.mpr ⟨hf a h1,h2⟩) (h3.mono (cX λb q=>?_))
 unfold a7;rw[q];rfl
theorem RK.b(k:Kd)(h:RK K k H H' hid v d)(hf: ∀a,H a=none->hid a=false):Rep1 K H' (vw H' hid) v d:=by
 cases k with
 |b=>exact h
 |s=>exact .inl h
 |n=>exact .inl (RN.rep h hf)
theorem Rep1.ext {hid:aX}(h:Rep1 K H (vw H hid) v d)(e:Same H H'):Rep1 K H' (vw H' hid) v d:=by
 rcases h with h|⟨a,xs,ds,h1,h2,h3,h4⟩
 ·exact .inl (h.mono (aw e))
 ·exact .inr ⟨a,xs,ds,h1,h2,e _ _ h3,h4.mono (aw e)⟩
theorem Rep1.int {i:Int}(h:Rep1 K H (vw H hid) v (.int i)):v=.int i:=by
 rcases h with h|⟨a,xs,ds,h1,h2,_⟩
 ·cases h;rfl
 ·cases h2
theorem Rep1.bl {i:Bool}(h:Rep1 K H (vw H hid) v (.bl i)):v=.bl i:=by
 rcases h with h|⟨a,xs,ds,h1,h2,_⟩
 ·cases h;rfl
 ·cases h2
theorem Rep1.str {i:Str}(h:Rep1 K H (vw H hid) v (.str i)):v=.str i:=by
 rcases h with h|⟨a,xs,ds,h1,h2,_⟩
 ·cases h;rfl
 ·cases h2
theorem Rep1.non(h:Rep1 K H (vw H hid) v .non):v=.non:=by
 rcases h with h|⟨a,xs,ds,h1,h2,_⟩
 ·cases h;rfl
 ·cases h2
theorem Rep1.tup {ds:List D}(h:Rep1 K H (vw H hid) v (.tup ds)): ∃a xs,v=.ref a/\vw H hid a=some (.tup xs)/\SqT K H a xs/\Reps K (vw H hid) xs ds:=by
 rcases h with h|⟨a,xs,ds,h1,h2,_⟩
 ·cases h with
  |tup q r=>exact⟨_,_,rfl,q,SqT.of (bt _ _ _ _ q),r⟩
 ·cases h2
theorem Rep1.lst {ds:List D}(h:Rep1 K H (vw H hid) v (.lst ds)): ∃a xs,v=.ref a/\SqL K H a xs/\Reps K (vw H hid) xs ds:=by
 rcases h with h|⟨a,xs,ds,h1,h2,h3,h4⟩
 ·cases h with
  |lst q r=>exact⟨_,_,rfl,SqL.of (bt _ _ _ _ q),r⟩
 ·cases h2
  exact⟨a,xs,h1,SqL.of h3,h4⟩
theorem Rep1.scr {ds:List D}(h:Rep1 K H (vw H hid) v (.scr ds)): ∃a xs,v=.ref a/\SqL K H a xs/\Reps K (vw H hid) xs ds:=by
 rcases h with h|⟨a,xs,ds,h1,h2,h3,h4⟩
 ·cases h with
  |scr q r=>exact⟨_,_,rfl,(bt _ _).seq q.seq,r⟩
 ·cases h2
end
theorem PE.imp {X:Cx}{e:Expr}{t t':TE}(h:PE X e t)(i: ∀σ H Q,t' σ H Q->t σ H Q):PE X e t':=λaa s σ H Q I q=>h aa s σ H Q I (i σ H Q q)
theorem PT.imp {X:Cx}{e:Expr}{t t':TT}(h:PT X e t)(i: ∀σ H Q,t' σ H Q->t σ H Q):PT X e t':=λaa s σ H Q I q=>h aa s σ H Q I (i σ H Q q)
theorem PW.imp {X:Cx}{e:Expr}{t t':TT}(h:PW X e t)(i: ∀σ H Q,t' σ H Q->t σ H Q):PW X e t':=λwh aa s σ H Q I q=>h wh aa s σ H Q I (i σ H Q q)
theorem PA.imp {X:Cx}{e:List Expr}{t t':TA}(h:PA X e t)(i: ∀σ H Q,t' σ H Q->t σ H Q):PA X e t':=λp aa s σ H Q I q=>h p aa s σ H Q I (i σ H Q q)
theorem PS.imp {X:Cx}{e:Stmt}{t t':TS}(h:PS X e t)(i: ∀D σ H,t' D σ H->t D σ H):PS X e t':=λaa s σ H D I q=>h aa s σ H D I (i D σ H q)
theorem PSs.imp {X:Cx}{e:List Stmt}{t t':TS}(h:PSs X e t)(i: ∀D σ H,t' D σ H->t D σ H):PSs X e t':=λaa s σ H D I q=>h aa s σ H D I (i D σ H q)
abbrev FE:=ay->Option D
abbrev FT:=ay->Option Bool
abbrev FA:=ay->Option (List D)
def Cs(K:W.Frag)(c:Ct)(hid:aX)(k:Kd)(f:FE)(ρ:ay):TE:=λσ H Q=>SR K c hid ρ σ H/\ ∃d,f ρ=some d/\ ∀v H',Same H H'->RK K k H H' hid v d->Q v H'
def FU(K:W.Frag)(c:Ct)(hid:aX)(f:FT)(ρ:ay):TT:=λσ H Q=>SR K c hid ρ σ H/\ ∃d,f ρ=some d/\ ∀H',Same H H'->Q d H'
def GO(K:W.Frag)(c:Ct)(hid:aX)(f:FA)(ρ:ay):TA:=λσ H Q=>SR K c hid ρ σ H/\ ∃d,f ρ=some d/\ ∀vs H',Same H H'->Reps K (vw H' hid) vs d->Q vs H'
def DP(X:Cx)(c:Ct)(k:Kd)(e:Expr)(f:FE):Prop:= ∀hid ρ,PE X e (Cs X.K c hid k f ρ)
def DT(X:Cx)(c:Ct)(e:Expr)(f:FT):Prop:= ∀hid ρ,PT X e (FU X.K c hid f ρ)
def DW(X:Cx)(c:Ct)(e:Expr)(f:FT):Prop:= ∀hid ρ,PW X e (FU X.K c hid f ρ)
def DA(X:Cx)(c:Ct)(es:List Expr)(f:FA):Prop:= ∀hid ρ,PA X es (GO X.K c hid f ρ)
section
variable {X:Cx}{c:Ct}{e a b:Expr}{es:List Expr}{f g:FE}{k:Kd}{pos:Pos}
theorem DP.toS(h:DP X c .n e f):DP X c .s e f:=λhid ρ=>PE.imp (h hid ρ) λσ H Q ⟨sr,d,hd,q⟩=>⟨sr,d,hd,λv H' s r=>q v H' s (RN.rep r λa n=>sr.fresh n)⟩
def ak(i:Nat):FE:=λρ=>match ρ[i]? with
 |some (.v d)=>some d
 |_=>none
def mK(i:Nat):FE:=λρ=>match ρ[i]? with
 |some (.v d)=>some d
 |some (.own ds)=>some (.lst ds)
 |some (.arg ds)=>some (.lst ds)
 |_=>none
theorem af(i:Nat){x:Str}(hN:X.N[i]? =some x:=by rfl)(hv:lR X.env.scope x:=by first|exact Or.inl rfl|exact Or.inr (Or.inl rfl)|exact Or.inr (Or.inr rfl))(hd:(x==("__debug__":Str))=false:=by decide)
 (hcd:(x==("__classdict__":Str))=false:=by decide):DP X c .s (.Name x pos) (ak i):=λhid ρ=>PE.imp (pv i hN hv hd hcd) λσ H Q hq_=>by
 obtain⟨sr,d,hd,q⟩:=hq_
 unfold ak at hd;split at hd
 ·rename_i d' e'
  cases hd
  obtain⟨x,h1,h2⟩:=sr.sl i _ e'
  exact⟨x,h1,q x H (Same.refl _) h2⟩
 ·cases hd
theorem f6(i:Nat){x:Str}(hN:X.N[i]? =some x:=by rfl)(hv:lR X.env.scope x:=by first|exact Or.inl rfl|exact Or.inr (Or.inl rfl)|exact Or.inr (Or.inr rfl))(hd:(x==("__debug__":Str))=false:=by decide)
 (hcd:(x==("__classdict__":Str))=false:=by decide):DP X c .b (.Name x pos) (mK i):=λhid ρ=>PE.imp (pv i hN hv hd hcd) λσ H Q hq_=>by
 obtain⟨sr,d,hd,q⟩:=hq_
 unfold mK at hd;split at hd
 ·rename_i d' e'
  cases hd
  obtain⟨x,h1,h2⟩:=sr.sl i _ e'
  exact⟨x,h1,q x H (Same.refl _) (.inl h2)⟩
 ·rename_i d' e'
  cases hd
  obtain⟨a,xs,h1,h2,h3,h4,h5⟩:=sr.sl i _ e'
  exact⟨_,h1,q _ H (Same.refl _) (.inr ⟨a,xs,_,rfl,rfl,h2,h5⟩)⟩
 ·rename_i d' e'
  cases hd
  obtain⟨a,xs,h1,h2,h3,h4,h5⟩:=sr.sl i _ e'
  exact⟨_,h1,q _ H (Same.refl _) (.inr ⟨a,xs,_,rfl,rfl,h2,h5⟩)⟩
 ·cases hd
def av(d:D):FE:=λ_=>some d
theorem ag {i:Int}{j pos}:DP X c .s (.Constant (.int i) j pos) (av (.int i)):=λhid ρ=>PE.imp CY λσ H Q hq_=>by
 obtain⟨sr,d,hd,q⟩:=hq_
 cases hd;exact q _ H (Same.refl _) .int
theorem zf {i:Bool}{j pos}:DP X c .s (.Constant (.bool i) j pos) (av (.bl i)):=λhid ρ=>PE.imp Bo λσ H Q hq_=>by
 obtain⟨sr,d,hd,q⟩:=hq_
 cases hd;exact q _ H (Same.refl _) .bl
theorem cH {i:Str}{j pos}:DP X c .s (.Constant (.str i) j pos) (av (.str i)):=λhid ρ=>PE.imp rS λσ H Q hq_=>by
 obtain⟨sr,d,hd,q⟩:=hq_
 cases hd;exact q _ H (Same.refl _) .str
def au(F:D->D->Option D)(f g:FE):FE:=λρ=>(f ρ).bind λx=>(g ρ).bind λy=>F x y
theorem me {F:D->D->Option D}{ρ:ay}{d:D}(h:au F f g ρ=some d): ∃x y,f ρ=some x/\g ρ=some y/\F x y=some d:=by
 unfold au at h;cases e1:f ρ with
 |none=>rw[e1] at h;cases h
 |some x=>
  cases e2:g ρ with
  |none=>rw[e1,e2] at h;cases h
  |some y=>rw[e1,e2] at h;exact⟨x,y,rfl,rfl,h⟩
def mL(K:W.Frag)(k:Kd)(r:R2)(F:D->D->Option D):Prop:= ∀(H:Hp) (hid:aX) (v u:V) (x y d:D) (Q:VK),(∀a,H a=none->hid a=false)->F x y=some d->Rep1 K H (vw H hid) v x->Rep1 K H (vw H hid) u y->
 (∀w H',Same H H'->RK K k H H' hid w d->Q w H')->r v u H Q
theorem RK.left {K:W.Frag}{H H1 H':Hp}{hid:aX}{v:V}{d:D}(s:Same H H1)(h:RK K k H1 H' hid v d):RK K k H H' hid v d:=by
 cases k with
 |b=>exact h
 |s=>exact h
 |n=>
  obtain⟨a,xs,ds,h1,h2,h3,h4⟩:=h
  exact⟨a,xs,ds,h1,h2,s.free h3,h4⟩
theorem Fd {r:R2}{F:D->D->Option D}{k1 k2:Kd}{hid:aX}{ρ:ay}(hF:mL X.K k r F){σ:St}{H:Hp}{Q:VK}(h:Cs X.K c hid k (au F f g) ρ σ H Q):Dt r (Cs X.K c hid k1 f ρ) (Cs X.K c hid k2 g ρ) σ H Q:=by
 obtain⟨sr,d,hd,q⟩:=h
 obtain⟨x,y,e1,e2,e3⟩:=me hd
 refine⟨sr,x,e1,λv H1 s1 r1=>⟨sr.ext s1,y,e2,λu H2 s2 r2=>?_⟩⟩
 have b1:=(RK.b k1 r1 λa n=>sr.fresh n).ext s2
 have b2:=RK.b k2 r2 λa n=>(sr.ext s1).fresh n
 exact hF H2 hid v u x y d Q (λa n=>((sr.ext s1).ext s2).fresh n) e3 b1 b2 λw H' s3 r3=>q w H' ((s1.trans s2).trans s3) (RK.left (s1.trans s2) r3)
theorem kA {op:Operator}{r:R2}{F:D->D->Option D}{k1 k2:Kd}(ho:jD X (binaryOp op) r)(hF:mL X.K k r F)(ha:DP X c k1 a f)(hb:DP X c k2 b g):DP X c k (.BinOp a op b pos) (au F f g):=λhid ρ=>
 PE.imp (wV ho (ha hid ρ) (hb hid ρ)) λσ H Q h=>Fd hF h
theorem jW {op:CmpOp}{r:R2}{F:D->D->Option D}{k1 k2:Kd}(ho:jD X (compareOp op) r)(hF:mL X.K .s r F)(ha:DP X c k1 a f)(hb:DP X c k2 b g)(hm:behindInMarks op b=false):DP X c .s (.Compare a [op] [b] pos) (au F f g):=λhid ρ=>
 PE.imp (Ae ho (ha hid ρ) (hb hid ρ) hm) λσ H Q h=>Fd hF h
def AA:Option D->Option Bool
 |some (.bl b)=>some b
 |_=>none
theorem cc {op:CmpOp}{r:R2}{F:D->D->Option D}{k1 k2:Kd}(ho:jD X (compareOp op) r)(hF:mL X.K .s r F)(ha:DP X c k1 a f)(hb:DP X c k2 b g)(hm:behindInMarks op b=false):DT X c (.Compare a [op] [b] pos) (λρ=>AA (au F f g ρ)):=λhid ρ=>
 PT.imp (AW ho (ha hid ρ) (hb hid ρ) hm) λσ H Q hq_=>by
  obtain⟨sr,d,hd,q⟩:=hq_
  refine Fd (X:=X) (k:=.s) (F:=F) hF ?_
  dsimp only at hd;cases e:au F f g ρ with
  |none=>rw[e] at hd;cases hd
  |some x=>
   rw[e] at hd;cases x with
   |bl z=>
    cases hd
    refine⟨sr,_,e,λv H' s r=>⟨d,?_,q H' s⟩⟩
    cases r;rfl
   |_=>cases hd
theorem bg {r:R2}{F:D->D->Option D}{k1 k2:Kd}(hr:IxR X r)(hF:mL X.K k r F)(ha:DP X c k1 a f)(hb:DP X c k2 b g)(hs:oC b):DP X c k (.Subscript a b pos) (au F f g):=λhid ρ=>
 PE.imp (BE hr (ha hid ρ) (hb hid ρ) hs) λσ H Q h=>Fd hF h
end
def i2(C:Int->Int->Bool)(G:Int->Int->D):D->D->Option D
 | .int i,.int j=>if C i j=true then some (G i j) else none
 |_,_=>none
section
variable {K:W.Frag}
theorem o7 {C:Int->Int->Bool}{G:Int->Int->D}{x y d:D}(h:i2 C G x y=some d): ∃i j,x=.int i/\y=.int j/\C i j=true/\d=G i j:=by
 unfold i2 at h;split at h
 ·split at h
  ·cases h;exact⟨_,_,rfl,rfl, ‹_›,rfl⟩
  ·cases h
 ·cases h
theorem Ag {C:Int->Int->Prop}{B:Int->Int->Bool}{g:Int->Int->Int}(hC: ∀i j,B i j=true->C i j):mL K .s (rI C λi j=>.int (g i j)) (i2 B λi j=>.int (g i j)):=by
 intro H hid v u x y d Q hf h r1 r2 q;obtain⟨i,j,rfl,rfl,hc,rfl⟩:=o7 h
 cases r1.int;cases r2.int
 exact⟨i,j,rfl,rfl,hC i j hc,q _ H (Same.refl _) .int⟩
theorem u0 {g:Int->Int->Int}:mL K .s (zP λi j=>.int (g i j)) (i2 (λ_ _=>true) λi j=>.int (g i j)):=by
 intro H hid v u x y d Q hf h r1 r2 q;obtain⟨i,j,rfl,rfl,hc,rfl⟩:=o7 h
 cases r1.int;cases r2.int
 exact⟨i,j,rfl,rfl,q _ H (Same.refl _) .int⟩
theorem h9 {g:Int->Int->Bool}:mL K .s (zP λi j=>.bl (g i j)) (i2 (λ_ _=>true) λi j=>.bl (g i j)):=by
 intro H hid v u x y d Q hf h r1 r2 q;obtain⟨i,j,rfl,rfl,hc,rfl⟩:=o7 h
 cases r1.int;cases r2.int
 exact⟨i,j,rfl,rfl,q _ H (Same.refl _) .bl⟩
end
section
variable {X:Cx}{c:Ct}{e a b:Expr}{es rest:List Expr}{f g:FE}{p q:FT}{k:Kd}{pos:Pos}
def D4:D->Option Bool
 | .non=>some false
 | .bl b=>some b
 | .int i=>some (i !=0)
 | .str y=>if y.length<=sizeLine then some ((y.length:Int) !=0) else none
 | .lst ds=>some (!ds.isEmpty)
 | .tup ds=>some (!ds.isEmpty)
 | .scr ds=>some (!ds.isEmpty)
 | .dct _ _=>none
theorem Reps.isEmpty {K:W.Frag}{F:Hp}{xs:List V}{ds:List D}(r:Reps K F xs ds):xs.isEmpty=ds.isEmpty:=by cases r<;>rfl
theorem Ci {K:W.Frag}{H:Hp}{hid:aX}{v:V}{d:D}{b:Bool}(h:D4 d=some b)(r:Rep1 K H (vw H hid) v d):Cz K v H b:=by
 cases d with
 |non=>cases r.non;cases h;rfl
 |bl x=>cases r.bl;cases h;rfl
 |int i=>cases r.int;cases h;rfl
 |str y=>
  cases r.str
  have h':(if y.length<=sizeLine then some ((y.length:Int) !=0) else none)=some b:=h
  split at h'
  ·cases h';exact⟨‹_›,rfl⟩
  ·cases h'
 |lst ds=>
  obtain⟨a,xs,rfl,h1,h2⟩:=r.lst
  cases h
  exact .inl ⟨xs,h1,by rw[h2.isEmpty]⟩
 |tup ds=>
  obtain⟨a,xs,rfl,_,h1,h2⟩:=r.tup
  cases h
  exact .inr (.inl ⟨xs,h1,by rw[h2.isEmpty]⟩)
 |scr ds=>
  obtain⟨a,xs,rfl,h1,h2⟩:=r.scr
  cases h
  exact .inl ⟨xs,h1,by rw[h2.isEmpty]⟩
 |dct _ _=>cases h
def kI(f:FE):FT:=λρ=>(f ρ).bind D4
theorem iQ(ha:DP X c k a f)(he: ∀whole,isTrue a X.env whole=(do let v <-whole;standAt a.pos;holding [v] (truthy v)):=by intro _;rfl):DT X c a (kI f):=λhid ρ=>
 PT.imp (yO (ha hid ρ) he) λσ H Q hq_=>by
  obtain⟨sr,d,hd,q⟩:=hq_
  unfold kI at hd;cases e:f ρ with
  |none=>rw[e] at hd;cases hd
  |some x=>
   rw[e] at hd;exact⟨sr,x,e,λv H' s r=>⟨d,Ci hd (RK.b k r λa n=>sr.fresh n),q H' s⟩⟩
def jM(p q:FT):FT:=λρ=>(p ρ).bind λb=>if b=true then q ρ else some false
def EU(p q:FT):FT:=λρ=>(p ρ).bind λb=>if b=true then some true else q ρ
def mh(p:FT):FT:=λρ=>(p ρ).map (!·)
theorem oy(ha:DT X c a p):DW X c (.BoolOp .And [a] pos) p:=λhid ρ=>pw_and1 (ha hid ρ)
theorem B9(ha:DT X c a p):DW X c (.BoolOp .Or [a] pos) p:=λhid ρ=>pw_or1 (ha hid ρ)
theorem tM(ha:DT X c a p)(hb:DW X c (.BoolOp .And (b::rest) pos) q):DW X c (.BoolOp .And (a::b::rest) pos) (jM p q):=λhid ρ=>
 PW.imp (pw_and (ha hid ρ) (hb hid ρ)) λσ H Q hq_=>by
  obtain⟨sr,d,hd,hq⟩:=hq_
  unfold jM at hd;cases e:p ρ with
  |none=>rw[e] at hd;cases hd
  |some x=>
   rw[e] at hd;refine⟨sr,x,e,λH1 s1=>?_⟩
   cases x with
   |true=>exact vM ⟨sr.ext s1,d,hd,λH2 s2=>hq H2 (s1.trans s2)⟩
   |false=>cases hd;exact wg (hq H1 s1)
theorem Eh(ha:DT X c a p)(hb:DW X c (.BoolOp .Or (b::rest) pos) q):DW X c (.BoolOp .Or (a::b::rest) pos) (EU p q):=λhid ρ=>
 PW.imp (pw_or (ha hid ρ) (hb hid ρ)) λσ H Q hq_=>by
  obtain⟨sr,d,hd,hq⟩:=hq_
  unfold EU at hd;cases e:p ρ with
  |none=>rw[e] at hd;cases hd
  |some x=>
   rw[e] at hd;refine⟨sr,x,e,λH1 s1=>?_⟩
   cases x with
   |false=>exact wg ⟨sr.ext s1,d,hd,λH2 s2=>hq H2 (s1.trans s2)⟩
   |true=>cases hd;exact vM (hq H1 s1)
theorem DW.dt(h:DW X c e p):DT X c e p:=λhid ρ=>(h hid ρ).pt
theorem sJ(ha:DT X c a p):DT X c (.UnaryOp .Not a pos) (mh p):=λhid ρ=>
 PT.imp (Cq (ha hid ρ)) λσ H Q hq_=>by
  obtain⟨sr,d,hd,hq⟩:=hq_
  unfold mh at hd;cases e:p ρ with
  |none=>rw[e] at hd;cases hd
  |some x=>rw[e] at hd;cases hd;exact⟨sr,x,e,λH1 s1=>hq H1 s1⟩
def wN(p:FT):FE:=λρ=>(p ρ).map D.bl
def cR(f:FE):FT:=λρ=>AA (f ρ)
theorem lO {ρ:ay}{b:Bool}(h:cR f ρ=some b):f ρ=some (.bl b):=by
 unfold cR AA at h;split at h
 ·cases h;assumption
 ·cases h
theorem pQ(ha:DP X c .s a f)(hb:DP X c .s (.BoolOp .And (b::rest) pos) g):DP X c .s (.BoolOp .And (a::b::rest) pos) (wN (jM (cR f) (cR g))):=λhid ρ=>
 PE.imp (BM (ha hid ρ) (hb hid ρ)) λσ H Q hq_=>by
  obtain⟨sr,d,hd,hq⟩:=hq_
  unfold wN jM at hd;cases e:cR f ρ with
  |none=>rw[e] at hd;cases hd
  |some x=>
   rw[e] at hd;refine⟨sr,_,lO e,λv H1 s1 r=>?_⟩
   cases r
   refine⟨x,rfl,?_⟩
   cases x with
   |true=>
    refine vM ?_
    cases e2:cR g ρ with
    |none=>rw[show(some true:Option Bool).bind (λb=>if b=true then cR g ρ else some false)=cR g ρ from rfl,e2] at hd;cases hd
    |some y=>
     rw[show(some true:Option Bool).bind (λb=>if b=true then cR g ρ else some false)=cR g ρ from rfl,e2] at hd;cases hd
     exact⟨sr.ext s1,_,lO e2,λv2 H2 s2 r2=>hq v2 H2 (s1.trans s2) r2⟩
   |false=>cases hd;exact wg (hq _ H1 s1 .bl)
theorem sA {op}(h:DP X c k a f):DP X c k (.BoolOp op [a] pos) f:=λhid ρ=>CO (h hid ρ)
theorem yp(ha:DP X c .s a f):DP X c .s (.UnaryOp .Not a pos) (wN (mh (cR f))):=λhid ρ=>
 PE.imp (CC (ha hid ρ)) λσ H Q hq_=>by
  obtain⟨sr,d,hd,hq⟩:=hq_
  unfold wN mh at hd;cases e:cR f ρ with
  |none=>rw[e] at hd;cases hd
  |some x=>
   rw[e] at hd;cases hd;refine⟨sr,_,lO e,λv H1 s1 r=>?_⟩
   cases r
   exact⟨x,rfl,hq _ H1 s1 .bl⟩
def BK(p:FT)(f g:FE):FE:=λρ=>(p ρ).bind λb=>if b=true then f ρ else g ρ
theorem DU {t:Expr}(hk:k≠ .n)(ht:DT X c t p)(ha:DP X c k a f)(hb:DP X c k b g):DP X c k (.IfExp t a b pos) (BK p f g):=λhid ρ=>
 PE.imp (y8 (ht hid ρ) (ha hid ρ) (hb hid ρ)) λσ H Q hq_=>by
  obtain⟨sr,d,hd,hq⟩:=hq_
  unfold BK at hd;cases e:p ρ with
  |none=>rw[e] at hd;cases hd
  |some x=>
   rw[e] at hd;refine⟨sr,x,e,λH1 s1=>?_⟩
   have lf: ∀ {v H2},RK X.K k H1 H2 hid v d->RK X.K k H H2 hid v d:=λ{v H2} r=>RK.left s1 r
   cases x with
   |true=>exact vM ⟨sr.ext s1,d,hd,λv H2 s2 r=>hq v H2 (s1.trans s2) (lf r)⟩
   |false=>exact wg ⟨sr.ext s1,d,hd,λv H2 s2 r=>hq v H2 (s1.trans s2) (lf r)⟩
variable {r r':R2}{h:FE}{e3:Expr}
end
section
variable {X:Cx}{c:Ct}{e a b:Expr}{es rest:List Expr}{f g:FE}{fs:FA}{k:Kd}{pos:Pos}
def aj:FA:=λ_=>some []
def ab(f:FE)(fs:FA):FA:=λρ=>(f ρ).bind λd=>(fs ρ).map λr=>d::r
theorem dN {ρ:ay}{ds:List D}(h:ab f fs ρ=some ds): ∃d r,f ρ=some d/\fs ρ=some r/\ds=d::r:=by
 unfold ab at h;cases e1:f ρ with
 |none=>rw[e1] at h;cases h
 |some d=>
  cases e2:fs ρ with
  |none=>rw[e1,e2] at h;cases h
  |some r=>rw[e1,e2] at h;cases h;exact⟨d,r,rfl,rfl,rfl⟩
theorem ah:DA X c [] aj:=λhid ρ=>PA.imp bJ λσ H Q ⟨sr,d,hd,q⟩=>by cases hd;exact q [] H (Same.refl _) .nil
theorem ae(ha:DP X c .s e f)(hr:DA X c es fs)(hs:starEach (e::es) X.env=(false,eval e X.env)::starEach es X.env:=by rfl):DA X c (e::es) (ab f fs):=λhid ρ=>
 PA.imp (a8 (ha hid ρ) (hr hid ρ) hs) λσ H Q hq_=>by
  obtain⟨sr,d,hd,q⟩:=hq_
  obtain⟨d1,r,e1,e2,rfl⟩:=dN hd
  exact⟨sr,d1,e1,λv H1 s1 r1=>⟨sr.ext s1,r,e2,λvs H2 s2 r2=>q _ H2 (s1.trans s2) (.cons (Rep.mono (aw s2) r1) r2)⟩⟩
def bW(fs:FA):FE:=λρ=>(fs ρ).bind λds=>if ds.length<=sizeLine then some (.tup ds) else none
def eS(fs:FA):FE:=λρ=>(fs ρ).bind λds=>if ds.length<=sizeLine then some (.lst ds) else none
theorem vy {ρ:ay}{d:D}(h:bW fs ρ=some d): ∃ds,fs ρ=some ds/\ds.length<=sizeLine/\d=.tup ds:=by
 unfold bW at h;cases e1:fs ρ with
 |none=>rw[e1] at h;cases h
 |some ds=>
  rw[e1] at h;have h':(if ds.length<=sizeLine then some (D.tup ds) else none)=some d:=h
  split at h'
  ·cases h';exact⟨ds,rfl, ‹_›,rfl⟩
  ·cases h'
theorem vo {ρ:ay}{d:D}(h:eS fs ρ=some d): ∃ds,fs ρ=some ds/\ds.length<=sizeLine/\d=.lst ds:=by
 unfold eS at h;cases e1:fs ρ with
 |none=>rw[e1] at h;cases h
 |some ds=>
  rw[e1] at h;have h':(if ds.length<=sizeLine then some (D.lst ds) else none)=some d:=h
  split at h'
  ·cases h';exact⟨ds,rfl, ‹_›,rfl⟩
  ·cases h'
theorem aC {H:Hp}{p:Addr}(h:H p=none)(o:HO):Same H (aV H p o):=λb u q=>by rw[ax (aM q h)];exact q
theorem gP {K:W.Frag}{H:Hp}{hid:aX}{p:Addr}{xs:List V}{ds:List D}(hn:H p=none)(hf:hid p=false)(r:Reps K (vw H hid) xs ds):Rep K (vw (aV H p (.tup xs)) hid) (.ref p) (.tup ds):=
 .tup (vw_some.mpr ⟨hf,aA⟩) (r.mono (aw (aC hn _)))
theorem c8 {K:W.Frag}{H H0:Hp}{hid:aX}{p:Addr}{xs:List V}{ds:List D}(hn:H p=none)(s:Same H0 H)(r:Reps K (vw H hid) xs ds):RN K H0 (aV H p (.lst xs)) hid (.ref p) (.lst ds):=
 ⟨p,xs,ds,rfl,rfl,s.free hn,aA,by rw[pI hn];exact r⟩
theorem cm {x1}(h:DA X c es fs):DP X c .s (.Tuple es x1 pos) (bW fs):=λhid ρ=>PE.imp (o6 (h hid ρ)) λσ H Q hq_=>by
 obtain⟨sr,d,hd,q⟩:=hq_
 obtain⟨ds,e1,hz,rfl⟩:=vy hd
 exact⟨sr,ds,e1,λvs H1 s1 r1=>⟨by rw[r1.length];exact hz,λp hp=>q _ _ (s1.trans (aC hp _)) (gP hp ((sr.ext s1).fresh hp) r1)⟩⟩
theorem eG(h:DA X c es fs):DP X c .n (.List es pos) (eS fs):=λhid ρ=>PE.imp (CS (h hid ρ)) λσ H Q hq_=>by
 obtain⟨sr,d,hd,q⟩:=hq_
 obtain⟨ds,e1,hz,rfl⟩:=vo hd
 exact⟨sr,ds,e1,λvs H1 s1 r1=>⟨by rw[r1.length];exact hz,λp hp=>q _ _ (s1.trans (aC hp _)) (c8 hp s1 r1)⟩⟩
abbrev Reps1(K:W.Frag)(H W:Hp):List V->List D->Prop:=Paired (Rep1 K H W)
def GC(K:W.Frag)(c:Ct)(hid:aX)(f:FA)(ρ:ay):TA:=λσ H Q=>SR K c hid ρ σ H/\ ∃d,f ρ=some d/\ ∀vs H',Same H H'->Reps1 K H' (vw H' hid) vs d->Q vs H'
def DB(X:Cx)(c:Ct)(es:List Expr)(f:FA):Prop:= ∀hid ρ,PA X es (GC X.K c hid f ρ)
theorem bd:DB X c [] aj:=λhid ρ=>PA.imp bJ λσ H Q ⟨sr,d,hd,q⟩=>by cases hd;exact q [] H (Same.refl _) .nil
theorem aL(ha:DP X c k e f)(hr:DB X c es fs)(hs:starEach (e::es) X.env=(false,eval e X.env)::starEach es X.env:=by rfl):DB X c (e::es) (ab f fs):=λhid ρ=>
 PA.imp (a8 (ha hid ρ) (hr hid ρ) hs) λσ H Q hq_=>by
  obtain⟨sr,d,hd,q⟩:=hq_
  obtain⟨d1,r,e1,e2,rfl⟩:=dN hd
  exact⟨sr,d1,e1,λv H1 s1 r1=>⟨sr.ext s1,r,e2,λvs H2 s2 r2=>q _ H2 (s1.trans s2) (.cons ((RK.b k r1 λa n=>sr.fresh n).ext s2) r2)⟩⟩
def ga(K:W.Frag)(k:Kd)(r:List V->Hp->VK->Prop)(F:List D->Option D):Prop:= ∀(H:Hp) (hid:aX) (vs:List V) (ds:List D) (d:D) (Q:VK),(∀a,H a=none->hid a=false)->F ds=some d->Reps1 K H (vw H hid) vs ds->
 (∀w H',Same H H'->RK K k H H' hid w d->Q w H')->r vs H Q
def am(F:List D->Option D)(fs:FA):FE:=λρ=>(fs ρ).bind F
theorem lF {F:List D->Option D}{ρ:ay}{d:D}(h:am F fs ρ=some d): ∃ds,fs ρ=some ds/\F ds=some d:=by
 unfold am at h;cases e1:fs ρ with
 |none=>rw[e1] at h;cases h
 |some ds=>rw[e1] at h;exact⟨ds,rfl,h⟩
theorem Eb {r:List V->Hp->VK->Prop}{F:List D->Option D}{hid:aX}{ρ:ay}(hF:ga X.K k r F){σ:St}{H:Hp}{Q:VK}(h:Cs X.K c hid k (am F fs) ρ σ H Q):En r (GC X.K c hid fs ρ) σ H Q:=by
 obtain⟨sr,d,hd,q⟩:=h
 obtain⟨ds,e1,e2⟩:=lF hd
 exact⟨sr,ds,e1,λvs H1 s1 r1=>hF H1 hid vs ds d Q (λa n=>(sr.ext s1).fresh n) e2 r1 λw H' s2 r2=>q w H' (s1.trans s2) (RK.left s1 r2)⟩
variable {x:Str}{p:Pos}{id T:String}{r:List V->Hp->VK->Prop}{F:List D->Option D}
theorem aO(hc:bU X (.builtin id) r)(hF:ga X.K k r F)(hm:X.mg x=none)(ha:DB X c (e::es) fs)(hg:Gl X x:=by rfl)(hv:bootBuiltins x=some (.builtin id):=by first|exact PySem.boot_len|rfl|kernel_rfl)(hn:x≠"__name__":=by decide)(hdb:(x==("__debug__":Str))=false:=by decide)
 (he:starEach (e::es) X.env=(false,eval e X.env)::starEach es X.env:=by rfl) (hpl:(backTo pos (starEach es X.env)).any (·.1)=false:=by rfl):DP X c k (.Call (.Name x p) (e::es) [] pos) (am F fs):=λhid ρ=>
 PE.imp (fC hc hg hm hv (ha hid ρ) hn hdb he hpl) λσ H Q h=>Eb hF h
theorem jT(hc:bU X (.type T) r)(hF:ga X.K k r F)(hm:X.mg x=none)(ha:DB X c (e::es) fs)(hg:Gl X x:=by rfl)(hv:bootBuiltins x=some (.type T):=by first|rfl|kernel_rfl)(hn:x≠"__name__":=by decide)(hdb:(x==("__debug__":Str))=false:=by decide)
 (he:starEach (e::es) X.env=(false,eval e X.env)::starEach es X.env:=by rfl) (hpl:(backTo pos (starEach es X.env)).any (·.1)=false:=by rfl):DP X c k (.Call (.Name x p) (e::es) [] pos) (am F fs):=λhid ρ=>
 PE.imp (fq hc hg hm hv (ha hid ρ) hn hdb he hpl) λσ H Q h=>Eb hF h
end
section
variable {K:W.Frag}
theorem Reps1.one {H W:Hp}{v:List V}{d:D}(r:Reps1 K H W v [d]): ∃x,v=[x]/\Rep1 K H W x d:=by
 cases r with
 |cons r t=>cases t;exact⟨_,rfl,r⟩
theorem Reps1.two {H W:Hp}{v:List V}{d d':D}(r:Reps1 K H W v [d,d']): ∃x y,v=[x,y]/\Rep1 K H W x d/\Rep1 K H W y d':=by
 cases r with
 |cons r t=>cases t with
  |cons r' t=>cases t;exact⟨_,_,rfl,r,r'⟩
def cI:List D->Option D
 | [.lst ds]=>some (.int ds.length)
 | [.tup ds]=>some (.int ds.length)
 | [.scr ds]=>some (.int ds.length)
 |_=>none
theorem cA:ga K .s (λxs H Q=> ∃p ys,xs=[.ref p]/\(SqL K H p ys\/SqT K H p ys)/\Q (.int ys.length) H) cI:=by
 intro H hid vs ds d Q hf h r q;unfold cI at h;split at h
 ·cases h
  obtain⟨x,rfl,r1⟩:=Reps1.one r
  obtain⟨a,xs,rfl,h1,h2⟩:=r1.lst
  exact⟨a,xs,rfl,.inl h1,by rw[h2.length];exact q _ H (Same.refl _) .int⟩
 ·cases h
  obtain⟨x,rfl,r1⟩:=Reps1.one r
  obtain⟨a,xs,rfl,_,h1,h2⟩:=r1.tup
  exact⟨a,xs,rfl,.inr h1,by rw[h2.length];exact q _ H (Same.refl _) .int⟩
 ·cases h
  obtain⟨x,rfl,r1⟩:=Reps1.one r
  obtain⟨a,xs,rfl,h1,h2⟩:=r1.scr
  exact⟨a,xs,rfl,.inl h1,by rw[h2.length];exact q _ H (Same.refl _) .int⟩
 ·cases h
def qT:List D->Option D
 | [.int i]=>some (.int (if i<0 then -i else i))
 |_=>none
theorem CI:ga K .s (λxs H Q=> ∃i,xs=[.int i]/\Q (.int (if i<0 then -i else i)) H) qT:=by
 intro H hid vs ds d Q hf h r q;unfold qT at h;split at h
 ·cases h
  obtain⟨x,rfl,r1⟩:=Reps1.one r
  cases r1.int
  exact⟨_,rfl,q _ H (Same.refl _) .int⟩
 ·cases h
def ua:List D->Option D
 | [.int i,.int j]=>some (.int (if j>i then j else i))
 |_=>none
theorem zO:ga K .s (λxs H Q=> ∃i j,xs=[.int i,.int j]/\Q (.int (if j>i then j else i)) H) ua:=by
 intro H hid vs ds d Q hf h r q;unfold ua at h;split at h
 ·cases h
  obtain⟨x,y,rfl,r1,r2⟩:=Reps1.two r
  cases r1.int;cases r2.int
  exact⟨_,_,rfl,q _ H (Same.refl _) .int⟩
 ·cases h
def jc:List D->Option D
 | [.int i,.int j]=>some (.int (if j<i then j else i))
 |_=>none
theorem ve:ga K .s (λxs H Q=> ∃i j,xs=[.int i,.int j]/\Q (.int (if j<i then j else i)) H) jc:=by
 intro H hid vs ds d Q hf h r q;unfold jc at h;split at h
 ·cases h
  obtain⟨x,y,rfl,r1,r2⟩:=Reps1.two r
  cases r1.int;cases r2.int
  exact⟨_,_,rfl,q _ H (Same.refl _) .int⟩
 ·cases h
def rg:List D->Option D
 | [.lst ds]=>some (.lst ds)
 | [.tup ds]=>some (.lst ds)
 |_=>none
theorem uk:ga K .n (λxs H Q=> ∃p ys,xs=[.ref p]/\(SqL K H p ys\/SqT K H p ys)/\ ∀l,H l=none->Q (.ref l) (aV H l (.lst ys))) rg:=by
 intro H hid vs ds d Q hf h r q;unfold rg at h;split at h
 ·cases h
  obtain⟨x,rfl,r1⟩:=Reps1.one r
  obtain⟨a,xs,rfl,h1,h2⟩:=r1.lst
  exact⟨a,xs,rfl,.inl h1,λl hl=>q _ _ (aC hl _) (c8 hl (Same.refl _) h2)⟩
 ·cases h
  obtain⟨x,rfl,r1⟩:=Reps1.one r
  obtain⟨a,xs,rfl,_,h1,h2⟩:=r1.tup
  exact⟨a,xs,rfl,.inr h1,λl hl=>q _ _ (aC hl _) (c8 hl (Same.refl _) h2)⟩
 ·cases h
def so:List D->Option D
 | [.lst ds]=>some (.tup ds)
 | [.tup ds]=>some (.tup ds)
 |_=>none
theorem xX:ga K .s (λxs H Q=> ∃p ys,xs=[.ref p]/\((SqL K H p ys/\ ∀l,H l=none->Q (.ref l) (aV H l (.tup ys)))\/(SqT K H p ys/\Q (.ref p) H))) so:=by
 intro H hid vs ds d Q hf h r q;unfold so at h;split at h
 ·cases h
  obtain⟨x,rfl,r1⟩:=Reps1.one r
  obtain⟨a,xs,rfl,h1,h2⟩:=r1.lst
  exact⟨a,xs,rfl,.inl ⟨h1,λl hl=>q _ _ (aC hl _) (gP hl (hf l hl) h2)⟩⟩
 ·cases h
  obtain⟨x,rfl,r1⟩:=Reps1.one r
  obtain⟨a,xs,rfl,h0,h1,h2⟩:=r1.tup
  exact⟨a,xs,rfl,.inr ⟨h1,q _ H (Same.refl _) (.tup h0 h2)⟩⟩
 ·cases h
def df:D->D->Option D
 | .lst ds,.int i=>qP ds i
 | .tup ds,.int i=>qP ds i
 | .scr ds,.int i=>qP ds i
 |_,_=>none
theorem oQ {F:Hp}{xs:List V}{ds:List D}{i:Int}{d:D}(r:Reps K F xs ds)(h:qP ds i=some d): ∃x,qP xs i=some x/\Rep K F x d:=by
 unfold qP at h⊢;rw[r.length];cases e:wP ds.length i with
 |none=>rw[e] at h;cases h
 |some j=>
  rw[e] at h;obtain⟨x,h1,h2⟩:=r.get (i:=j) h
  exact⟨x,h1,h2⟩
theorem bn:mL K .s (FZ K) df:=by
 intro H hid v u x y d Q hf h r1 r2 q;unfold df at h;split at h
 ·cases r2.int
  obtain⟨a,xs,rfl,h1,h2⟩:=r1.lst
  obtain⟨z,h3,h4⟩:=oQ h2 h
  exact .inl ⟨a,xs,_,z,rfl,rfl,h1,h3,q _ H (Same.refl _) h4⟩
 ·cases r2.int
  obtain⟨a,xs,rfl,_,h1,h2⟩:=r1.tup
  obtain⟨z,h3,h4⟩:=oQ h2 h
  exact .inr (.inl ⟨a,xs,_,z,rfl,rfl,h1,h3,q _ H (Same.refl _) h4⟩)
 ·cases r2.int
  obtain⟨a,xs,rfl,h1,h2⟩:=r1.scr
  obtain⟨z,h3,h4⟩:=oQ h2 h
  exact .inl ⟨a,xs,_,z,rfl,rfl,h1,h3,q _ H (Same.refl _) h4⟩
 ·cases h
end
abbrev GE:=ay->Option (D×ay)
abbrev GA:=ay->Option (List D×ay)
def Kept(hid:aX)(H H':Hp):Prop:= ∀b o,H b=some o->hid b=false->H' b=some o
theorem Kept.of {hid:aX}{H H':Hp}(s:Same H H'):Kept hid H H':=λb o q _=>s b o q
theorem Kept.trans {hid:aX}{H H1 H2:Hp}(a:Kept hid H H1)(b:Kept hid H1 H2):Kept hid H H2:=λc o q h=>b c o (a c o q h) h
theorem Kept.vw {hid:aX}{H H':Hp}(a:Kept hid H H'):Same (vw H hid) (vw H' hid):=ul a
def PostE(K:W.Frag)(c:Ct)(hid:aX)(k:Kd)(ρ':ay)(σ:St)(H H':Hp)(v:V)(d:D):Prop:=Kept hid H H'/\match k with
 | .n=> ∃a xs ds,d=.lst ds/\v=.ref a/\H a=none/\H' a=some (.lst xs)/\c.H₀ a=none/\hid a=false/\SR K c (a7 hid a) ρ' σ H'/\Reps K (vw H' (a7 hid a)) xs ds/\ ∀i:Nat,Ow ρ'[i]? ->σ[i]? ≠some (some (.ref a))
 |_=>SR K c hid ρ' σ H'/\Rep K (vw H' hid) v d
def Fe(K:W.Frag)(c:Ct)(hid:aX)(k:Kd)(f:GE)(ρ:ay):TE:=λσ H Q=>SR K c hid ρ σ H/\ ∃d ρ',f ρ=some (d,ρ')/\ ∀v H',PostE K c hid k ρ' σ H H' v d->Q v H'
def DE(X:Cx)(c:Ct)(k:Kd)(e:Expr)(f:GE):Prop:= ∀hid ρ,PE X e (Fe X.K c hid k f ρ)
def pu(f:FE):GE:=λρ=>(f ρ).map λd=>(d,ρ)
theorem zM {f:FE}{ρ ρ':ay}{d:D}(h:pu f ρ=some (d,ρ')):f ρ=some d/\ρ'=ρ:=by
 unfold pu at h;cases e:f ρ with
 |none=>rw[e] at h;cases h
 |some x=>rw[e] at h;cases h;exact⟨rfl,rfl⟩
section
variable {K:W.Frag}{c:Ct}{hid hid':aX}{ρ:ay}{σ:St}{H H':Hp}{i:Nat}{a:Addr}
theorem bP {hid:aX}{a b:Addr}(h:hid b=true):a7 hid a b=true:=by unfold a7;rw[h];rfl
theorem bC {hid:aX}{a:Addr}:a7 hid a a=true:=by unfold a7;simp
theorem SR.hide(h:SR K c hid ρ σ H)(e:Same H H')(n:H a=none){o:HO}(ho:H' a=some o)(hn: ∀xs,o≠ .tup xs:=by intro _ e;cases e):SR K c (a7 hid a) ρ σ H':=by
 have sm:Same (vw H hid) (vw H' (a7 hid a)):=λb o q=>by
  obtain⟨q1,q2⟩:=vw_some.mp q
  refine vw_some.mpr ⟨?_,e _ _ q2⟩
  unfold a7;rw[q1];have:b≠a:=aM q2 n
  simp[this]
 refine⟨λb hb=>?_,λb xs hb q=>by
  by_cases eb:b=a
  ·subst eb;rw[ho] at q;exact hn _ (Option.some.inj q)
  ·unfold a7 at hb
   exact(h.ext e).ht b xs (by simpa [eb] using hb) q,λb q=>bP (h.h0 b q),(h.ext e).kp,(h.ext e).t0,h.c0,h.m0,h.len,λi s q=>?_,h.ap⟩
 ·by_cases eb:b=a
  ·subst eb;exact⟨_,ho⟩
  ·unfold a7 at hb
   have:hid b=true:=by simpa [eb] using hb
   obtain⟨o',q⟩:=h.tr b this
   exact⟨o',e _ _ q⟩
 ·have z:=h.sl i s q
  cases s with
  |no=>trivial
  |v d=>obtain⟨x,h1,h2⟩:=z;exact⟨x,h1,h2.mono sm⟩
  |own ds=>obtain⟨a',xs,h1,h2,h3,h4,h5⟩:=z;exact⟨a',xs,h1,e _ _ h2,bP h3,h4,h5.mono sm⟩
  |arg ds=>obtain⟨a',xs,h1,h2,h3,h4,h5⟩:=z;exact⟨a',xs,h1,e _ _ h2,bP h3,h4,h5.mono sm⟩
  |ob b=>obtain⟨a',h1,h2⟩:=z;exact⟨a',h1,h2.mono (λ_ x _=>e x) sm λ_ _ _=>bP⟩
theorem SR.show (h:SR K c (a7 hid a) ρ σ H)(h0: ∀b,c.hid₀ b=true->hid b=true)(no: ∀i:Nat,Ow ρ[i]? ->σ[i]? ≠some (some (.ref a))){o:HO}(ha:H a=some o)(hn: ∀p u,o≠ .nst p u:=by intro _ _ e;cases e):SR K c hid ρ σ H:=by
 have sm:Same (vw H (a7 hid a)) (vw H hid):=cX λb q=>bP q
 have un: ∀b,b≠a->a7 hid a b=true->hid b=true:=λb nb hb=>by unfold a7 at hb;simpa [nb] using hb
 refine⟨λb hb=>h.tr b (bP hb),λb xs hb=>h.ht b xs (bP hb),h0,h.kp,h.t0,h.c0,h.m0,h.len,λi s q=>?_,h.ap⟩
 have z:=h.sl i s q
 cases s with
 |no=>trivial
 |v d=>obtain⟨x,h1,h2⟩:=z;exact⟨x,h1,h2.mono sm⟩
 |own ds=>
  obtain⟨a',xs,h1,h2,h3,h4,h5⟩:=z
  have:a'≠a:=λe=>by subst e;exact no i (by rw[q];trivial) h1
  exact⟨a',xs,h1,h2,un a' this h3,h4,h5.mono sm⟩
 |arg ds=>
  obtain⟨a',xs,h1,h2,h3,h4,h5⟩:=z
  have:a'≠a:=λe=>by subst e;exact no i (by rw[q];trivial) h1
  exact⟨a',xs,h1,h2,un a' this h3,h4,h5.mono sm⟩
 |ob b=>
  obtain⟨a',h1,h2⟩:=z
  exact⟨a',h1,h2.mono (λ_ _ _ _ q=>q) sm λow x hx=>un x (hx.ne (λe=>by subst e;exact no i (by rw[q];exact ow) h1) ha hn)⟩
theorem SR.notOw(h:SR K c hid ρ σ H)(n:hid a=false)(i:Nat)(o:Ow ρ[i]?):σ[i]? ≠some (some (.ref a)):=λe=>by
 cases q:ρ[i]? with
 |none=>rw[q] at o;exact o
 |some s=>
  rw[q] at o;have z:=h.sl i s q
  cases s with
  |no=>exact o
  |v d=>exact o
  |own ds=>obtain⟨a',xs,h1,h2,h3,_⟩:=z;rw[e] at h1;cases h1;rw[n] at h3;cases h3
  |arg ds=>obtain⟨a',xs,h1,h2,h3,_⟩:=z;rw[e] at h1;cases h1;rw[n] at h3;cases h3
  |ob b=>obtain⟨a',h1,h2⟩:=z;rw[e] at h1;cases h1;have:=h2.hid o;rw[n] at this;cases this
theorem SR.post {k:Kd}{v:V}{d:D}(h:SR K c hid ρ σ H)(e:Same H H')(r:RK K k H H' hid v d)(hk:k≠ .b):PostE K c hid k ρ σ H H' v d:=by
 cases k with
 |b=>exact absurd rfl hk
 |s=>exact⟨.of e,h.ext e,r⟩
 |n=>
  obtain⟨a,xs,ds,h1,h2,h3,h4,h5⟩:=r
  exact⟨.of e,a,xs,ds,h1,h2,h3,h4,h.fresh0 h3,h.fresh h3,h.hide e h3 h4,h5,h.notOw (h.fresh h3)⟩
theorem PostE.left {k:Kd}{ρ':ay}{H1:Hp}{v:V}{d:D}(s:Kept hid H H1)(p:PostE K c hid k ρ' σ H1 H' v d):PostE K c hid k ρ' σ H H' v d:=by
 cases k with
 |b=>exact⟨s.trans p.1,p.2⟩
 |s=>exact⟨s.trans p.1,p.2⟩
 |n=>
  obtain⟨kp,a,xs,ds,h1,h2,hn,h3,h4,h5,h6⟩:=p
  refine⟨s.trans kp,a,xs,ds,h1,h2,?_,h3,h4,h5,h6⟩
  cases e:H a with
  |none=>rfl
  |some o=>rw[s a o e h5] at hn;cases hn
theorem PostE.toS {ρ':ay}{v:V}{d:D}(h0: ∀b,c.hid₀ b=true->hid b=true)(p:PostE K c hid .n ρ' σ H H' v d):PostE K c hid .s ρ' σ H H' v d:=by
 obtain⟨kp,a,xs,ds,rfl,rfl,hn,h1,h2,h3,h4,h5,h6⟩:=p
 exact⟨kp,h4.show h0 h6 h1,.lst (vw_some.mpr ⟨h3,h1⟩) (h5.mono (cX λb q=>bP q))⟩
end
section
variable {X:Cx}{c:Ct}{e a b:Expr}{es rest:List Expr}{f g:GE}{k:Kd}{pos:Pos}
theorem DP.ef {f:FE}(h:DP X c k e f)(hk:k≠ .b:=by decide):DE X c k e (pu f):=λhid ρ=>PE.imp (h hid ρ) λσ H Q hq_=>by
 obtain⟨sr,d,ρ',hd,q⟩:=hq_
 obtain⟨h1,rfl⟩:=zM hd
 exact⟨sr,d,h1,λv H' s r=>q v H' (sr.post s r hk)⟩
theorem DE.toS(h:DE X c .n e f):DE X c .s e f:=λhid ρ=>PE.imp (h hid ρ) λσ H Q ⟨sr,d,ρ',hd,q⟩=>⟨sr,d,ρ',hd,λv H' p=>q v H' (p.toS sr.h0)⟩
def bE {α:Type}(f:GE)(g:D->ay->Option α):ay->Option α:=λρ=>(f ρ).bind λp=>g p.1 p.2
theorem oh {α:Type}{g:D->ay->Option α}{ρ:ay}{z:α}(h:bE f g ρ=some z): ∃d ρ',f ρ=some (d,ρ')/\g d ρ'=some z:=by
 unfold bE at h;cases e:f ρ with
 |none=>rw[e] at h;cases h
 |some p=>rw[e] at h;exact⟨p.1,p.2,rfl,h⟩
def eX(F:D->D->Option D)(f g:GE):GE:=bE f λx=>bE g λy ρ=>(F x y).map λd=>(d,ρ)
theorem vU {F:D->D->Option D}{ρ ρ':ay}{d:D}(h:eX F f g ρ=some (d,ρ')): ∃x ρ1 y,f ρ=some (x,ρ1)/\g ρ1=some (y,ρ')/\F x y=some d:=by
 obtain⟨x,ρ1,h1,h2⟩:=oh h
 obtain⟨y,ρ2,h3,h4⟩:=oh h2
 cases e:F x y with
 |none=>rw[e] at h4;cases h4
 |some z=>rw[e] at h4;cases h4;exact⟨x,ρ1,y,h1,h3,e⟩
theorem Ei {r:R2}{F:D->D->Option D}{hid:aX}{ρ:ay}(hF:mL X.K k r F)(hk:k≠ .b){σ:St}{H:Hp}{Q:VK}(h:Fe X.K c hid k (eX F f g) ρ σ H Q):Dt r (Fe X.K c hid .s f ρ) (λσ H Q=> ∃ρ1,Fe X.K c hid .s g ρ1 σ H Q) σ H Q:=by
 obtain⟨sr,d,ρ',hd,q⟩:=h
 obtain⟨x,ρ1,y,e1,e2,e3⟩:=vU hd
 refine⟨sr,x,ρ1,e1,λv H1 ⟨k1,s1,r1⟩=>⟨ρ1,s1,y,ρ',e2,λu H2 ⟨k2,s2,r2⟩=>?_⟩⟩
 exact hF H2 hid v u x y d Q (λa n=>s2.fresh n) e3 (.inl (r1.mono k2.vw)) (.inl r2) λw H' s3 r3=>q w H' (PostE.left (k1.trans k2) (s2.post s3 r3 hk))
theorem iH {α:Type}{t:α->TE}(h: ∀z,PE X e (t z)):PE X e (λσ H Q=> ∃z,t z σ H Q):=λaa s σ H Q I ⟨z,q⟩=>h z aa s σ H Q I q
theorem Bk {op:Operator}{r:R2}{F:D->D->Option D}(ho:jD X (binaryOp op) r)(hF:mL X.K k r F)(ha:DE X c .s a f)(hb:DE X c .s b g)(hk:k≠ .b:=by decide):DE X c k (.BinOp a op b pos) (eX F f g):=λhid ρ=>
 PE.imp (wV ho (ha hid ρ) (iH λρ1=>hb hid ρ1)) λσ H Q h=>Ei hF hk h
def GV(K:W.Frag)(c:Ct)(hid:aX)(f:GA)(ρ:ay):TA:=λσ H Q=>SR K c hid ρ σ H/\ ∃d ρ',f ρ=some (d,ρ')/\ ∀vs H',Kept hid H H'->SR K c hid ρ' σ H'->Reps K (vw H' hid) vs d->Q vs H'
def DG(X:Cx)(c:Ct)(es:List Expr)(f:GA):Prop:= ∀hid ρ,PA X es (GV X.K c hid f ρ)
def fG(f:FA):GA:=λρ=>(f ρ).map λd=>(d,ρ)
theorem qN {f:FA}{ρ ρ':ay}{d:List D}(h:fG f ρ=some (d,ρ')):f ρ=some d/\ρ'=ρ:=by
 unfold fG at h;cases e:f ρ with
 |none=>rw[e] at h;cases h
 |some x=>rw[e] at h;cases h;exact⟨rfl,rfl⟩
theorem DA.gf {f:FA}(h:DA X c es f):DG X c es (fG f):=λhid ρ=>PA.imp (h hid ρ) λσ H Q hq_=>by
 obtain⟨sr,d,ρ',hd,q⟩:=hq_
 obtain⟨h1,rfl⟩:=qN hd
 exact⟨sr,d,h1,λv H' s r=>q v H' (.of s) (sr.ext s) r⟩
def iY(f:GE)(fs:GA):GA:=bE f λd ρ=>(fs ρ).map λp=>(d::p.1,p.2)
theorem Aa {α:Type}{t:α->TA}(h: ∀z,PA X es (t z)):PA X es (λσ H Q=> ∃z,t z σ H Q):=λp aa s σ H Q I ⟨z,q⟩=>h z p aa s σ H Q I q
theorem vj {fs:GA}(ha:DE X c .s e f)(hr:DG X c es fs)(hs:starEach (e::es) X.env=(false,eval e X.env)::starEach es X.env:=by rfl):DG X c (e::es) (iY f fs):=λhid ρ=>
 PA.imp (a8 (ha hid ρ) (Aa λρ1=>hr hid ρ1) hs) λσ H Q hq_=>by
  obtain⟨sr,d,ρ',hd,q⟩:=hq_
  obtain⟨d1,ρ1,e1,h2⟩:=oh hd
  cases e2:fs ρ1 with
  |none=>rw[e2] at h2;cases h2
  |some p=>
   rw[e2] at h2;obtain⟨ds,ρ2⟩:=p
   cases h2
   exact⟨sr,d1,ρ1,e1,λv H1 ⟨k1,s1,r1⟩=>⟨ρ1,s1,ds,_,e2,λvs H2 k2 s2 r2=>q _ H2 (k1.trans k2) s2 (.cons (r1.mono k2.vw) r2)⟩⟩
end
def bq(K:W.Frag)(k:Kd)(n:Nat)(P:List D->Option D):Sp:=λvs H Q _=> ∃hid ds,EX hid H/\Reps K (vw H hid) vs ds/\ds.length=n/\ ∃d,P ds=some d/\ ∀v H',Same H H'->RK K k H H' hid v d->Q v H'
def Ec(K:W.Frag)(k:Kd)(hid:aX)(H H':Hp)(v:V)(d:D)(xs':List V)(bs':List D):Prop:=match k with
 | .n=> ∃p ys es,d=.lst es/\v=.ref p/\H p=none/\H' p=some (.lst ys)/\Reps K (vw H' (a7 hid p)) ys es/\Reps K (vw H' (a7 hid p)) xs' bs'
 |_=>Rep K (vw H' hid) v d/\Reps K (vw H' hid) xs' bs'
def wM(K:W.Frag)(k:Kd)(n:Nat)(M:List D->List D->Option (D×List D)):Sp:=λvs H Q _=> ∃hid a xs bs us ds,vs=.ref a::us/\EX hid H/\hid a=true/\H a=some (.lst xs)/\Reps K (vw H hid) xs bs/\
 Reps K (vw H hid) us ds/\ds.length=n/\ ∃d bs',M bs ds=some (d,bs')/\ ∀v H' xs',(∀b o,H b=some o->b≠a->H' b=some o)->H' a=some (.lst xs')->Ec K k hid H H' v d xs' bs'->Q v H'
section
variable {X:Cx}{c:Ct}{e a b:Expr}{es rest:List Expr}{k:Kd}{pos p:Pos}{x:Str}{f:Addr}{fd:FuncData}{ps:List Str}{j n:Nat}
theorem AF {P:List D->Option D}{fs:FA}(F:FnOk X.prog X.w X.K X.mg X.base pN j f fd ps (bq X.K k n P))(hr:Room j X.A)(hm:X.mg x=some (.ref f))(hk:W.keepIn X.K (.ref f)=true)(hb:Binds X.K fd ps [])
 (ha:DA X c (e::es) fs) (hg:Gl X x:=by rfl) (hdb:(x==("__debug__":Str))=false:=by decide) (he:starEach (e::es) X.env=(false,eval e X.env)::starEach es X.env:=by rfl) (hpl:(backTo pos (starEach es X.env)).any (·.1)=false:=by rfl):
 DP X c k (.Call (.Name x p) (e::es) [] pos) (am (λds=>if ds.length=n then P ds else none) fs):=λhid ρ=>
 PE.imp (pD F hr hg hm hk hb .nil (xo (X:=X)) (ha hid ρ) hdb he hpl) λσ H Q hq_=>by
  obtain⟨sr,d,hd,q⟩:=hq_
  obtain⟨ds,e1,e2⟩:=lF hd
  have e2':(if ds.length=n then P ds else none)=some d:=e2
  split at e2'
  ·refine⟨sr,ds,e1,λvs H1 s1 r1=>?_⟩
   show bq X.K k n P (vs++[]) H1 Q E0;rw[List.append_nil];exact⟨hid,ds,(sr.ext s1).trk,r1, ‹_›,d,e2',λv H' s2 r2=>q v H' (s1.trans s2) (RK.left s1 r2)⟩
  ·cases e2'
def gq(i:Nat)(bs:List D)(ρ:ay):ay:=match ρ[i]? with
 |some (.own _)=>ρ.set i (.own bs)
 |some (.arg _)=>ρ.set i (.arg bs)
 |_=>ρ
def iu(i:Nat)(ρ:ay):Option (List D):=match ρ[i]? with
 |some (.own ds)=>some ds
 |some (.arg ds)=>some ds
 |_=>none
theorem fD {i:Nat}{ρ:ay}{bs:List D}(h:iu i ρ=some bs):ρ[i]? =some (.own bs)\/ρ[i]? =some (.arg bs):=by
 unfold iu at h;split at h
 ·cases h;exact .inl ‹_›
 ·cases h;exact .inr ‹_›
 ·cases h
theorem SR.held {K:W.Frag}{hid:aX}{ρ:ay}{σ:St}{H:Hp}{i:Nat}{bs:List D}(h:SR K c hid ρ σ H)(hg:iu i ρ=some bs): ∃a xs,σ[i]? =some (some (.ref a))/\H a=some (.lst xs)/\hid a=true/\Reps K (vw H hid) xs bs/\(c.mu a=true\/c.H₀ a=none):=by
 rcases fD hg with e|e
 ·obtain⟨a,xs,h1,h2,h3,h4,h5⟩:=h.sl i _ e
  exact⟨a,xs,h1,h2,h3,h5,.inr h4⟩
 ·obtain⟨a,xs,h1,h2,h3,h4,h5⟩:=h.sl i _ e
  exact⟨a,xs,h1,h2,h3,h5,.inl h4⟩
theorem ic {i j:Nat}{ρ:ay}{bs:List D}(h:j≠i):(gq i bs ρ)[j]? =ρ[j]? :=by
 unfold gq;split
 ·rw[List.getElem?_set_ne (Ne.symm h)]
 ·rw[List.getElem?_set_ne (Ne.symm h)]
 ·rfl
theorem yn {i:Nat}{ρ:ay}{bs:List D}:(gq i bs ρ).length=ρ.length:=by
 unfold gq;split
 ·simp
 ·simp
 ·rfl
theorem o4 {i j:Nat}{ρ:ay}{bs:List D}(h:Ow (gq i bs ρ)[j]?):Ow ρ[j]? :=by
 by_cases e:j=i
 ·subst e
  unfold gq at h;split at h
  ·rw[‹ρ[j]? =_›];trivial
  ·rw[‹ρ[j]? =_›];trivial
  ·exact h
 ·rw[ic e] at h;exact h
theorem SR.put {K:W.Frag}{hid:aX}{ρ:ay}{σ:St}{H H':Hp}{i:Nat}{bs bs':List D}{a:Addr}{xs':List V}(h:SR K c hid ρ σ H)(hg:iu i ρ=some bs)(ha:σ[i]? =some (some (.ref a)))(kp: ∀b o,H b=some o->b≠a->H' b=some o)
 (hx:H' a=some (.lst xs')) (r:Reps K (vw H' hid) xs' bs'):SR K c hid (gq i bs' ρ) σ H':=by
 obtain⟨a1,xs,h1,h2,h3,h4,h5⟩:=h.held hg
 rw[ha] at h1;cases h1;have sm:Same (vw H hid) (vw H' hid):=ul λb o q hb=>kp b o q (λe=>by subst e;rw[h3] at hb;cases hb)
 have tr': ∀b o,H b=some o-> ∃o',H' b=some o':=λb o q=>by
  by_cases e:b=a
  ·subst e;exact⟨_,hx⟩
  ·exact⟨o,kp b o q e⟩
 refine⟨λb hb=>let⟨o,q⟩:=h.tr b hb;tr' b o q,λb xs hb q=>by
  by_cases e:b=a
  ·subst e;rw[hx] at q;cases q
  ·obtain⟨o,w⟩:=h.tr b hb
   have z:=kp b o w e
   rw[q] at z;cases z;exact h.ht b xs hb w,h.h0,λb o q m=>?_,λb o q=>let⟨o',q'⟩:=h.t0 b o q;tr' b o' q',h.c0,h.m0,by rw[yn];exact h.len,λj s q=>?_,λj l z n o1 o2=>h.ap j l z n (o4 o1) (o4 o2)⟩
 ·refine kp b o (h.kp b o q m) λe=>?_
  subst e;rcases h5 with h5|h5
  ·rw[h5] at m;cases m
  ·rw[h5] at q;cases q
 ·by_cases e:j=i
  ·subst e
   rcases fD hg with w|w
   ·have lt:=(List.getElem?_eq_some_iff.mp w).1
    unfold gq at q;rw[w] at q;dsimp only at q;rw[List.getElem?_set_self lt] at q;cases q
    obtain⟨a2,xs2,g1,g2,g3,g4,g5⟩:=h.sl j _ w
    rw[ha] at g1;cases g1;exact⟨_,xs',ha,hx,g3,g4,r⟩
   ·have lt:=(List.getElem?_eq_some_iff.mp w).1
    unfold gq at q;rw[w] at q;dsimp only at q;rw[List.getElem?_set_self lt] at q;cases q
    obtain⟨a2,xs2,g1,g2,g3,g4,g5⟩:=h.sl j _ w
    rw[ha] at g1;cases g1;exact⟨_,xs',ha,hx,g3,g4,r⟩
  ·rw[ic e] at q
   have z:=h.sl j s q
   cases s with
   |no=>trivial
   |v d=>obtain⟨x,h1,h2⟩:=z;exact⟨x,h1,h2.mono sm⟩
   |own ds=>
    obtain⟨a',xs,z1,z2,z3,z4,z5⟩:=z
    have ne:a'≠a:=λe'=>by
     subst e';refine h.ap j i a' e (by rw[q];trivial) ?_ z1 ha
     rcases fD hg with w|w<;>rw[w]<;>trivial
    exact⟨a',xs,z1,kp _ _ z2 ne,z3,z4,z5.mono sm⟩
   |arg ds=>
    obtain⟨a',xs,z1,z2,z3,z4,z5⟩:=z
    have ne:a'≠a:=λe'=>by
     subst e';refine h.ap j i a' e (by rw[q];trivial) ?_ z1 ha
     rcases fD hg with w|w<;>rw[w]<;>trivial
    exact⟨a',xs,z1,kp _ _ z2 ne,z3,z4,z5.mono sm⟩
   |ob b=>
    obtain⟨a',z1,z2⟩:=z
    refine⟨a',z1,z2.mono (λow x hx o w=>kp _ _ w (hx.ne (λe'=>?_) h2)) sm λ_ _ _ w=>w⟩
    subst e';refine h.ap j i a' e (by rw[q];exact ow) ?_ z1 ha
    rcases fD hg with w|w<;>rw[w]<;>trivial
def bN(i n:Nat)(M:List D->List D->Option (D×List D))(fs:GA):GE:=λρ=>match iu i ρ with
 |none=>none
 |some _=>match fs ρ with
  |none=>none
  |some (ds,ρ1)=>match iu i ρ1 with
   |none=>none
   |some bs=>if ds.length=n then match M bs ds with
     |none=>none
     |some (d,bs')=>some (d,gq i bs' ρ1) else none
theorem l9 {i:Nat}{M:List D->List D->Option (D×List D)}{fs:GA}{ρ ρ':ay}{d:D}(h:bN i n M fs ρ=some (d,ρ')): ∃bs0 ds ρ1 bs bs',iu i ρ=some bs0/\fs ρ=some (ds,ρ1)/\iu i ρ1=some bs/\ds.length=n/\M bs ds=some (d,bs')/\ρ'=gq i bs' ρ1:=by
 unfold bN at h;split at h
 ·cases h
 ·split at h
  ·cases h
  ·split at h
   ·cases h
   ·split at h
    ·split at h
     ·cases h
     ·cases h;exact⟨_,_,_,_,_, ‹_›, ‹_›, ‹_›, ‹_›, ‹_›,rfl⟩
    ·cases h
theorem xQ(i:Nat){y:Str}{py:Pos}{M:List D->List D->Option (D×List D)}{fs:GA}(F:FnOk X.prog X.w X.K X.mg X.base pN j f fd ps (wM X.K k n M))(hr:Room j X.A)(hm:X.mg x=some (.ref f))(hk:W.keepIn X.K (.ref f)=true)(hb:Binds X.K fd ps [])
 (ha:DG X c es fs) (hkb:k≠ .b:=by decide) (hN:X.N[i]? =some y:=by rfl) (hv:lR X.env.scope y:=by first|exact Or.inl rfl|exact Or.inr (Or.inl rfl)|exact Or.inr (Or.inr rfl)) (hd:(y==("__debug__":Str))=false:=by decide)
 (hcd:(y==("__classdict__":Str))=false:=by decide) (hs:starEach (.Name y py::es) X.env=(false,eval (.Name y py) X.env)::starEach es X.env:=by rfl) (hg:Gl X x:=by rfl) (hdb:(x==("__debug__":Str))=false:=by decide) (hpl:(backTo pos (starEach es X.env)).any (·.1)=false:=by rfl):
 DE X c k (.Call (.Name x p) (.Name y py::es) [] pos) (bN i n M fs):=λhid ρ=>
 PE.imp (pD F hr hg hm hk hb .nil (xo (X:=X)) (a8 (pv i hN hv hd hcd) (ha hid ρ) hs) hdb hs hpl) λσ H Q hq_=>by
  obtain⟨sr,d,ρ',hd',q⟩:=hq_
  obtain⟨bs0,ds,ρ1,bs,bs',e0,e1,e2,e3,e4,rfl⟩:=l9 hd'
  obtain⟨a,xs0,a1,_,a3,_,_⟩:=sr.held e0
  refine⟨.ref a,a1,sr,ds,ρ1,e1,λus H1 k1 s1 r1=>?_⟩
  obtain⟨a',xs,b1,b2,b3,b4,b5⟩:=s1.held e2
  rw[a1] at b1;cases b1;show wM X.K k n M ((.ref a::us)++[]) H1 Q E0;rw[List.append_nil];refine⟨hid,a,xs,bs,us,ds,rfl,s1.trk,b3,b2,b4,r1,e3,d,bs',e4,λv H' xs' kp hx hr'=>q v H' ?_⟩
  have kp':Kept hid H1 H':=λb o q hb=>kp b o q λe=>by subst e;rw[b3] at hb;cases hb
  cases k with
  |b=>exact absurd rfl hkb
  |s=>exact⟨k1.trans kp',s1.put e2 a1 kp hx hr'.2,hr'.1⟩
  |n=>
   obtain⟨p',ys,es',rfl,rfl,h1,h2,h3,h4⟩:=hr'
   have np:hid p'=false:=s1.fresh h1
   have na:a≠p':=λe=>by subst e;rw[b2] at h1;cases h1
   have sB:SR X.K c (a7 hid p') ρ1 σ (aV H1 p' (.lst ys)):=s1.hide (aC h1 _) h1 aA
   have kp2: ∀b o,(aV H1 p' (.lst ys)) b=some o->b≠a->H' b=some o:=λb o z hb=>by
    by_cases e:b=p'
    ·subst e;rw[aA] at z;cases z;exact h2
    ·rw[ax e] at z;exact kp b o z hb
   have sC:SR X.K c (a7 hid p') (gq i bs' ρ1) σ H':=sB.put e2 a1 kp2 hx h4
   have hn:H p'=none:=by
    cases e:H p' with
    |none=>rfl
    |some o=>rw[k1 p' o e np] at h1;cases h1
   refine⟨k1.trans kp',p',ys,es',rfl,rfl,hn,h2,s1.fresh0 h1,np,sC,h3,λm hm hσ=>?_⟩
   have:=s1.notOw np m (o4 hm)
   exact this hσ
def lD(n:Nat)(M:List D->List D->Option (D×List D))(f:FE)(fs:FA):FE:=λρ=>match f ρ with
 |some (.lst bs)=>match fs ρ with
  |some ds=>if ds.length=n then(M bs ds).map (·.1) else none
  |none=>none
 |_=>none
end
section
variable {X:Cx}{c:Ct}{e a b:Expr}{es rest:List Expr}{k:Kd}{pos p:Pos}{x:Str}{f:Addr}{fd:FuncData}{ps:List Str}{j n:Nat}
theorem rZ {M:List D->List D->Option (D×List D)}{g:FE}{fs:FA}{ρ:ay}{d:D}(h:lD n M g fs ρ=some d): ∃bs ds bs',g ρ=some (.lst bs)/\fs ρ=some ds/\ds.length=n/\M bs ds=some (d,bs'):=by
 unfold lD at h;split at h
 ·split at h
  ·split at h
   ·rename_i e1 _ _ e2 e3
    rename_i bs _ ds;cases e4:M bs ds with
    |none=>rw[e4] at h;cases h
    |some r=>rw[e4] at h;cases h;exact⟨_,_,r.2,e1,e2,e3,e4⟩
   ·cases h
  ·cases h
 ·cases h
theorem xm {M:List D->List D->Option (D×List D)}{g:FE}{fs:FA}(F:FnOk X.prog X.w X.K X.mg X.base pN j f fd ps (wM X.K k n M))(hr:Room j X.A)(hm:X.mg x=some (.ref f))(hk:W.keepIn X.K (.ref f)=true)(hb:Binds X.K fd ps [])
 (h1:DP X c .n e g) (ha:DA X c es fs) (hkb:k≠ .b:=by decide) (hs:starEach (e::es) X.env=(false,eval e X.env)::starEach es X.env:=by rfl) (hg:Gl X x:=by rfl) (hdb:(x==("__debug__":Str))=false:=by decide) (hpl:(backTo pos (starEach es X.env)).any (·.1)=false:=by rfl):
 DP X c k (.Call (.Name x p) (e::es) [] pos) (lD n M g fs):=λhid ρ=>
 PE.imp (pD F hr hg hm hk hb .nil (xo (X:=X)) (a8 (h1 hid ρ) (Aa λhid'=>ha hid' ρ) hs) hdb hs hpl) λσ H Q hq_=>by
  obtain⟨sr,d,hd,q⟩:=hq_
  obtain⟨bs,ds,bs',e1,e2,e3,e4⟩:=rZ hd
  refine⟨sr,_,e1,λv H1 s1 r1=>?_⟩
  obtain⟨l,xs,ds',z,rfl,n1,n2,n3⟩:=r1
  cases z
  have s1':=sr.hide s1 n1 n2
  refine⟨a7 hid l,s1',ds,e2,λus H2 s2 r2=>?_⟩
  show wM X.K k n M ((.ref l::us)++[]) H2 Q E0;rw[List.append_nil];refine⟨a7 hid l,l,xs,bs,us,ds,rfl,(s1'.ext s2).trk,bC,s2 _ _ n2,n3.mono (aw s2),r2,e3,d,bs',e4,λv H' xs' kp hx hr'=>?_⟩
  have sH:Same H H':=λb o w=>kp b o (s2 _ _ (s1 _ _ w)) (aM w n1)
  cases k with
  |b=>exact absurd rfl hkb
  |s=>exact q v H' sH (hr'.1.mono (cX λb w=>bP w))
  |n=>
   obtain⟨p',ys,es',rfl,rfl,z1,z2,z3,z4⟩:=hr'
   refine q _ H' sH ⟨p',ys,es',rfl,rfl,s1.free (s2.free z1),z2,z3.mono (cX λb w=>?_)⟩
   unfold a7 at w⊢;cases e:hid b with
   |true=>rfl
   |false=>rw[e] at w;simpa using Or.inr (by simpa using w)
end
inductive Out where
 |nx (ρ:ay)|rt (d:D) (ρ:ay)|bk (ρ:ay)|ct (ρ:ay)|no
abbrev FS:=ay->Out
def FD(c:Ct)(k:Kd)(v:V):aX:=match k,v with
 | .n,.ref a=>a7 c.hid₀ a
 |_,_=>c.hid₀
structure Ret(K:W.Frag)(c:Ct)(k:Kd)(ρ':ay)(H':Hp)(v:V)(d:D):Prop where
 kp: ∀b o,c.H₀ b=some o->c.mu b=false->H' b=some o
 val:match k with
  | .n=> ∃a xs ds,d=.lst ds/\v=.ref a/\c.H₀ a=none/\H' a=some (.lst xs)/\Reps K (vw H' (a7 c.hid₀ a)) xs ds
  |_=>Rep K (vw H' c.hid₀) v d
 arg: ∀(i:Nat) (bs:List D),ρ'[i]? =some (Sl.arg bs)-> ∃a xs,c.mu a=true/\H' a=some (.lst xs)/\Reps K (vw H' (FD c k v)) xs bs
def EndOk(K:W.Frag)(c:Ct)(k:Kd)(D:Ends)(W:Hp):Out->Prop
 | .nx ρ'=> ∀σ' H' hid',SR K c hid' ρ' σ' H'->Same W (vw H' hid')->D.nx σ' H'
 | .rt d ρ'=> ∀v H',Ret K c k ρ' H' v d->D.rt v H'
 | .bk ρ'=> ∀σ' H' hid',SR K c hid' ρ' σ' H'->Same W (vw H' hid')->D.bk σ' H'
 | .ct ρ'=> ∀σ' H' hid',SR K c hid' ρ' σ' H'->Same W (vw H' hid')->D.ct σ' H'
 | .no=>False
theorem EndOk.mono {K:W.Frag}{c:Ct}{k:Kd}{D:Ends}{W W':Hp}{o:Out}(h:EndOk K c k D W o)(s:Same W W'):EndOk K c k D W' o:=by
 cases o with
 |nx ρ=>exact λσ' H' hid' z w=>h σ' H' hid' z (s.trans w)
 |rt d ρ=>exact h
 |bk ρ=>exact λσ' H' hid' z w=>h σ' H' hid' z (s.trans w)
 |ct ρ=>exact λσ' H' hid' z w=>h σ' H' hid' z (s.trans w)
 |no=>exact h
def GB(K:W.Frag)(c:Ct)(k:Kd)(t:FS)(ρ:ay):TS:=λD σ H=> ∃hid,SR K c hid ρ σ H/\EndOk K c k D (vw H hid) (t ρ)
def DS(X:Cx)(c:Ct)(k:Kd)(st:Stmt)(t:FS):Prop:= ∀ρ,PS X st (GB X.K c k t ρ)
def rY(X:Cx)(c:Ct)(k:Kd)(st:List Stmt)(t:FS):Prop:= ∀ρ,PSs X st (GB X.K c k t ρ)
section
variable {X:Cx}{c:Ct}{k:Kd}{st:Stmt}{sts rest:List Stmt}{t u:FS}{e:Expr}{pos:Pos}
theorem xE {α:Type}{t:α->TS}(h: ∀z,PSs X sts (t z)):PSs X sts (λD σ H=> ∃z,t z D σ H):=λaa s σ H D I ⟨z,q⟩=>h z aa s σ H D I q
theorem E9 {α:Type}{t:α->TT}(h: ∀z,PT X e (t z)):PT X e (λD σ H=> ∃z,t z D σ H):=λaa s σ H D I ⟨z,q⟩=>h z aa s σ H D I q
def skip:FS:=λρ=>.nx ρ
def aD(t u:FS):FS:=λρ=>match t ρ with
 | .nx ρ'=>u ρ'
 | .rt d ρ'=>.rt d ρ'
 | .bk ρ'=>.bk ρ'
 | .ct ρ'=>.ct ρ'
 | .no=>.no
theorem cV:rY X c k [] skip:=λρ=>PSs.imp z9 λD σ H ⟨hid,sr,q⟩=>q σ H hid sr (Same.refl _)
theorem aq(h:DS X c k st t):rY X c k [st] t:=λρ=>z0 (h ρ)
theorem ai(h1:DS X c k st t)(h2:rY X c k rest u):rY X c k (st::rest) (aD t u):=λρ=>
 PSs.imp (xg (h1 ρ) (xE λρ1=>h2 ρ1)) λD σ H hq_=>by
  obtain⟨hid,sr,q⟩:=hq_
  refine⟨hid,sr,?_⟩
  unfold aD at q;cases e:t ρ with
  |nx ρ1=>rw[e] at q;exact λσ1 H1 hid1 sr1 v1=>⟨ρ1,hid1,sr1,EndOk.mono q v1⟩
  |rt d ρ1=>rw[e] at q;exact q
  |bk ρ1=>rw[e] at q;exact q
  |ct ρ1=>rw[e] at q;exact q
  |no=>rw[e] at q;exact q
def iR(p:FT)(t u:FS):FS:=λρ=>match p ρ with
 |some true=>t ρ
 |some false=>u ρ
 |none=>.no
theorem f8 {p:FT}{a b:List Stmt}(hp:DT X c e p)(ha:rY X c k a t)(hb:rY X c k b u):DS X c k (.If e a b pos) (iR p t u):=λρ=>
 PS.imp (EN (E9 λhid=>hp hid ρ) (ha ρ) (hb ρ)) λD σ H hq_=>by
  obtain⟨hid,sr,q⟩:=hq_
  cases e1:p ρ with
  |none=>unfold iR at q;rw[e1] at q;exact q.elim
  |some x=>
   refine⟨hid,sr,x,e1,λH1 s1=>?_⟩
   unfold iR at q;rw[e1] at q;cases x with
   |true=>exact vM ⟨hid,sr.ext s1,EndOk.mono q (aw s1)⟩
   |false=>exact wg ⟨hid,sr.ext s1,EndOk.mono q (aw s1)⟩
def aT(f:FE):FS:=λρ=>match f ρ with
 |some d=>.rt d ρ
 |none=>.no
theorem Bu {K:W.Frag}{hid:aX}{ρ':ay}{σ:St}{H H':Hp}{v:V}{d:D}(hk:k≠ .b)(p:PostE K c hid k ρ' σ H H' v d)(h0: ∀b,c.hid₀ b=true->hid b=true):Ret K c k ρ' H' v d:=by
 cases k with
 |b=>exact absurd rfl hk
 |s=>
  obtain⟨_,sr,r⟩:=p
  refine⟨sr.kp,r.mono (cX sr.h0),λi bs e=>?_⟩
  obtain⟨a,xs,z1,z2,z3,z4,z5⟩:=sr.sl i _ e
  refine⟨a,xs,z4,z2,?_⟩
  show Reps K (vw H' c.hid₀) xs bs;exact z5.mono (cX sr.h0)
 |n=>
  obtain⟨_,a,xs,ds,rfl,rfl,_,h1,h2,h3,sr,h5,h6⟩:=p
  have le:Same (vw H' (a7 hid a)) (vw H' (a7 c.hid₀ a)):=cX λb q=>by
   unfold a7 at q⊢;cases e:c.hid₀ b with
   |true=>rw[h0 b e];rfl
   |false=>rw[e] at q;rw[Bool.or_eq_true];right;simpa using q
  refine⟨sr.kp,⟨a,xs,ds,rfl,rfl,h2,h1,h5.mono le⟩,λi bs e=>?_⟩
  obtain⟨a',xs',z1,z2,z3,z4,z5⟩:=sr.sl i _ e
  exact⟨a',xs',z4,z2,z5.mono le⟩
theorem aI {f:FE}(he:DP X c k e f)(hk:k≠ .b:=by decide):DS X c k (.Return (some e) pos) (aT f):=λρ=>PS.imp (yg (iH λhid=>he hid ρ)) λD σ H hq_=>by
 obtain⟨hid,sr,q⟩:=hq_
 unfold aT at q;cases e1:f ρ with
 |none=>rw[e1] at q;exact q.elim
 |some z=>rw[e1] at q;exact⟨hid,sr,_,e1,λv H' s r=>q v H' (Bu hk (sr.post s r hk) sr.h0)⟩
def vA:Option Sl->Option (List D)
 |some (.own ds)=>some ds
 |_=>none
def Bg(i:Nat):FS:=λρ=>match vA ρ[i]? with
 |some ds=>.rt (.lst ds) ρ
 |none=>.no
theorem nG {o:Option Sl}{ds:List D}(h:vA o=some ds):o=some (.own ds):=by
 unfold vA at h;split at h
 ·cases h;rfl
 ·cases h
theorem uT(i:Nat){x:Str}{pos':Pos}(hN:X.N[i]? =some x:=by rfl)(hv:lR X.env.scope x:=by first|exact Or.inl rfl|exact Or.inr (Or.inl rfl)|exact Or.inr (Or.inr rfl))(hd:(x==("__debug__":Str))=false:=by decide)
 (hcd:(x==("__classdict__":Str))=false:=by decide):DS X c .n (.Return (some (.Name x pos')) pos) (Bg i):=λρ=>PS.imp (yg (pv i hN hv hd hcd)) λD σ H hq_=>by
 obtain⟨hid,sr,q⟩:=hq_
 unfold Bg at q;cases e0:vA ρ[i]? with
 |none=>rw[e0] at q;exact q.elim
 |some ds=>
  rw[e0] at q;have e:=nG e0
  obtain⟨a,xs,z1,z2,z3,z4,z5⟩:=sr.sl i _ e
  have le:Same (vw H hid) (vw H (a7 c.hid₀ a)):=cX λb w=>by
   unfold a7 at w;cases e:c.hid₀ b with
   |true=>exact sr.h0 b e
   |false=>
    rw[e] at w;have:b=a:=by simpa using w
    rw[this];exact z3
  refine⟨_,z1,q _ H ⟨sr.kp,⟨a,xs,ds,rfl,rfl,z4,z2,z5.mono le⟩,λj bs e'=>?_⟩⟩
  obtain⟨a',xs',w1,w2,w3,w4,w5⟩:=sr.sl j _ e'
  exact⟨a',xs',w4,w2,w5.mono le⟩
end
section
variable {K:W.Frag}{c:Ct}{hid:aX}{ρ:ay}{σ:St}{H H':Hp}{i:Nat}{a:Addr}{v:V}{d:D}
theorem SR.setV(h:SR K c hid ρ σ H)(r:Rep K (vw H hid) v d)(i:Nat):SR K c hid (ρ.set i (.v d)) (σ.set i (some v)) H:=by
 refine⟨h.tr,h.ht,h.h0,h.kp,h.t0,h.c0,h.m0,by simp[h.len],λj s q=>?_,λj l z n o1 o2 q1 q2=>?_⟩
 ·by_cases e:j=i
  ·subst e
   have lt:j<ρ.length:=by
    have:=(List.getElem?_eq_some_iff.mp q).1
    simpa using this
   rw[List.getElem?_set_self lt] at q;cases q
   exact⟨v,List.getElem?_set_self (by rw[h.len];exact lt),r⟩
  ·rw[List.getElem?_set_ne (Ne.symm e)] at q
   have w:=h.sl j s q
   have es:(σ.set i (some v))[j]? =σ[j]? :=List.getElem?_set_ne (Ne.symm e)
   cases s with
   |no=>trivial
   |v d=>obtain⟨x,h1,h2⟩:=w;exact⟨x,es.trans h1,h2⟩
   |own ds=>obtain⟨a,xs,h1,h2⟩:=w;exact⟨a,xs,es.trans h1,h2⟩
   |arg ds=>obtain⟨a,xs,h1,h2⟩:=w;exact⟨a,xs,es.trans h1,h2⟩
   |ob b=>obtain⟨a,h1,h2⟩:=w;exact⟨a,es.trans h1,h2⟩
 ·have nj: ∀m,Ow (ρ.set i (.v d))[m]? ->m≠i:=λm o e=>by
   subst e
   by_cases lt:m<ρ.length
   ·rw[List.getElem?_set_self lt] at o;exact o
   ·rw[List.getElem?_eq_none (by simpa using lt)] at o;exact o
  have e1:=nj j o1
  have e2:=nj l o2
  rw[List.getElem?_set_ne (Ne.symm e1)] at o1 q1;rw[List.getElem?_set_ne (Ne.symm e2)] at o2 q2;exact h.ap j l z n o1 o2 q1 q2
theorem SR.setO {xs:List V}{ds:List D}(h:SR K c hid ρ σ H)(ha:H a=some (.lst xs))(hh:hid a=true)(h0:c.H₀ a=none)(r:Reps K (vw H hid) xs ds)(no: ∀i:Nat,Ow ρ[i]? ->σ[i]? ≠some (some (.ref a)))(i:Nat):
 SR K c hid (ρ.set i (.own ds)) (σ.set i (some (.ref a))) H:=by
 refine⟨h.tr,h.ht,h.h0,h.kp,h.t0,h.c0,h.m0,by simp[h.len],λj s q=>?_,λj l z n o1 o2 q1 q2=>?_⟩
 ·by_cases e:j=i
  ·subst e
   have lt:j<ρ.length:=by
    have:=(List.getElem?_eq_some_iff.mp q).1
    simpa using this
   rw[List.getElem?_set_self lt] at q;cases q
   exact⟨a,xs,List.getElem?_set_self (by rw[h.len];exact lt),ha,hh,h0,r⟩
  ·rw[List.getElem?_set_ne (Ne.symm e)] at q
   have w:=h.sl j s q
   have es:(σ.set i (some (V.ref a)))[j]? =σ[j]? :=List.getElem?_set_ne (Ne.symm e)
   cases s with
   |no=>trivial
   |v d=>obtain⟨x,h1,h2⟩:=w;exact⟨x,es.trans h1,h2⟩
   |own ds=>obtain⟨a,xs,h1,h2⟩:=w;exact⟨a,xs,es.trans h1,h2⟩
   |arg ds=>obtain⟨a,xs,h1,h2⟩:=w;exact⟨a,xs,es.trans h1,h2⟩
   |ob b=>obtain⟨a,h1,h2⟩:=w;exact⟨a,es.trans h1,h2⟩
 ·by_cases e1:j=i
  ·subst e1
   have e2:l≠j:=λe=>n e.symm
   rw[List.getElem?_set_ne (Ne.symm e2)] at o2 q2
   by_cases lt:j<σ.length
   ·rw[List.getElem?_set_self lt] at q1;cases q1;exact no l o2 q2
   ·rw[List.getElem?_eq_none (by simpa using lt)] at q1;cases q1
  ·rw[List.getElem?_set_ne (Ne.symm e1)] at o1 q1
   by_cases e2:l=i
   ·subst e2
    by_cases lt:l<σ.length
    ·rw[List.getElem?_set_self lt] at q2;cases q2;exact no j o1 q1
    ·rw[List.getElem?_eq_none (by simpa using lt)] at q2;cases q2
   ·rw[List.getElem?_set_ne (Ne.symm e2)] at o2 q2
    exact h.ap j l z n o1 o2 q1 q2
end
section
variable {X:Cx}{c:Ct}{k:Kd}{st:Stmt}{sts rest:List Stmt}{t u:FS}{e:Expr}{es:List Expr}{pos pos':Pos}{x:Str}{i:Nat}
def mB(i:Nat)(f:GE):FS:=λρ=>match f ρ with
 |some (d,ρ')=>.nx (ρ'.set i (.v d))
 |none=>.no
def bc(i:Nat)(f:FE):FS:=λρ=>match f ρ with
 |some d=>.nx (ρ.set i (.v d))
 |none=>.no
def GG:D->Option (List D)
 | .lst ds=>some ds
 |_=>none
def pK(i:Nat)(f:FE):FS:=λρ=>match f ρ with
 |some d=>(match GG d with
  |some ds=>.nx (ρ.set i (.own ds))
  |none=>.no)
 |none=>.no
theorem pH(i:Nat){f:GE}(hn:X.N.Nodup)(he:DE X c .s e f)(hi:X.N[i]? =some x:=by rfl)(hx:yt X.env.scope x:=by first|exact Or.inl rfl|exact Or.inr rfl)(hs:swapsWith e (some (.Name x pos')) pos.line X.env=pure false:=by rfl)
 (hf:X.fn x=true\/X.env.scope.names.lookup x=some .local:=by first|exact .inl rfl|exact .inr rfl|assumption):DS X c k (.Assign [.Name x pos'] e pos) (mB i f):=λρ=>PS.imp (j5 hn hi hx (iH λhid=>he hid ρ) hs hf) λD σ H hq_=>by
 obtain⟨hid,sr,q⟩:=hq_
 unfold mB at q;cases e1:f ρ with
 |none=>rw[e1] at q;exact q.elim
 |some z=>
  rw[e1] at q;exact⟨hid,sr,z.1,z.2,e1,λv H' ⟨kp,s',r⟩=>q _ H' hid (s'.setV r i) kp.vw⟩
theorem aR(i:Nat){f:FE}(hn:X.N.Nodup)(he:DP X c .s e f)(hi:X.N[i]? =some x:=by rfl)(hx:yt X.env.scope x:=by first|exact Or.inl rfl|exact Or.inr rfl)(hs:swapsWith e (some (.Name x pos')) pos.line X.env=pure false:=by rfl)
 (hf:X.fn x=true\/X.env.scope.names.lookup x=some .local:=by first|exact .inl rfl|exact .inr rfl|assumption):DS X c k (.Assign [.Name x pos'] e pos) (bc i f):=λρ=>PS.imp (j5 hn hi hx (iH λhid=>he hid ρ) hs hf) λD σ H hq_=>by
 obtain⟨hid,sr,q⟩:=hq_
 unfold bc at q;cases e1:f ρ with
 |none=>rw[e1] at q;exact q.elim
 |some z=>
  rw[e1] at q;exact⟨hid,sr,z,e1,λv H' s' r=>q _ H' hid ((sr.ext s').setV r i) (aw s')⟩
theorem EO {K:W.Frag}{hid:aX}{ρ':ay}{σ:St}{H H':Hp}{v:V}{d:D}{D:Ends}(p:PostE K c hid .n ρ' σ H H' v d)(q:EndOk K c k D (vw H hid) (match GG d with
 |some ds=>.nx (ρ'.set i (.own ds))
 |none=>.no)):D.nx (σ.set i (some v)) H':=by
 obtain⟨kp,a,xs,ds,rfl,rfl,hn,h1,h2,h3,h4,h5,h6⟩:=p
 refine q _ H' (a7 hid a) (h4.setO h1 bC h2 h5 h6 i) λb o w=>?_
 obtain⟨w1,w2⟩:=vw_some.mp w
 refine vw_some.mpr ⟨?_,kp b o w2 w1⟩
 unfold a7;rw[w1];have:b≠a:=aM w2 hn
 simp[this]
theorem lb(i:Nat){f:FE}(hn:X.N.Nodup)(he:DP X c .n e f)(hi:X.N[i]? =some x:=by rfl)(hx:yt X.env.scope x:=by first|exact Or.inl rfl|exact Or.inr rfl)(hs:swapsWith e (some (.Name x pos')) pos.line X.env=pure false:=by rfl)
 (hf:X.fn x=true\/X.env.scope.names.lookup x=some .local:=by first|exact .inl rfl|exact .inr rfl|assumption):DS X c k (.Assign [.Name x pos'] e pos) (pK i f):=λρ=>PS.imp (j5 hn hi hx (iH λhid=>he hid ρ) hs hf) λD σ H hq_=>by
 obtain⟨hid,sr,q⟩:=hq_
 unfold pK at q;cases e1:f ρ with
 |none=>rw[e1] at q;exact q.elim
 |some z=>
  rw[e1] at q;exact⟨hid,sr,z,e1,λv H' s r=>EO (sr.post s r (by decide)) q⟩
def yk(i:Nat)(ρ:ay):ay:=match vA ρ[i]? with
 |some ds=>ρ.set i (.v (.lst ds))
 |none=>ρ
theorem SR.freeze {K:W.Frag}{hid:aX}{ρ:ay}{σ:St}{H:Hp}(h:SR K c hid ρ σ H)(i:Nat): ∃hid',SR K c hid' (yk i ρ) σ H/\Same (vw H hid) (vw H hid'):=by
 unfold yk;cases e0:vA ρ[i]? with
 |none=>exact⟨hid,h,Same.refl _⟩
 |some ds=>
  have e:=nG e0
  obtain⟨a,xs,z1,z2,z3,z4,z5⟩:=h.sl i _ e
  have sm:Same (vw H hid) (vw H (ft hid a)):=cX λb w=>by unfold ft at w;rw[Bool.and_eq_true] at w;exact w.1
  have un: ∀b,b≠a->hid b=true->ft hid a b=true:=λb n w=>by unfold ft;rw[w];simp[n]
  have na:c.hid₀ a=false:=by
   cases q:c.hid₀ a with
   |false=>rfl
   |true=>obtain⟨o,w⟩:=h.c0 a q;rw[z4] at w;cases w
  refine⟨ft hid a,⟨λb w=>h.tr b (by unfold ft at w;rw[Bool.and_eq_true] at w;exact w.1),λb xs w=>h.ht b xs (by unfold ft at w;rw[Bool.and_eq_true] at w;exact w.1),λb w=>un b (λe=>by subst e;rw[na] at w;cases w) (h.h0 b w),h.kp,h.t0,h.c0,h.m0,by simp[h.len],λj s q=>?_,λj l z n o1 o2 q1 q2=>?_⟩,sm⟩
  ·by_cases ej:j=i
   ·subst ej
    rw[List.getElem?_set_self (List.getElem?_eq_some_iff.mp e).1] at q;cases q
    exact⟨_,z1,.lst (vw_some.mpr ⟨by unfold ft;simp,z2⟩) (z5.mono sm)⟩
   ·rw[List.getElem?_set_ne (Ne.symm ej)] at q
    have w:=h.sl j s q
    cases s with
    |no=>trivial
    |v d=>obtain⟨x,h1,h2⟩:=w;exact⟨x,h1,h2.mono sm⟩
    |own ds=>
     obtain⟨a',xs,h1,h2,h3,h4,h5⟩:=w
     exact⟨a',xs,h1,h2,un a' (λe'=>by subst e';exact h.ap j i _ ej (by rw[q];trivial) (by rw[e];trivial) h1 z1) h3,h4,h5.mono sm⟩
    |arg ds=>
     obtain⟨a',xs,h1,h2,h3,h4,h5⟩:=w
     exact⟨a',xs,h1,h2,un a' (λe'=>by subst e';exact h.ap j i _ ej (by rw[q];trivial) (by rw[e];trivial) h1 z1) h3,h4,h5.mono sm⟩
    |ob b=>
     obtain⟨a',h1,h2⟩:=w
     exact⟨a',h1,h2.mono (λ_ _ _ _ q=>q) sm λow x hx=>un x (hx.ne (λe'=>by subst e';exact h.ap j i _ ej (by rw[q];exact ow) (by rw[e];trivial) h1 z1) z2)⟩
  ·have nj: ∀m,Ow (ρ.set i (.v (.lst ds)))[m]? ->m≠i:=λm o e'=>by
    subst e'
    by_cases lt:m<ρ.length
    ·rw[List.getElem?_set_self lt] at o;exact o
    ·rw[List.getElem?_eq_none (by simpa using lt)] at o;exact o
   have e1:=nj j o1
   have e2:=nj l o2
   rw[List.getElem?_set_ne (Ne.symm e1)] at o1;rw[List.getElem?_set_ne (Ne.symm e2)] at o2;exact h.ap j l z n o1 o2 q1 q2
theorem Dk(i:Nat)(h:DS X c k st t):DS X c k st (λρ=>t (yk i ρ)):=λρ=>PS.imp (h (yk i ρ)) λD σ H hq_=>by
 obtain⟨hid,sr,q⟩:=hq_
 obtain⟨hid',sr',sm⟩:=sr.freeze i
 exact⟨hid',sr',EndOk.mono q sm⟩
def nu(f:GE):FS:=λρ=>match f ρ with
 |some (_,ρ')=>.nx ρ'
 |none=>.no
theorem kY {f:GE}(he:DE X c .s e f)(hs:swapsWith e none pos.line X.env=pure false:=by rfl):DS X c k (.Expr e pos) (nu f):=λρ=>PS.imp (zH (iH λhid=>he hid ρ) hs) λD σ H hq_=>by
 obtain⟨hid,sr,q⟩:=hq_
 unfold nu at q;cases e1:f ρ with
 |none=>rw[e1] at q;exact q.elim
 |some z=>
  rw[e1] at q;exact⟨hid,sr,z.1,z.2,e1,λv H' ⟨kp,s',_⟩=>q _ H' hid s' kp.vw⟩
def F2(K:W.Frag)(r:V->List V->Hp->VK->Prop)(n:Nat)(M:List D->List D->Option (D×List D)):Prop:= ∀(H:Hp) (hid:aX) (a:Addr) (xs us:List V) (bs ds bs':List D) (d:D) (Q:VK),H a=some (.lst xs)->hid a=true->Reps K (vw H hid) xs bs->Reps K (vw H hid) us ds->
 ds.length=n->M bs ds=some (d,bs')->(∀w xs',Reps K (vw H hid) xs' bs'->Rep K (vw H hid) w d->Q w (aV H a (.lst xs')))->r (.ref a) us H Q
theorem D8 {K:W.Frag}{r:V->List V->Hp->VK->Prop}{n:Nat}{M:List D->List D->Option (D×List D)}(hM:F2 K r n M){hid:aX}{ρ1:ay}{σ:St}{H H1:Hp}{a:Addr}{us:List V}{bs ds bs':List D}{d:D}{Q:VK}(k1:Kept hid H H1)(s1:SR K c hid ρ1 σ H1)(e2:iu i ρ1=some bs)
 (ha:σ[i]? =some (some (.ref a))) (r1:Reps K (vw H1 hid) us ds) (hn:ds.length=n) (hm:M bs ds=some (d,bs')) (q: ∀v H',PostE K c hid .s (gq i bs' ρ1) σ H H' v d->Q v H'):r (.ref a) us H1 Q:=by
 obtain⟨a',xs,b1,b2,b3,b4,b5⟩:=s1.held e2
 rw[ha] at b1;cases b1;refine hM H1 hid a xs us bs ds bs' d Q b2 b3 b4 r1 hn hm λw xs' rx rw'=>q w _ ⟨k1.trans λb o z hb=>?_,?_,?_⟩
 ·rw[ax (λe=>by subst e;rw[b3] at hb;cases hb)];exact z
 ·exact s1.put e2 ha (λb o z hb=>by rw[ax hb];exact z) aA (by rw[bS b3];exact rx)
 ·rw[bS b3];exact rw'
variable {n:Nat}{M:List D->List D->Option (D×List D)}{fs:GA}{r:V->List V->Hp->VK->Prop}{y name:Str}{py apos:Pos}{id:String}
theorem u8(i:Nat)(hM:F2 X.K r n M)(hm:GJ X id r)(slot:Slot "list" name id)(hty:typeOf (.builtin id)=pure (.type "method_descriptor"))(ha:DG X c (e::es) fs)
 (hN:X.N[i]? =some y:=by rfl) (hv:lR X.env.scope y:=by first|exact Or.inl rfl|exact Or.inr (Or.inl rfl)|exact Or.inr (Or.inr rfl)) (hd:(y==("__debug__":Str))=false:=by decide) (hcd:(y==("__classdict__":Str))=false:=by decide)
 (hbase:attributeBase (.Name y py) name X.env (eval (.Name y py) X.env)=eval (.Name y py) X.env:=by rfl)
 (hfew:((backTo pos (starEach (e::es) X.env)).all (λx=> !x.1)&&(backToKw pos (keywordEach [] X.env)).all (λx=>x.1.isSome)
   &&decide ((e::es).length+([]:List Keyword).length+(if([]:List Keyword).isEmpty then 0 else 1)<30))=true:=by rfl)
 (hline:(apos.endLine==pos.line)=true:=by rfl) (hs:starEach (e::es) X.env=(false,eval e X.env)::starEach es X.env:=by rfl) (hplain:(backTo pos (starEach es X.env)).any (·.1)=false:=by rfl):
 DE X c .s (.Call (.Attribute (.Name y py) name apos) (e::es) [] pos) (bN i n M fs):=λhid ρ=>
 PE.imp (qX PySem.F.plainAttrs_list slot hty hm (pv i hN hv hd hcd) (ha hid ρ) hbase hfew hline hs hplain) λσ H Q hq_=>by
  obtain⟨sr,d,ρ',hd',q⟩:=hq_
  obtain⟨bs0,ds,ρ1,bs,bs',e0,e1,e2,e3,e4,rfl⟩:=l9 hd'
  obtain⟨a,xs0,a1,a2,a3,_,_⟩:=sr.held e0
  exact⟨.ref a,a1,.inl ⟨rfl,_,SqL.of a2⟩,sr,ds,ρ1,e1,λus H1 k1 s1 r1=>D8 hM k1 s1 e2 a1 r1 e3 e4 q⟩
end
section
variable {K:W.Frag}
def Aq:List D->List D->Option (D×List D):=λbs ds=>match ds with
 | [d]=>if bs.length<sizeLine then some (.non,bs++[d]) else none
 |_=>none
theorem nM:F2 K uf 1 Aq:=by
 intro H hid a xs us bs ds bs' d Q h1 h2 h3 h4 h5 h6 q;unfold Aq at h6;split at h6
 ·split at h6
  ·cases h6
   cases h4 with
   |cons r t=>
    cases t
    exact⟨a,xs,_,rfl,rfl,h1,by rw[h3.length];assumption,q _ _ (h3.append (.cons r .nil)) .non⟩
  ·cases h6
 ·cases h6
end
abbrev FG:=D->ay->Option ay
abbrev pW:=List D->ay->Option ay
def OwK(ρ ρ':ay)(σ σ':St):Prop:= ∀i:Nat,Ow ρ'[i]? ->Ow ρ[i]? /\σ'[i]? =σ[i]?
theorem OwK.trans {ρ ρ1 ρ2:ay}{σ σ1 σ2:St}(a:OwK ρ ρ1 σ σ1)(b:OwK ρ1 ρ2 σ1 σ2):OwK ρ ρ2 σ σ2:=λi o=>⟨(a i (b i o).1).1,(b i o).2.trans (a i (b i o).1).2⟩
def FB {ι:Type}(IR:Hp->V->ι->Prop)(K:W.Frag)(c:Ct)(hid:aX)(g:ι->ay->Option ay)(ρ:ay)(d:ι):TG:=λv σ H Q=>SR K c hid ρ σ H/\IR (vw H hid) v d/\ ∃ρ',g d ρ=some ρ'/\ ∀σ',SR K c hid ρ' σ' H->OwK ρ ρ' σ σ'->Q σ' H
def Fk {ι:Type}(IR:Hp->V->ι->Prop)(X:Cx)(c:Ct)(tg:Expr)(g:ι->ay->Option ay):Prop:= ∀hid ρ d,PG X tg (FB IR X.K c hid g ρ d)
abbrev lv(X:Cx)(c:Ct)(tg:Expr)(g:FG):Prop:=Fk (Rep X.K) X c tg g
def Fx(K:W.Frag)(c:Ct)(hid:aX)(g:pW)(ρ:ay)(d:List D):xS:=λv σ H Q=>SR K c hid ρ σ H/\Reps K (vw H hid) v d/\ ∃ρ',g d ρ=some ρ'/\ ∀σ',SR K c hid ρ' σ' H->OwK ρ ρ' σ σ'->Q σ' H
def Fi(X:Cx)(c:Ct)(tg:List Expr)(g:pW):Prop:= ∀hid ρ d,PGs X tg (Fx X.K c hid g ρ d)
theorem PG.imp {X:Cx}{e:Expr}{t t':TG}(h:PG X e t)(i: ∀v σ H Q,t' v σ H Q->t v σ H Q):PG X e t':=λaa s σ H v u Q I r q=>h aa s σ H v u Q I r (i v σ H Q q)
theorem PGs.imp {X:Cx}{e:List Expr}{t t':xS}(h:PGs X e t)(i: ∀v σ H Q,t' v σ H Q->t v σ H Q):PGs X e t':=λaa s σ H v u Q I r q=>h aa s σ H v u Q I r (i v σ H Q q)
theorem yh {X:Cx}{e:Expr}{α:Type}{t:α->TG}(h: ∀z,PG X e (t z)):PG X e (λv σ H Q=> ∃z,t z v σ H Q):=λaa s σ H v u Q I r ⟨z,q⟩=>h z aa s σ H v u Q I r q
theorem tX {X:Cx}{e:List Expr}{α:Type}{t:α->xS}(h: ∀z,PGs X e (t z)):PGs X e (λv σ H Q=> ∃z,t z v σ H Q):=λaa s σ H v u Q I r ⟨z,q⟩=>h z aa s σ H v u Q I r q
section
variable {X:Cx}{c:Ct}{k:Kd}{st:Stmt}{sts body:List Stmt}{t u:FS}{e tg iter:Expr}{es:List Expr}{pos pos':Pos}{x:Str}{i:Nat}
def gN(i:Nat):FG:=λd ρ=>some (ρ.set i (.v d))
theorem ao(i:Nat)(hn:X.N.Nodup)(hi:X.N[i]? =some x:=by rfl)(hx:yt X.env.scope x:=by first|exact Or.inl rfl|exact Or.inr rfl)(hf:X.fn x=true\/X.env.scope.names.lookup x=some .local:=by first|exact .inl rfl|exact .inr rfl|assumption):
 lv X c (.Name x pos) (gN i):=λhid ρ d=>PG.imp (Bf (i:=i) hn hi hx hf) λv σ H Q hq_=>by
 obtain⟨sr,r,ρ',e,q⟩:=hq_
 cases e
 refine q _ (sr.setV r i) λj o=>?_
 have ne:j≠i:=λe=>by
  subst e
  by_cases lt:j<ρ.length
  ·rw[List.getElem?_set_self lt] at o;exact o
  ·rw[List.getElem?_eq_none (by simpa using lt)] at o;exact o
 rw[List.getElem?_set_ne (Ne.symm ne)] at o⊢;exact⟨o,rfl⟩
def kT:pW:=λds ρ=>match ds with
 | []=>some ρ
 |_=>none
def fW(g:FG)(gs:pW):pW:=λds ρ=>match ds with
 | []=>none
 |d::r=>(g d ρ).bind λρ'=>gs r ρ'
theorem bu:Fi X c [] kT:=λhid ρ d=>PGs.imp uC λv σ H Q hq_=>by
 obtain⟨sr,r,ρ',e,q⟩:=hq_
 unfold kT at e;split at e
 ·cases e;cases r;exact⟨rfl,q σ sr λi o=>⟨o,rfl⟩⟩
 ·cases e
theorem aB {g:FG}{gs:pW}(h1:lv X c e g)(h2:Fi X c es gs)(hs:(assignEach (e::es) X.env).map (·.2)=assign e X.env::(assignEach es X.env).map (·.2):=by rfl):Fi X c (e::es) (fW g gs):=λhid ρ d=>
 PGs.imp (rG (yh λd=>h1 hid ρ d) (tX λz:ay×List D=>h2 hid z.1 z.2) hs) λv σ H Q hq_=>by
  obtain⟨sr,r,ρ',e,q⟩:=hq_
  cases d with
  |nil=>cases e
  |cons d1 ds=>
   cases r with
   |cons r1 r2=>
    have e:(g d1 ρ).bind (λρ'=>gs ds ρ')=some ρ':=e
    cases e1:g d1 ρ with
    |none=>rw[e1] at e;cases e
    |some ρ1=>
     rw[e1] at e;exact⟨_,_,rfl,d1,sr,r1,ρ1,e1,λσ1 s1 o1=>⟨(ρ1,ds),s1,r2,ρ',e,λσ2 s2 o2=>q σ2 s2 (o1.trans o2)⟩⟩
def gT(n:Nat)(gs:pW):FG:=λd ρ=>match d with
 | .tup ds=>if ds.length=n then gs ds ρ else none
 |_=>none
theorem bw {gs:pW}{kk n:Nat}(hc:X.calm=true)(h:Fi X c es gs)(hn:(assignEach es X.env).length=n:=by rfl)(hst:(assignEach es X.env).findIdx? (·.1)=none:=by rfl):lv X c (.Tuple es kk pos) (gT n gs):=λhid ρ d=>
 PG.imp (x9 hc (tX λds=>h hid ρ ds) hn hst) λv σ H Q hq_=>by
  obtain⟨sr,r,ρ',e,q⟩:=hq_
  unfold gT at e;split at e
  ·split at e
   ·cases r with
    |tup h1 h2=>exact⟨_,_,rfl,SqT.of (bt _ _ _ _ h1),by rw[h2.length];assumption,_,sr,h2,ρ',e,q⟩
   ·cases e
  ·cases e
def C6:Option ay->Out
 |some ρ=>.nx ρ
 |none=>.no
def gk(g:FG)(f:GE):FS:=λρ=>match f ρ with
 |some z=>C6 (g z.1 z.2)
 |none=>.no
theorem mn {g:FG}{f:GE}(he:DE X c .s e f)(hg:lv X c tg g)(hs:swapsWithSole [tg] e pos.line X.env=pure false:=by rfl)(hw:swappedStores [tg] e X.env=pure none:=by rfl)
 (h1:(assignEach [tg] X.env).map (·.2)=[assign tg X.env]:=by rfl):DS X c k (.Assign [tg] e pos) (gk g f):=λρ=>
 PS.imp (y6 (iH λhid=>he hid ρ) (yh λz:aX×ay×D=>hg z.1 z.2.1 z.2.2) hs hw h1) λD σ H hq_=>by
  obtain⟨hid,sr,q⟩:=hq_
  unfold gk at q;cases e1:f ρ with
  |none=>rw[e1] at q;exact q.elim
  |some z=>
   rw[e1] at q;cases e2:g z.1 z.2 with
   |none=>dsimp only at q;rw[e2] at q;exact q.elim
   |some ρ2=>
    dsimp only at q;rw[e2] at q;exact⟨hid,sr,z.1,z.2,e1,λv H' ⟨kp,s',r⟩=>⟨(hid,z.2,z.1),s',r,ρ2,e2,λσ' s2 _=>q σ' H' hid s2 kp.vw⟩⟩
def fw(i:Nat)(fi:FE)(d:D)(ρ:ay):Option ay:=match iu i ρ with
 |some bs=>(match fi ρ with
  |some (.int j)=>(match wP bs.length j with
   |some m=>some (gq i (bs.set m d) ρ)
   |none=>none)
  |_=>none)
 |none=>none
theorem sI {fi:FE}{d:D}{ρ ρ':ay}(h:fw i fi d ρ=some ρ'): ∃bs j m,iu i ρ=some bs/\fi ρ=some (.int j)/\wP bs.length j=some m/\ρ'=gq i (bs.set m d) ρ:=by
 unfold fw at h;split at h
 ·split at h
  ·split at h
   ·cases h;exact⟨_,_,_, ‹_›, ‹_›, ‹_›,rfl⟩
   ·cases h
  ·cases h
 ·cases h
def FX(K:W.Frag)(c:Ct)(hid:aX)(g:FG)(ρ:ay)(d:D):TG:=λv σ H Q=>SR K c hid ρ σ H/\Rep K (vw H hid) v d/\ ∃ρ',g d ρ=some ρ'/\ ∀H',Kept hid H H'->SR K c hid ρ' σ H'->Q σ H'
def Fb(X:Cx)(c:Ct)(tg:Expr)(g:FG):Prop:= ∀hid ρ d,PG X tg (FX X.K c hid g ρ d)
theorem i6(i:Nat){y:Str}{py:Pos}{ix:Expr}{fi:FE}{k1:Kd}(hi:DP X c k1 ix fi)(hN:X.N[i]? =some y:=by rfl)(hv:lR X.env.scope y:=by first|exact Or.inl rfl|exact Or.inr (Or.inl rfl)|exact Or.inr (Or.inr rfl))(hd:(y==("__debug__":Str))=false:=by decide)(hcd:(y==("__classdict__":Str))=false:=by decide)
 (ha: ∀v,assign (.Subscript (.Name y py) ix pos) X.env v=(do
   let ov <-holding [v] (eval (.Name y py) X.env)
   let iv <-holding [v,ov] (eval ix X.env)
   standAt pos
   holding [v,ov,iv] (setItem ov iv v)
   release [v,ov,iv] []):=by intro _;rfl):Fb X c (.Subscript (.Name y py) ix pos) (fw i fi):=λhid ρ d=>
 PG.imp (BH (pv i hN hv hd hcd) (hi hid ρ) yQ ha) λv σ H Q hq_=>by
  obtain⟨sr,r,ρ',e,q⟩:=hq_
  obtain⟨bs,j,m,e1,e2,e3,rfl⟩:=sI e
  obtain⟨a,xs,a1,a2,a3,a4,a5⟩:=sr.held e1
  refine⟨.ref a,a1,sr,_,e2,λw H1 s1 r1=>?_⟩
  have b1:=(RK.b k1 r1 λa n=>sr.fresh n).int
  cases b1
  have a4':=a4.mono (aw (hid:=hid) s1)
  refine⟨a,xs,j,m,rfl,rfl,s1 _ _ a2,by rw[a4.length];exact e3,q _ (λb o z hb=>?_) ?_⟩
  ·rw[ax (λe=>by subst e;rw[a3] at hb;cases hb)];exact s1 _ _ z
  ·exact(sr.ext s1).put e1 a1 (λb o z hb=>by rw[ax hb];exact z) aA (by rw[bS a3];exact Reps.set (r.mono (aw s1)) m a4')
theorem oB {g:FG}{f:GE}(he:DE X c .s e f)(hg:Fb X c tg g)(hs:swapsWithSole [tg] e pos.line X.env=pure false:=by rfl)(hw:swappedStores [tg] e X.env=pure none:=by rfl)
 (h1:(assignEach [tg] X.env).map (·.2)=[assign tg X.env]:=by rfl):DS X c k (.Assign [tg] e pos) (gk g f):=λρ=>
 PS.imp (y6 (iH λhid=>he hid ρ) (yh λz:aX×ay×D=>hg z.1 z.2.1 z.2.2) hs hw h1) λD σ H hq_=>by
  obtain⟨hid,sr,q⟩:=hq_
  unfold gk at q;cases e1:f ρ with
  |none=>rw[e1] at q;exact q.elim
  |some z=>
   rw[e1] at q;cases e2:g z.1 z.2 with
   |none=>dsimp only at q;rw[e2] at q;exact q.elim
   |some ρ2=>
    dsimp only at q;rw[e2] at q;exact⟨hid,sr,z.1,z.2,e1,λv H' ⟨kp,s',r⟩=>⟨(hid,z.2,z.1),s',r,ρ2,e2,λH2 k2 s2=>q σ H2 hid s2 (kp.trans k2).vw⟩⟩
def FM(K:W.Frag)(c:Ct)(hid:aX)(g:pW)(ρ:ay)(d:List D):xS:=λv σ H Q=>SR K c hid ρ σ H/\Reps K (vw H hid) v d/\ ∃ρ',g d ρ=some ρ'/\ ∀H',Kept hid H H'->SR K c hid ρ' σ H'->Q σ H'
def Fj(X:Cx)(c:Ct)(tg:List Expr)(g:pW):Prop:= ∀hid ρ d,PGs X tg (FM X.K c hid g ρ d)
theorem AD:Fj X c [] kT:=λhid ρ d=>PGs.imp uC λv σ H Q hq_=>by
 obtain⟨sr,r,ρ',e,q⟩:=hq_
 unfold kT at e;split at e
 ·cases e;cases r;exact⟨rfl,q H (.of (Same.refl _)) sr⟩
 ·cases e
theorem q9 {g:FG}{gs:pW}(h1:Fb X c e g)(h2:Fj X c es gs)(hs:(assignEach (e::es) X.env).map (·.2)=assign e X.env::(assignEach es X.env).map (·.2):=by rfl):Fj X c (e::es) (fW g gs):=λhid ρ d=>
 PGs.imp (rG (yh λd=>h1 hid ρ d) (tX λz:ay×List D=>h2 hid z.1 z.2) hs) λv σ H Q hq_=>by
  obtain⟨sr,r,ρ',e,q⟩:=hq_
  cases d with
  |nil=>cases e
  |cons d1 ds=>
   cases r with
   |cons r1 r2=>
    have e:(g d1 ρ).bind (λρ'=>gs ds ρ')=some ρ':=e
    cases e1:g d1 ρ with
    |none=>rw[e1] at e;cases e
    |some ρ1=>
     rw[e1] at e;exact⟨_,_,rfl,d1,sr,r1,ρ1,e1,λH1 k1 s1=>⟨(ρ1,ds),s1,r2.mono k1.vw,ρ',e,λH2 k2 s2=>q H2 (k1.trans k2) s2⟩⟩
theorem zD {gs:pW}{kk n:Nat}(hc:X.calm=true)(h:Fj X c es gs)(hn:(assignEach es X.env).length=n:=by rfl)(hst:(assignEach es X.env).findIdx? (·.1)=none:=by rfl):Fb X c (.Tuple es kk pos) (gT n gs):=λhid ρ d=>
 PG.imp (x9 hc (tX λds=>h hid ρ ds) hn hst) λv σ H Q hq_=>by
  obtain⟨sr,r,ρ',e,q⟩:=hq_
  unfold gT at e;split at e
  ·split at e
   ·cases r with
    |tup h1 h2=>exact⟨_,_,rfl,SqT.of (bt _ _ _ _ h1),by rw[h2.length];assumption,_,sr,h2,ρ',e,q⟩
   ·cases e
  ·cases e
def ItOk(K:W.Frag)(W:Hp)(J:It)(ds:List D):Prop:=
 (∀(i:Nat) (d:D) (H:Hp),ds[i]? =some d->Same W H->J.go i H/\ ∀x H',J.yld i H x H'->Same H H'/\ ∀hid:aX,(∀b,hid b=true-> ∃o,H b=some o)->Same W (vw H hid)->Rep K (vw H' hid) x d)/\ ∀H,Same W H->J.stop ds.length H
def GT(K:W.Frag)(c:Ct)(hid:aX)(f:GA)(ρ:ay):TI:=λσ H R=>SR K c hid ρ σ H/\ ∃ds ρ',f ρ=some (ds,ρ')/\ ∀J H',Kept hid H H'->SR K c hid ρ' σ H'->ItOk K (vw H' hid) J ds->R J H'
def DI(X:Cx)(c:Ct)(tg iter:Expr)(f:GA):Prop:= ∀hid ρ,PI X tg iter (GT X.K c hid f ρ)
theorem PI.imp {t t':TI}(h:PI X tg iter t)(i: ∀σ H Q,t' σ H Q->t σ H Q):PI X tg iter t':=λaa s σ H R I q=>h aa s σ H R I (i σ H R q)
theorem F4 {α:Type}{t:α->TI}(h: ∀z,PI X tg iter (t z)):PI X tg iter (λσ H R=> ∃z,t z σ H R):=λaa s σ H R I ⟨z,q⟩=>h z aa s σ H R I q
theorem yM {K:W.Frag}{W:Hp}{a:Addr}{xs:List V}{ds:List D}(h:SqT K W a xs)(r:Reps K W xs ds):ItOk K W (FI K a) ds:=by
 refine⟨λi d H e s=>?_,λH s=>⟨xs,Same.seqT s h,by rw[r.length];exact Nat.le_refl _⟩⟩
 obtain⟨x,e1,r1⟩:=r.get e
 refine⟨⟨xs,x,Same.seqT s h,e1⟩,λy H' ⟨e2,e3⟩=>?_⟩
 subst e2;have:=e3 xs (Same.seqT s h)
 rw[e1] at this;cases this;exact⟨Same.refl _,λhid _ sw=>r1.mono sw⟩
def wl(lo:Int)(n:Nat):List D:=(List.range n).map λ(i:Nat)=>D.int (lo+i)
theorem sF {K:W.Frag}{W:Hp}{lo:Int}{n:Nat}:ItOk K W (Fa lo n) (wl lo n):=by
 refine⟨λi d H e s=>?_,λH s=>by show n<=(wl lo n).length;simp[wl]⟩
 unfold wl at e;rw[List.getElem?_map] at e;cases e1:(List.range n)[i]? with
 |none=>rw[e1] at e;cases e
 |some j=>
  rw[e1] at e;obtain⟨h1,h2⟩:=List.getElem?_eq_some_iff.mp e1
  simp at h1 h2;subst h2;cases e
  refine⟨h1,λy H' ⟨e2,e3⟩=>?_⟩
  subst e2 e3;exact⟨Same.refl _,λhid _ sw=>.int⟩
def gC(g:FG)(b:FS):List D->FS
 | [],ρ=>.nx ρ
 |d::r,ρ=>match g d ρ with
  |none=>.no
  |some ρ1=>match b ρ1 with
   | .nx ρ2=>gC g b r ρ2
   | .ct ρ2=>gC g b r ρ2
   | .bk ρ2=>.nx ρ2
   | .rt d ρ2=>.rt d ρ2
   | .no=>.no
def fz(f:GA)(g:FG)(b:FS):FS:=λρ=>match f ρ with
 |some (ds,ρ')=>gC g b ds ρ'
 |none=>.no
theorem dP {f:GA}{g:FG}{tb:FS}(hp:PassesOwn (model X.prog X.w) X.A X.env X.xe)(hc:X.calm=true)(hi:DI X c tg iter f)(hg:lv X c tg g)(hb:rY X c k body tb)
 (hs: ∀x,foldedSetIterable iter X.env x=pure x:=by intro _;rfl):DS X c k (.For tg iter body [] pos) (fz f g tb):=λρ=>
 PS.imp (BL hp hc (F4 λhid=>hi hid ρ) (yh λz:aX×ay×D=>hg z.1 z.2.1 z.2.2) (xE λρ=>hb ρ) hs) λD σ H hq_=>by
  obtain⟨hid,sr,q⟩:=hq_
  unfold fz at q;cases e1:f ρ with
  |none=>rw[e1] at q;exact q.elim
  |some z=>
   obtain⟨ds,ρ0⟩:=z
   rw[e1] at q;have q':EndOk X.K c k D (vw H hid) (gC g tb ds ρ0):=q
   refine⟨hid,sr,ds,ρ0,e1,λJ H1 kp s1 it=>?_⟩
   refine⟨λi m σ H=>m=ds.length-i/\i<=ds.length/\ ∃hid2 ρ2,SR X.K c hid2 ρ2 σ H/\Same (vw H1 hid) (vw H hid2)/\EndOk X.K c k D (vw H hid2) (gC g tb (ds.drop i) ρ2),⟨ds.length,by simp,Nat.zero_le _,hid,ρ0,s1,Same.refl _,EndOk.mono q' kp.vw⟩,?_⟩
   rintro i m σ2 H2 ⟨rfl,hi',hid2,ρ2,s2,w2,q2⟩
   have wH:Same (vw H1 hid) H2:=w2.trans (bt _ _)
   by_cases hlt:i<ds.length
   ·have hd:ds[i]? =some ds[i]:=List.getElem?_eq_getElem hlt
    have e2:ds.drop i=ds[i]::ds.drop (i+1):=List.drop_eq_getElem_cons hlt
    rw[e2] at q2;unfold gC at q2;obtain⟨go,yl⟩:=it.1 i ds[i] H2 hd wH
    refine .inr ⟨go,λσ' H'=> ∃hid3 ρ3,SR X.K c hid3 ρ3 σ' H'/\Same (vw H1 hid) (vw H' hid3)/\EndOk X.K c k D (vw H' hid3) (gC g tb (ds.drop (i+1)) ρ3),λσ' H' n3=>⟨ds.length- (i+1),by omega,rfl,hlt,n3⟩,λx H3 y=>?_⟩
    obtain⟨s3,rp⟩:=yl x H3 y
    have rx:=rp hid2 s2.tr w2
    cases e3:g ds[i] ρ2 with
    |none=>rw[e3] at q2;exact q2.elim
    |some ρ3=>
     rw[e3] at q2;refine⟨(hid2,ρ2,ds[i]),s2.ext s3,rx,ρ3,e3,λσ4 s4 _=>⟨ρ3,hid2,s4,?_⟩⟩
     have w3:Same (vw H2 hid2) (vw H3 hid2):=aw s3
     dsimp only at q2;cases e4:tb ρ3 with
     |nx ρ5=>rw[e4] at q2;exact λσ' H' hid' z w=>⟨hid',ρ5,z,(w2.trans w3).trans w,EndOk.mono q2 (w3.trans w)⟩
     |ct ρ5=>rw[e4] at q2;exact λσ' H' hid' z w=>⟨hid',ρ5,z,(w2.trans w3).trans w,EndOk.mono q2 (w3.trans w)⟩
     |bk ρ5=>rw[e4] at q2;exact λσ' H' hid' z w=>q2 σ' H' hid' z (w3.trans w)
     |rt d ρ5=>rw[e4] at q2;exact q2
     |no=>rw[e4] at q2;exact q2.elim
   ·have e:i=ds.length:=by omega
    subst e;rw[List.drop_eq_nil_of_le (Nat.le_refl _)] at q2;exact .inl ⟨it.2 H2 wH,q2 σ2 H2 hid2 s2 (Same.refl _)⟩
def sR(p:FT)(b:FS):Nat->FS
 |0,_=>.no
 |n+1,ρ=>match p ρ with
  |none=>.no
  |some false=>.nx ρ
  |some true=>match b ρ with
   | .nx ρ2=>sR p b n ρ2
   | .ct ρ2=>sR p b n ρ2
   | .bk ρ2=>.nx ρ2
   | .rt d ρ2=>.rt d ρ2
   | .no=>.no
theorem jz(n:Nat){p:FT}{tb:FS}(hp:PassesOwn (model X.prog X.w) X.A X.env X.xe)(hc:DT X c e p)(hb:rY X c k body tb):DS X c k (.While e body [] pos) (sR p tb n):=λρ=>
 PS.imp (yC hp (E9 λz:aX×ay=>hc z.1 z.2) (xE λρ=>hb ρ)) λD σ H hq_=>by
  obtain⟨hid,sr,q⟩:=hq_
  refine⟨λm σ H=> ∃hid2 ρ2,SR X.K c hid2 ρ2 σ H/\EndOk X.K c k D (vw H hid2) (sR p tb m ρ2),⟨n,hid,ρ,sr,q⟩,?_⟩
  rintro m σ2 H2 ⟨hid2,ρ2,s2,q2⟩
  cases m with
  |zero=>exact q2.elim
  |succ m=>
   unfold sR at q2;cases e1:p ρ2 with
   |none=>rw[e1] at q2;exact q2.elim
   |some b=>
    rw[e1] at q2;refine⟨(hid2,ρ2),s2,b,e1,λH3 s3=>?_⟩
    cases b with
    |false=>exact wg (q2 σ2 H3 hid2 (s2.ext s3) (aw s3))
    |true=>
     refine vM ⟨λσ' H'=> ∃hid3 ρ3,SR X.K c hid3 ρ3 σ' H'/\EndOk X.K c k D (vw H' hid3) (sR p tb m ρ3),λσ' H' n3=>⟨m,Nat.lt_succ_self _,n3⟩,ρ2,hid2,s2.ext s3,?_⟩
     have w3:Same (vw H2 hid2) (vw H3 hid2):=aw s3
     dsimp only at q2;cases e4:tb ρ2 with
     |nx ρ5=>rw[e4] at q2;exact λσ' H' hid' z w=>⟨hid',ρ5,z,EndOk.mono q2 (w3.trans w)⟩
     |ct ρ5=>rw[e4] at q2;exact λσ' H' hid' z w=>⟨hid',ρ5,z,EndOk.mono q2 (w3.trans w)⟩
     |bk ρ5=>rw[e4] at q2;exact λσ' H' hid' z w=>q2 σ' H' hid' z (w3.trans w)
     |rt d ρ5=>rw[e4] at q2;exact q2
     |no=>rw[e4] at q2;exact q2.elim
end
def gp(n:Nat)(ds:List D):ay:=ds.map Sl.v++List.replicate (n-ds.length) .no
def dX(kd:Kd)(n:Nat)(t:FS)(ds:List D):Option D:=match t (gp n ds) with
 | .rt d _=>some d
 | .nx _=>(match kd with
   | .n=>none
   |_=>some .non)
 |_=>none
def qw(n:Nat)(bs ds:List D):ay:=.arg bs::(ds.map Sl.v++List.replicate (n-1-ds.length) .no)
def o9:ay->Option (List D)
 | .arg bs::_=>some bs
 |_=>none
def AU(kd:Kd)(n:Nat)(t:FS)(bs ds:List D):Option (D×List D):=match t (qw n bs ds) with
 | .rt d ρ=>(o9 ρ).map λb=>(d,b)
 | .nx ρ=>(match kd with
   | .n=>none
   |_=>(o9 ρ).map λb=>(.non,b))
 |_=>none
theorem xM {K:W.Frag}{c:Ct}{hid:aX}{H:Hp}(m:Nat): ∀ {vs:List V} {ds:List D},Reps K (vw H hid) vs ds-> ∀(i:Nat) (s:Sl),(ds.map Sl.v++List.replicate m .no)[i]? =some s->SlOk K c hid (vs.map some++List.replicate m none) H i s:=by
 intro vs ds r i s e;have hl:=r.length
 by_cases hi:i<ds.length
 ·rw[List.getElem?_append_left (by simpa using hi),List.getElem?_map] at e
  have e2:ds[i]? =some ds[i]:=List.getElem?_eq_getElem hi
  rw[e2] at e;cases e
  obtain⟨x,h1,h2⟩:=r.get e2
  exact⟨x,by rw[List.getElem?_append_left (by simp;omega),List.getElem?_map,h1];rfl,h2⟩
 ·rw[List.getElem?_append_right (by simpa using hi),List.getElem?_replicate] at e
  split at e
  ·cases e;trivial
  ·cases e
theorem BO {ds:List D}{m i:Nat}: ¬Ow (ds.map Sl.v++List.replicate m Sl.no)[i]? :=λo=>by
 by_cases hi:i<ds.length
 ·rw[List.getElem?_append_left (by simpa using hi),List.getElem?_map,List.getElem?_eq_getElem hi] at o
  exact o
 ·rw[List.getElem?_append_right (by simpa using hi),List.getElem?_replicate] at o
  split at o<;>exact o
theorem SR.begins {K:W.Frag}{hid:aX}{H:Hp}{N:List Str}{vs:List V}{ds:List D}(tr:EX hid H)(r:Reps K (vw H hid) vs ds):SR K ⟨H,hid,λ_=>false⟩ hid (gp N.length ds) (fB N vs) H:=by
 have hl:=r.length
 unfold fB gp;rw[hl];exact⟨tr.1,tr.2,λ_ h=>h,λ_ _ h _=>h,λb o h=>⟨o,h⟩,tr.1,(λ_ h=>nomatch h),by simp[hl],λi s e=>xM _ r i s e,λi j a _ o=>absurd o BO⟩
section
variable {P:Program}{w:World}{K:W.Frag}{mg:Str->Option Value}{base:Heap}{x qual:Str}{st:Stmt}{f:Addr}{fd:FuncData}{N ps:List Str}{k:Nat}{t:FS}{kd:Kd}
theorem vh(F:Fun K x qual st f fd)(S:FnScope N ps (al st))(hkd:kd≠ .b)
 (body: ∀(cdv:Value) (A:Around) (outer:List Env) (s:Shared) (H:Hp) (hid:aX) (E:XK),Room k (A.deeper (envOfC qual (al st) s.heap.objs.size f cdv))->
   rY (m9 pN P w K mg base N qual (al st) f cdv A outer s H E).nox ⟨H,hid,λ_=>false⟩ kd (bR st) t):
 FnOk P w K mg base pN (k+1) f fd ps (bq K kd ps.length (dX kd N.length t)):=by
 refine F.ok S (λvs H Q E h=>?_) (λcdv A outer s H vs Q E hr h=>?_)
 ·obtain⟨hid,ds,_,r,hl,_⟩:=h
  rw[r.length,hl]
 ·obtain⟨hid,ds,tr,r,hl,d,hP,q⟩:=h
  refine⟨_,body cdv A outer s H hid E hr (gp N.length ds),hid,SR.begins tr r,?_⟩
  unfold dX at hP;cases e:t (gp N.length ds) with
  |nx ρ=>
   rw[e] at hP;intro σ' H' hid' sr _;have sm:Same H H':=λb o z=>sr.kp b o z rfl
   cases kd with
   |b=>exact absurd rfl hkd
   |s=>cases hP;exact q _ H' sm .non
   |n=>cases hP
  |rt d' ρ=>
   rw[e] at hP;cases hP
   intro v H' R;have sm:Same H H':=λb o z=>R.kp b o z rfl
   cases kd with
   |b=>exact absurd rfl hkd
   |s=>exact q v H' sm R.val
   |n=>exact q v H' sm R.val
  |bk ρ=>rw[e] at hP;cases hP
  |ct ρ=>rw[e] at hP;cases hP
  |no=>rw[e] at hP;cases hP
theorem SR.beginsE {hid:aX}{H:Hp}{a:Addr}{xs us:List V}{bs ds:List D}(tr:EX hid H)(ha:hid a=true)(hx:H a=some (.lst xs))(rb:Reps K (vw H hid) xs bs)(r:Reps K (vw H hid) us ds)(hN:0<N.length):
 SR K ⟨H,hid,λb=>decide (b=a)⟩ hid (qw N.length bs ds) (fB N (.ref a::us)) H:=by
 have hl:=r.length
 have es:fB N (.ref a::us)=some (V.ref a)::(us.map some++List.replicate (N.length-1-ds.length) none):=by
  unfold fB;rw[List.map_cons,List.cons_append,List.length_cons,hl];congr 3
  omega
 rw[es];unfold qw;refine⟨tr.1,tr.2,λ_ h=>h,λ_ _ h _=>h,λb o h=>⟨o,h⟩,tr.1,λb h=>?_,by simp[hl],λi s e=>?_,λi j z n o1 o2 q1 q2=>?_⟩
 ·have:b=a:=by simpa using h
  rw[this];exact ha
 ·cases i with
  |zero=>
   cases e
   exact⟨a,xs,rfl,hx,ha,by simp,rb⟩
  |succ i=>
   have z:=xM (c:=⟨H,hid,λb=>decide (b=a)⟩) (N.length-1-ds.length) r i s (by simpa using e)
   cases s with
   |no=>trivial
   |v d=>obtain⟨x,h1,h2⟩:=z;exact⟨x,by simpa using h1,h2⟩
   |own ds=>obtain⟨x,xs,h1,h2⟩:=z;exact⟨x,xs,by simpa using h1,h2⟩
   |arg ds=>obtain⟨x,xs,h1,h2⟩:=z;exact⟨x,xs,by simpa using h1,h2⟩
   |ob b=>obtain⟨x,h1,h2⟩:=z;exact⟨x,by simpa using h1,h2⟩
 ·cases i with
  |zero=>
   cases j with
   |zero=>exact n rfl
   |succ j=>exact BO (by simpa using o2)
  |succ i=>exact BO (by simpa using o1)
theorem vG {ρ:ay}{b:List D}(h:o9 ρ=some b):ρ[0]? =some (.arg b):=by
 unfold o9 at h;split at h
 ·cases h;rfl
 ·cases h
theorem Db {n:Nat}(F:Fun K x qual st f fd)(S:FnScope N ps (al st))(hkd:kd≠ .b)(hn:ps.length=n+1)
 (body: ∀(cdv:Value) (A:Around) (outer:List Env) (s:Shared) (H:Hp) (hid:aX) (a:Addr) (E:XK),Room k (A.deeper (envOfC qual (al st) s.heap.objs.size f cdv))->
   rY (m9 pN P w K mg base N qual (al st) f cdv A outer s H E).nox ⟨H,hid,λb=>decide (b=a)⟩ kd (bR st) t):
 FnOk P w K mg base pN (k+1) f fd ps (wM K kd n (AU kd N.length t)):=by
 refine F.ok S (λvs H Q E h=>?_) (λcdv A outer s H vs Q E hr h=>?_)
 ·obtain⟨hid,a,xs,bs,us,ds,rfl,_,_,_,_,r,hl,_⟩:=h
  rw[List.length_cons,r.length,hl,hn]
 ·obtain⟨hid,a,xs,bs,us,ds,rfl,tr,ha,hx,rb,r,hl,d,bs',hM,q⟩:=h
  have hN:0<N.length:=by have:=congrArg List.length S.pre;rw[List.length_take] at this;omega
  refine⟨_,body cdv A outer s H hid a E hr (qw N.length bs ds),hid,SR.beginsE tr ha hx rb r hN,?_⟩
  have fin: ∀(v:V) (H':Hp) (ρ:ay) (d:D),Ret K ⟨H,hid,λb=>decide (b=a)⟩ kd ρ H' v d->o9 ρ=some bs'->(∀v H' xs',(∀b o,H b=some o->b≠a->H' b=some o)->H' a=some (.lst xs')->Ec K kd hid H H' v d xs' bs'->Q v H')->Q v H':=by
   intro v H' ρ d R h0 q;obtain⟨a',xs',m1,m2,m3⟩:=R.arg 0 _ (vG h0)
   have:a'=a:=by simpa using m1
   subst this;refine q v H' xs' (λb o z n=>R.kp b o z (by simpa using n)) m2 ?_
   cases kd with
   |b=>exact absurd rfl hkd
   |s=>exact⟨R.val,m3⟩
   |n=>
    obtain⟨p,ys,es,rfl,rfl,h1,h2,h3⟩:=R.val
    exact⟨p,ys,es,rfl,rfl,h1,h2,h3,m3⟩
  unfold AU at hM;cases e:t (qw N.length bs ds) with
  |nx ρ=>
   rw[e] at hM;intro σ' H' hid' sr _;cases kd with
   |b=>exact absurd rfl hkd
   |s=>
    dsimp only at hM;cases e0:o9 ρ with
    |none=>rw[e0] at hM;cases hM
    |some b=>
     rw[e0] at hM;cases hM;exact fin .non H' ρ .non (Bu (k:=.s) (by decide) (sr.post (k:=.s) (Same.refl _) .non (by decide)) sr.h0) e0 q
   |n=>cases hM
  |rt d' ρ=>
   rw[e] at hM;dsimp only at hM;cases e0:o9 ρ with
   |none=>rw[e0] at hM;cases hM
   |some b=>
    rw[e0] at hM;cases hM;intro v H' R;exact fin v H' ρ _ R e0 q
  |bk ρ=>rw[e] at hM;cases hM
  |ct ρ=>rw[e] at hM;cases hM
  |no=>rw[e] at hM;cases hM
end
def ug(K:W.Frag):Sp:=λvs H Q _=> ∃(a:Addr) (ns:List Int),vs=[.ref a]/\SqR K H a (ns.map V.int)/\ns.length<=63/\ ∀H',Q (.bl true) H'
theorem nW {K:W.Frag}{F:Hp}: ∀ns:List Int,Reps K F (ns.map V.int) (ns.map D.int)
 | []=>.nil
 |_::r=>.cons .int (nW r)
theorem Cf {P:Program}{w:World}{K:W.Frag}{mg:Str->Option Value}{base:Heap}{f:Addr}{fd:FuncData}{x:Str}{k:Nat}{M:List D->Option D}(F:FnOk P w K mg base pN k f fd [x] (bq K .s 1 M))(hM: ∀ns:List Int,ns.length<=63->M [.scr (ns.map D.int)]=some (.bl true)):
 FnOk P w K mg base pN k f fd [x] (ug K):=F.imp λvs H Q E hq_=>by
 obtain⟨a,ns,e,hS,hl,q⟩:=hq_
 subst e;have hv:vw H (λ_=>false)=H:=by funext b;unfold vw;simp
 refine⟨λ_=>false,[.scr (ns.map D.int)],⟨(λb h=>nomatch h),(λb xs h=>nomatch h)⟩,?_,rfl,.bl true,hM ns hl,λv H' _ r=>?_⟩
 ·rw[hv];exact .cons (.scr hS (nW ns)) .nil
 ·cases r;exact q H'
theorem walkD {l:W.OpenLaw}{k:Nat}{x:Str}{q:Program}{loose:List Str}{XP:(Str->Option Value)->Heap->Prop}{YP:World->Heap->Prop}{d:DefRec}{K:Params->W.Frag}(hn:l.most=some 63)(hdf:d.params.defaults=[])(hr:Room k callerA)
 (hY: ∀(w:World) (h:Heap),YP w h->(K w.params).In h)
 (F: ∀(w:World) (mg:Str->Option Value) (fa:Addr) (h:Heap),(K w.params).In h->h.Ns mainGlobals mg->mg d.name=some (.ref fa)->
   ∃fd:FuncData,(∀(s:Shared) (u:Value),BindsTo s fd ⟨[u],[]⟩ [(x,u)])/\ ∀base:Heap,(K w.params).In base->base.Ns mainGlobals mg->FnOk l.prog w (K w.params) mg base pN k fa fd [x] (ug (K w.params))):
 W.WalkO q loose XP YP l.row.toRowW d [] (λf vs=>PySem.call f vs):=
 L2.walk_of (n:=63) (k:=k) (x:=x) (CX:=λ_=>pN) (sp:=λw=>ug (K w.params)) hn (by decide) hdf hr hY F (λ_ H a ns hl hO hS=>⟨a,ns,rfl,hS.elim (λr=>r.elim (λe=>by rcases hO a with z|⟨o,xs,z⟩<;>rw[z] at e<;>cases e) .inl) .inr,hl,λ_=>rfl⟩) λ_ _ _ _ _ z=>z
def oK(cells:List (Str×Addr)):List (Str×NameKind)->List (Str×Addr)->List (Str×Addr)
 | [],acc=>acc
 |(n,k)::r,acc=>oK cells r (if k== .free then(match cells.lookup n with
  |some c=>(n,c)::acc
  |none=>acc) else acc)
theorem pP {cells:List (Str×Addr)}: ∀ {names:List (Str×NameKind)} {acc:List (Str×Addr)},(∀p∈acc,cells.lookup p.1=some p.2)-> ∀p∈oK cells names acc,cells.lookup p.1=some p.2
 | [],acc,h,p,hp=>h p hp
 |(n,k)::r,acc,h,p,hp=>by
  refine pP (names:=r) ?_ p hp
  intro q hq;split at hq
  ·split at hq
   ·rename_i c e
    rcases List.mem_cons.mp hq with rfl|hq
    ·exact e
    ·exact h q hq
   ·exact h q hq
  ·exact h q hq
theorem rQ {cells:List (Str×Addr)}: ∀ {names:List (Str×NameKind)} {acc:List (Str×Addr)} (p:Str×Addr),p∈oK cells names acc->p∈acc\/(p.1,NameKind.free)∈names
 | [],acc,p,hp=>.inl hp
 |(n,k)::r,acc,p,hp=>by
  rcases rQ (names:=r) p hp with hq|hq
  ·split at hq
   ·rename_i ek
    split at hq
    ·rcases List.mem_cons.mp hq with e|hq
     ·subst e
      have:k=.free:=by simpa using ek
      subst this;exact .inr List.mem_cons_self
     ·exact .inl hq
    ·exact .inl hq
   ·exact .inl hq
  ·exact .inr (List.mem_cons_of_mem _ hq)
theorem rE {cells:List (Str×Addr)}: ∀ {names:List (Str×NameKind)} {acc:List (Str×Addr)} {p:Str×Addr},p∈acc->p∈oK cells names acc
 | [],acc,p,h=>h
 |(n,k)::r,acc,p,h=>by
  refine rE (names:=r) ?_
  split
  ·split
   ·exact List.mem_cons_of_mem _ h
   ·exact h
  ·exact h
theorem t9 {cells:List (Str×Addr)}{x:Str}{c:Addr}(hc:cells.lookup x=some c): ∀ {names:List (Str×NameKind)} {acc:List (Str×Addr)},(x,NameKind.free)∈names->(x,c)∈oK cells names acc
 | [],_,h=>nomatch h
 |(n,k)::r,acc,h=>by
  rcases List.mem_cons.mp h with e|h
  ·cases e
   refine rE (names:=r) ?_
   rw[if_pos (by rfl),hc]
   exact List.mem_cons_self
  ·exact t9 hc (names:=r) h
theorem nh {l:List (Str×Addr)}{x:Str}{c:Addr}(h:(x,c)∈l)(u: ∀p∈l,p.1=x->p.2=c):l.lookup x=some c:=by
 induction l with
 |nil=>exact nomatch h
 |cons p r ih=>
  obtain⟨n,a⟩:=p
  rw[List.lookup_cons];cases e:x==n with
  |true=>
   have e':x=n:=eq_of_beq e
   have:=u (n,a) List.mem_cons_self e'.symm
   simpa using this
  |false=>
   have ne:x≠n:=λe'=>by rw[e'] at e;simp at e
   rcases List.mem_cons.mp h with e'|h
   ·cases e';exact absurd rfl ne
   ·exact ih h λp hp=>u p (List.mem_cons_of_mem _ hp)
theorem si {cells:List (Str×Addr)}{names:List (Str×NameKind)}{x:Str}{c:Addr}(h:(oK cells names []).lookup x=some c):cells.lookup x=some c:=
 pP (names:=names) (acc:=[]) (λ_ z=>nomatch z) (x,c) (PySem.mem_of_lookup h)
theorem kD {cells:List (Str×Addr)}{names:List (Str×NameKind)}{x:Str}{c:Addr}(hc:cells.lookup x=some c)(hf:(x,NameKind.free)∈names):(oK cells names []).lookup x=some c:=
 nh (t9 hc hf) λp hp e=>by
  have:=pP (names:=names) (acc:=[]) (λ_ z=>nomatch z) p hp
  rw[e,hc] at this;exact(Option.some.inj this).symm
theorem bM {scope:Scope}{env:Env}(h: ∀x,(x,NameKind.free)∈scope.names-> ∃c,env.cells.lookup x=some c):closureFor scope env=pure (oK env.cells scope.names []):=by
 unfold closureFor;have key: ∀(names:List (Str×NameKind)) (acc:List (Str×Addr)),(∀x,(x,NameKind.free)∈names-> ∃c,env.cells.lookup x=some c)->
  (forIn names acc (λ(p:Str×NameKind) (r:List (Str×Addr))=>match p with
    |(name,kind)=>if(kind==NameKind.free)=true then do
       let __do_lift <-cellOf env name
       pure (ForInStep.yield ((name,__do_lift)::r)) else pure (ForInStep.yield r)):Sem (List (Str×Addr)))=pure (oK env.cells names acc):=by
  intro names
  induction names with
  |nil=>intro acc _;rfl
  |cons p r ih=>
   intro acc h;obtain⟨n,k⟩:=p
   rw[List.forIn_cons];have hr: ∀x,(x,NameKind.free)∈r-> ∃c,env.cells.lookup x=some c:=λx hx=>h x (List.mem_cons_of_mem _ hx)
   cases e:k==NameKind.free with
   |false=>
    simp only[e,Bool.false_eq_true,if_false,pure_bind];rw[ih acc hr]
    conv=>rhs;unfold oK
    simp[e]
   |true=>
    have ek:k=.free:=by simpa using e
    subst ek;obtain⟨c,hc⟩:=h n List.mem_cons_self
    have ec:cellOf env n=pure c:=by unfold cellOf;rw[hc]
    simp only[beq_self_eq_true,if_true,ec,pure_bind];rw[ih _ hr]
    conv=>rhs;unfold oK
    simp[hc]
 have:=key scope.names [] h
 simp only[this,pure_bind]
theorem fH {sc:Scope}{env:Env}{x:Str}{k:NameKind}(h:(relabel sc env).names.lookup x=some k): ∃k0,sc.names.lookup x=some k0/\(k=k0\/(k0=.free/\k=.cell)):=by
 unfold relabel at h;dsimp only at h
 generalize sc.names=l at h⊢
 induction l with
 |nil=>simp at h
 |cons p r ih=>
  obtain⟨n,k1⟩:=p
  rw[List.map_cons] at h;dsimp only at h;rw[List.lookup_cons];cases hx:x==n with
  |true=>
   refine⟨k1,rfl,?_⟩
   split at h
   ·rename_i hc
    rw[List.lookup_cons] at h;simp only[hx] at h;cases h
    have:k1=.free:=by
     simp only[Bool.and_eq_true] at hc;exact eq_of_beq hc.1.1
    exact .inr ⟨this,rfl⟩
   ·rw[List.lookup_cons] at h
    simp only[hx] at h;cases h
    exact .inl rfl
  |false=>
   split at h
   ·rw[List.lookup_cons] at h;simp only[hx] at h;exact ih h
   ·rw[List.lookup_cons] at h;simp only[hx] at h;exact ih h
def jY(cells:List (Str×Addr))(scope:Scope)(C:Addr):List (Str×Addr):=cellsFrom (C+1) scope.names (oK cells scope.names [])
theorem a9: ∀(names:List (Str×NameKind)) (n:Nat) (acc:List (Str×Addr)),cellsFrom n names acc=cellsFrom n names []++acc
 | [],_,_=>rfl
 |(name,kind)::r,n,acc=>by
  unfold cellsFrom;split
  ·rw[a9 r (n+1) ((name,n)::acc),a9 r (n+1) [(name,n)],List.append_assoc];rfl
  ·exact a9 r n acc
theorem oM: ∀ {names:List (Str×NameKind)} {n:Nat} {p:Str×Addr},p∈cellsFrom n names []->(p.1,NameKind.cell)∈names
 | [],_,_,h=>nomatch h
 |(name,kind)::r,n,p,h=>by
  unfold cellsFrom at h;split at h
  ·rename_i hk
   have hk':kind=.cell:=by simpa using hk
   subst hk';rw[a9] at h;rcases List.mem_append.mp h with h|h
   ·exact List.mem_cons_of_mem _ (oM h)
   ·rw[List.mem_singleton.mp h];exact List.mem_cons_self
  ·exact List.mem_cons_of_mem _ (oM h)
theorem j9: ∀ {names:List (Str×NameKind)} {n:Nat} {x:Str},(x,NameKind.cell)∈names-> ∃c,(x,c)∈cellsFrom n names []
 | [],_,_,h=>nomatch h
 |(name,kind)::r,n,x,h=>by
  unfold cellsFrom;rcases List.mem_cons.mp h with e|h
  ·cases e
   rw[if_pos (by rfl),a9]
   exact⟨n,List.mem_append_right _ List.mem_cons_self⟩
  ·split
   ·obtain⟨c,hc⟩:=j9 (n:=n+1) h
    rw[a9];exact⟨c,List.mem_append_left _ hc⟩
   ·exact j9 h
theorem sY {l:List (Str×Addr)}{x:Str}{c:Addr}(h:(x,c)∈l): ∃c',l.lookup x=some c':=by
 induction l with
 |nil=>exact nomatch h
 |cons p r ih=>
  obtain⟨n,a⟩:=p
  rw[List.lookup_cons];cases e:x==n with
  |true=>exact⟨a,rfl⟩
  |false=>
   rcases List.mem_cons.mp h with e'|h
   ·cases e';simp at e
   ·exact ih h
theorem cK {cells:List (Str×Addr)}{sc:Scope}{C:Addr}{x:Str}{c:Addr}(h:(jY cells sc C).lookup x=some c):(x,c)∈cellsFrom (C+1) sc.names []\/(oK cells sc.names []).lookup x=some c:=by
 unfold jY at h;rw[a9,List.lookup_append] at h;cases e:(cellsFrom (C+1) sc.names []).lookup x with
 |none=>rw[e] at h;exact .inr h
 |some c'=>rw[e] at h;cases h;exact .inl (PySem.mem_of_lookup e)
theorem xI {cells:List (Str×Addr)}{sc:Scope}{C:Addr}{x:Str}(h:(x,NameKind.cell)∈sc.names): ∃c,(jY cells sc C).lookup x=some c:=by
 obtain⟨c,hc⟩:=j9 (n:=C+1) h
 obtain⟨c',e⟩:=sY hc
 exact⟨c',by unfold jY;rw[a9,List.lookup_append,e];rfl⟩
theorem rN {cells:List (Str×Addr)}{sc:Scope}{C:Addr}{x:Str}(h:(x,NameKind.cell)∉sc.names):(jY cells sc C).lookup x=(oK cells sc.names []).lookup x:=by
 unfold jY;rw[a9,List.lookup_append];cases e:(cellsFrom (C+1) sc.names []).lookup x with
 |none=>rfl
 |some c'=>exact absurd (oM (PySem.mem_of_lookup e)) h
theorem oP {M:Model}{A:Around}{E:Value->Shared->Prop}{s:Shared}{scope:Scope}{globals:Addr}{closure:List (Str×Addr)}{qual:Str}{outer:Env}{Q:Env->Shared->Prop}
 (hQ: ∀h',h'.Ns s.heap.objs.size (λ_=>none)->(∀b o,s.heap.get? b=some o->h'.get? b=some o)->CellsOk h' (s.heap.objs.size+1) (cellsFrom (s.heap.objs.size+1) scope.names [])->
   Q (newEnv scope s.heap.objs.size globals (cellsFrom (s.heap.objs.size+1) scope.names closure) qual none .none (some outer) builtinsNs) {s with heap:=h',toks:=s.toks}):
 wpAny M A (newFunctionEnv scope globals closure [] qual none .none (some outer)) Q E s:=by
 simp only[newFunctionEnv,Option.isSome_some,if_true];refine wpAny_bind (wpAny_alloc ?_)
 refine wpAny_bind (wpAny_layCells _ (λname kind cells=>by cases hkc:kind==NameKind.cell<;>simp[hkc]) _ _ _ _ ?_)
 have ok:=cellsFrom_ok scope.names (s.heap.push {cls:=.type "dict",data:=.dict #[]}) (s.heap.objs.size+1) [] ⟨λ_ _ hm=>(nomatch hm),List.Pairwise.nil⟩ (by rw[Heap.size_push];exact Nat.le_refl _)
 rw[Heap.size_push] at ok;rw[show({s with heap:=s.heap.push {cls:=.type "dict",data:=.dict #[]}}:Shared).heap.objs.size=s.heap.objs.size+1 from Heap.size_push ..]
 rw[List.forIn_nil];refine wpAny_bind (wpAny_pure (wpAny_pure ?_))
 exact hQ _ ((Heap.Ns.new s.heap (.type "dict")).keeps (pushCells_keeps _ _)) (λb o e=>pushCells_keeps _ _ b o (Heap.get?_push_of_some _ e)) ok
def ar(X:Cx)(N':List Str)(scope:Scope)(C:Addr)(s₀:Shared)(H₀:Hp)(ex:List Addr):Cx where
 prog:=X.prog
 w:=X.w
 K:=X.K
 mg:=X.mg
 base:=X.base
 A:=X.A
 N:=N'
 s₀:=s₀
 H₀:=H₀
 env:=compEnvC scope (jY X.env.cells scope C) C X.env
 outer:=X.stack
 stack:=X.stack
 ex:=ex
 fn:=λx=>scope.names.lookup x==some .local||scope.names.lookup x==some .cell
 calm:=X.calm
 pn:=[]
 xe:=λ_ _=>False
def qr(N N':List Str)(sc:Scope):Bool:=
 decide (N.length<=N'.length)&&((N'.take N.length).zip N).all (λp=>(p.1==p.2&& !(sc.names.lookup p.1==some .local)&& !(sc.names.lookup p.1==some .cell))||(sc.names.lookup p.1).isNone)&&
  (N'.drop N.length).all λx=>sc.names.lookup x==some .local||sc.names.lookup x==some .cell
def pY(sc:Scope)(outer:Scope):Bool:=
 sc.names.all λy=>(y.2 != .cell||sc.names.lookup y.1==some .cell)&&(y.2 != .local||sc.names.lookup y.1==some .local)&&(y.2 != .free||(sc.names.lookup y.1==some .free&&(outer.names.lookup y.1==some .cell||outer.names.lookup y.1==some .free)))
theorem rk {sc o:Scope}(h:pY sc o=true): ∀y∈sc.names,y.2=.cell->sc.names.lookup y.1=some .cell:=λy hy e=>by
 have:=List.all_eq_true.mp h y hy
 simpa [e] using this
theorem fF {sc o:Scope}(h:pY sc o=true): ∀y∈sc.names,y.2=.local->sc.names.lookup y.1=some .local:=λy hy e=>by
 have:=List.all_eq_true.mp h y hy
 simpa [e] using this
theorem dB {sc o:Scope}(h:pY sc o=true): ∀x,(x,NameKind.free)∈sc.names->o.names.lookup x=some .cell\/o.names.lookup x=some .free:=λx hx=>by
 have:=List.all_eq_true.mp h _ hx
 simpa using (by simpa using this:_/\_).2
theorem nU {sc o:Scope}(h:pY sc o=true): ∀x,(x,NameKind.free)∈sc.names->sc.names.lookup x=some .free:=λx hx=>by
 have:=List.all_eq_true.mp h _ hx
 simpa using (by simpa using this:_/\_).1
theorem vL {N N':List Str}{sc:Scope}(h:qr N N' sc=true){i:Nat}{x:Str}(hi:i<N.length)(e:N'[i]? =some x)(hv: ∃k,sc.names.lookup x=some k/\(k=.local\/k=.cell\/k=.free)):N[i]? =some x/\sc.names.lookup x=some .free:=by
 unfold qr at h;simp only[Bool.and_eq_true,decide_eq_true_eq] at h;obtain⟨⟨h1,h2⟩,_⟩:=h
 have hN:N[i]? =some N[i]:=List.getElem?_eq_getElem hi
 have e1:(N'.take N.length)[i]? =some x:=by rw[List.getElem?_take_of_lt hi];exact e
 have hm:(x,N[i])∈(N'.take N.length).zip N:=by
  refine List.mem_of_getElem? (i:=i) ?_
  rw[List.getElem?_zip_eq_some];exact⟨e1,hN⟩
 have:=List.all_eq_true.mp h2 _ hm
 obtain⟨k,hk,hk2⟩:=hv
 dsimp only at this;rw[hk] at this;simp only[Option.isNone_some,Bool.or_false,Bool.and_eq_true,Bool.not_eq_true'] at this;obtain⟨⟨t1,t2⟩,t3⟩:=this
 have ex:x=N[i]:=eq_of_beq t1
 rcases hk2 with rfl|rfl|rfl
 ·simp at t2
 ·simp at t3
 ·exact⟨by rw[hN,<-ex],hk⟩
theorem AV {N N':List Str}{sc:Scope}(h:qr N N' sc=true):N.length<=N'.length:=by
 unfold qr at h;simp only[Bool.and_eq_true,decide_eq_true_eq] at h;exact h.1.1
section
variable {X:Cx}{aa:List (Addr×Obj)}{σ:St}{H:Hp}{s:Shared}{scope:Scope}{N':List Str}{fp:List Addr}
theorem wa(I:Inv X aa σ H s){b:Addr}(f:eW X aa H b):b∉frs X.stack:=λz=>by
 rcases List.mem_cons.mp (I.stkSub b z) with e|z
 ·exact f.2.1 e
 ·exact f.2.2.1 z
theorem lI {h':Heap}{tk:Nat}(I:Inv X aa σ H s)(hF: ∀b∈fp,eW X aa H b)(hO: ∀b∈fp,∃o,s.heap.get? b=some o)(hk:scope.kind=.function)(hs:pY scope X.env.scope=true)(hn:qr X.N N' scope=true)
 (ns:h'.Ns s.heap.objs.size λ_=>none) (kp: ∀b o,s.heap.get? b=some o->h'.get? b=some o) (oc:CellsOk h' (s.heap.objs.size+1) (cellsFrom (s.heap.objs.size+1) scope.names [])):
 Inv (ar X N' scope s.heap.objs.size s H fp) [] (σ++List.replicate (N'.length-X.N.length) none) H {s with heap:=h',toks:=tk}:=by
 have hlen:=AV hn
 have cl: ∀x c,(oK X.env.cells scope.names []).lookup x=some c->X.env.cells.lookup x=some c:=λx c e=>si e
 have clt: ∀x c,(oK X.env.cells scope.names []).lookup x=some c->c<s.heap.objs.size:=λx c e=>let⟨_,z⟩:=I.cell x c (cl x c e);z.lt
 have newC:H s.heap.objs.size=none:=I.hok.fresh (Nat.le_refl _)
 refine⟨⟨I.ok.mod,hk,I.ok.glob,I.ok.blt,Nat.le_refl _,λx y c h1 h2=>?_,λx hx=>?_,λx c h1 h2=>?_,I.ok.hd,I.ok.frames,.inl rfl,λb hb=>⟨?_,λx c e=>?_⟩,I.bs,Nat.le_trans I.ok.bsz I.sz,λb o e hb=>?_,λb hb=>wa I (hF b hb),I.stack,I.stkFree⟩,
  rfl,I.bare,Un.kept kp,⟨_,ns,λi x v e1 e2 e3=>?_⟩,λx c e=>?_,newC,λx c e=>?_,λp hp=>absurd (show p∈([]:List (Addr×Obj)) from hp) (by simp),I.hok.kept kp,?_⟩
 ·
  rcases cK h1 with h1|h1<;>rcases cK h2 with h2|h2
  ·exact name_of_addr oc.apart h1 h2
  ·exact absurd (clt y c h2) (Nat.not_lt.mpr (Nat.le_of_succ_le (oc.empty _ _ h1).2))
  ·exact absurd (clt x c h1) (Nat.not_lt.mpr (Nat.le_of_succ_le (oc.empty _ _ h2).2))
  ·exact I.ok.inj x y c (cl x c h1) (cl y c h2)
 ·
  have hx':(relabel scope X.env).names.lookup x=some .cell\/(relabel scope X.env).names.lookup x=some .free:=hx
  have:(x,NameKind.cell)∈scope.names\/(x,NameKind.free)∈scope.names:=by
   rcases hx' with hx'|hx'
   ·obtain⟨k0,e0,e1|⟨e1,_⟩⟩:=fH hx'
    ·subst e1;exact .inl (PySem.mem_of_lookup e0)
    ·subst e1;exact .inr (PySem.mem_of_lookup e0)
   ·obtain⟨k0,e0,e1|⟨_,e1⟩⟩:=fH hx'
    ·subst e1;exact .inr (PySem.mem_of_lookup e0)
    ·cases e1
  rcases this with this|this
  ·exact xI this
  ·have hc:=dB hs x this
   obtain⟨c,e⟩:=I.ok.has x hc
   exact⟨c,(rN λz=>by have z1:=rk hs _ z rfl;have z2:=nU hs x this;rw[z2] at z1;cases z1).trans (kD e this)⟩
 ·
  have h1':scope.names.lookup x=some .local\/scope.names.lookup x=some .cell:=by
   have h1:(scope.names.lookup x==some .local||scope.names.lookup x==some .cell)=true:=h1
   simpa using h1
  rcases cK h2 with h2|h2
  ·exact Nat.le_of_succ_le (oc.empty _ _ h2).2
  ·exfalso
   rcases rQ _ (PySem.mem_of_lookup h2) with z|z
   ·exact nomatch z
   ·rw[nU hs x z] at h1';rcases h1' with h1'|h1'<;>cases h1'
 ·obtain⟨o,e⟩:=hO b hb
  exact Nat.ne_of_lt (Heap.lt_size e)
 ·rcases cK e with e|e
  ·obtain⟨o,e'⟩:=hO b hb
   exact λz=>absurd (Heap.lt_size e') (Nat.not_lt.mpr (z▸Nat.le_of_succ_le (oc.empty _ _ e).2))
  ·exact(hF b hb).2.2.2.2.1 x c (cl x c e)
 ·obtain⟨_,_,_,h4,_⟩:=hF b hb
  rcases h4 with h4|h4
  ·exact I.ok.noex b o e h4
  ·exact absurd (Nat.lt_of_lt_of_le (Heap.lt_size e) (Nat.le_trans I.ok.bsz h4)) (Nat.lt_irrefl _)
 ·have hi:i<X.N.length:=by
   by_cases hi:i<σ.length
   ·rw[<-I.len];exact hi
   ·rw[List.getElem?_append_right (by omega),List.getElem?_replicate] at e2
    split at e2<;>cases e2
  rw[List.getElem?_append_left (by rw[I.len];exact hi)] at e2
  have e3':(relabel scope X.env).names.lookup x=some .local\/(relabel scope X.env).names.lookup x=some .cell\/(relabel scope X.env).names.lookup x=some .free:=e3
  have hv: ∃k,scope.names.lookup x=some k/\(k=.local\/k=.cell\/k=.free):=by
   rcases e3' with z|z|z
   all_goals
    obtain⟨k0,q0,q1|⟨q1,q2⟩⟩:=fH z
    ·subst q1;exact⟨_,q0,by simp⟩
    ·subst q1;exact⟨_,q0,by simp⟩
  obtain⟨hN,hf⟩:=vL hn hi e1 hv
  have hfm:=PySem.mem_of_lookup hf
  have hc:=dB hs x hfm
  have nc:(x,NameKind.cell)∉scope.names:=λz=>by have z1:=rk hs _ z rfl;rw[hf] at z1;cases z1
  obtain⟨m,hm,hl⟩:=I.loc
  obtain⟨u,r,l⟩:=hl i x v hN e2 (.inr hc)
  refine⟨u,r,.inr ⟨?_,?_⟩⟩
  ·show(relabel scope X.env).names.lookup x=some .cell\/(relabel scope X.env).names.lookup x=some .free
   rcases e3' with z|z|z
   ·obtain⟨k0,q0,q1|⟨q1,q2⟩⟩:=fH z
    ·subst q1;rw[hf] at q0;cases q0
    ·cases q2
   ·exact .inl z
   ·exact .inr z
  ·rcases l with⟨l,_⟩|⟨_,c,ec,z⟩
   ·have l':X.env.scope.names.lookup x=some .local:=l
    rcases hc with hc|hc<;>rw[hc] at l'<;>cases l'
   ·exact⟨c,(rN nc).trans (kD ec hfm),z.keeps kp⟩
 ·rcases cK e with e|e
  ·exact⟨_,(oc.empty _ _ e).1⟩
  ·obtain⟨v,z⟩:=I.cell x c (cl x c e)
   exact⟨v,z.keeps kp⟩
 ·rcases cK e with e|e
  ·exact I.hok.fresh (Nat.le_of_succ_le (oc.empty _ _ e).2)
  ·exact I.freeC x c (cl x c e)
 ·show(σ++_).length=N'.length
  rw[List.length_append,List.length_replicate,I.len];omega
end
def FC(K:W.Frag)(c:Ct)(hid:aX)(f:FA)(ρ:ay):TI:=λσ H R=>SR K c hid ρ σ H/\ ∃ds,f ρ=some ds/\ ∀J H',Same H H'->ItOk K (vw H' hid) J ds->R J H'
def DIp(X:Cx)(c:Ct)(tg iter:Expr)(f:FA):Prop:= ∀hid ρ,PI X tg iter (FC X.K c hid f ρ)
def EB {ι:Type}(IR:Hp->V->ι->Prop)(L W:Hp)(J:It)(ds:List ι):Prop:=
 (∀(i:Nat) (d:ι) (H:Hp),ds[i]? =some d->Same L H->Same W H->J.go i H/\ ∀x H',J.yld i H x H'->Same H H'/\ ∀hid:aX,(∀b,hid b=true-> ∃o,H b=some o)->Same W (vw H hid)->IR (vw H' hid) x d)/\ ∀H,Same L H->Same W H->J.stop ds.length H
abbrev AJ(K:W.Frag)(L W:Hp)(J:It)(ds:List D):Prop:=EB (Rep K) L W J ds
theorem ItOk.b {K:W.Frag}{L W:Hp}{J:It}{ds:List D}(h:ItOk K W J ds):AJ K L W J ds:=⟨λi d H e _ w=>h.1 i d H e w,λH _ w=>h.2 H w⟩
def Gp {ι:Type}(IR:Hp->V->ι->Prop)(K:W.Frag)(c:Ct)(hid:aX)(f:ay->Option (List ι))(ρ:ay):TI:=λσ H R=>SR K c hid ρ σ H/\ ∃ds,f ρ=some ds/\ ∀J H',Same H H'->EB IR H' (vw H' hid) J ds->R J H'
def Gs {ι:Type}(IR:Hp->V->ι->Prop)(X:Cx)(c:Ct)(tg iter:Expr)(f:ay->Option (List ι)):Prop:= ∀hid ρ,PI X tg iter (Gp IR X.K c hid f ρ)
abbrev zo(X:Cx)(c:Ct)(tg iter:Expr)(f:FA):Prop:=Gs (Rep X.K) X c tg iter f
section
variable {X:Cx}{c:Ct}{k:Kd}{tg iter:Expr}{pos:Pos}
theorem DIp.b {f:FA}(h:DIp X c tg iter f):zo X c tg iter f:=λhid ρ=>PI.imp (h hid ρ) λσ H R ⟨sr,ds,e,q⟩=>⟨sr,ds,e,λJ H' s io=>q J H' s io.b⟩
theorem DIp.e {f:FA}(h:DIp X c tg iter f):DI X c tg iter (fG f):=λhid ρ=>PI.imp (h hid ρ) λσ H R hq_=>by
 obtain⟨sr,ds,ρ',e,q⟩:=hq_
 obtain⟨e1,rfl⟩:=qN e
 exact⟨sr,ds,e1,λJ H' s io=>q J H' (.of s) (sr.ext s) io⟩
def jr(f:FE):FA:=λρ=>(f ρ).bind λd=>match d with
 | .lst ds=>some ds
 |_=>none
def yf(f:FE):FA:=λρ=>(f ρ).bind λd=>match d with
 | .tup ds=>some ds
 |_=>none
theorem nO {f:FE}{ρ:ay}{ds:List D}(h:jr f ρ=some ds):f ρ=some (.lst ds):=by
 unfold jr at h;cases e:f ρ with
 |none=>rw[e] at h;cases h
 |some d=>
  rw[e] at h;cases d with
  |lst z=>cases h;rfl
  |_=>cases h
theorem vZ {f:FE}{ρ:ay}{ds:List D}(h:yf f ρ=some ds):f ρ=some (.tup ds):=by
 unfold yf at h;cases e:f ρ with
 |none=>rw[e] at h;cases h
 |some d=>
  rw[e] at h;cases d with
  |tup z=>cases h;rfl
  |_=>cases h
theorem yu {K:W.Frag}{W:Hp}{a:Addr}{xs:List V}{ds:List D}(h1:SqL K W a xs)(h2:Reps K W xs ds):ItOk K W (FJ K a) ds:=by
 refine⟨λi d H e s=>?_,λH s=>⟨_,s.seq h1,by rw[h2.length];exact Nat.le_refl _⟩⟩
 obtain⟨x,e1,r1⟩:=h2.get e
 refine⟨⟨_,x,s.seq h1,e1⟩,λy H' ⟨e2,e3⟩=>?_⟩
 subst e2;have:=e3 _ (s.seq h1)
 rw[e1] at this;cases this;exact⟨Same.refl _,λhid _ sw=>r1.mono sw⟩
theorem cx {f:FE}(h:DP X c .s iter f):DIp X c tg iter (jr f):=λhid ρ=>PI.imp (t6 (h hid ρ)) λσ H R hq_=>by
 obtain⟨sr,ds,e,q⟩:=hq_
 refine⟨sr,_,nO e,λv H' s' r=>?_⟩
 cases r with
 |lst h1 h2=>have h1:=SqL.of (K:=X.K) h1;exact⟨_,rfl,⟨_,(bt _ _).seq h1⟩,q _ H' s' (yu h1 h2)⟩
theorem xN {f:FE}(h:DP X c .b iter f):zo X c tg iter (jr f):=λhid ρ=>PI.imp (t6 (h hid ρ)) λσ H R hq_=>by
 obtain⟨sr,ds,e,q⟩:=hq_
 refine⟨sr,_,nO e,λv H' s' r=>?_⟩
 obtain⟨a,xs,rfl,h1,h2⟩:=Rep1.lst r
 refine⟨a,rfl,⟨_,h1⟩,q _ H' s' ⟨λi d H e s w=>?_,λH s w=>⟨_,s.seq h1,by rw[h2.length];exact Nat.le_refl _⟩⟩⟩
 obtain⟨x,e1,r1⟩:=h2.get e
 refine⟨⟨_,x,s.seq h1,e1⟩,λy H' ⟨e2,e3⟩=>?_⟩
 subst e2;have:=e3 _ (s.seq h1)
 rw[e1] at this;cases this;exact⟨Same.refl _,λhid _ sw=>r1.mono sw⟩
theorem vi {f:FE}(h:DP X c .s iter f):DIp X c tg iter (yf f):=λhid ρ=>PI.imp (C1 (h hid ρ)) λσ H R hq_=>by
 obtain⟨sr,ds,e,q⟩:=hq_
 refine⟨sr,_,vZ e,λv H' s' r=>?_⟩
 cases r with
 |tup h1 h2=>exact⟨_,rfl,⟨_,SqT.of (bt _ _ _ _ h1)⟩,q _ H' s' (yM (SqT.of h1) h2)⟩
def du(f:FA):FA:=λρ=>(f ρ).bind λds=>match ds with
 | [.int j]=>if j.natAbs<4000000000 then some (wl 0 j.toNat) else none
 |_=>none
theorem bK {a:Expr}{f:FA}{p:Pos}(hm:X.mg "range"=none)(ha:DA X c [a] f)(hg:Gl X "range":=by rfl)(hs:starEach [a] X.env=[(false,eval a X.env)]:=by rfl):DIp X c tg (.Call (.Name "range" p) [a] [] pos) (du f):=λhid ρ=>
 PI.imp (wC hg hm (ha hid ρ) hs) λσ H R hq_=>by
  obtain⟨sr,ds,e,q⟩:=hq_
  unfold du at e;cases e1:f ρ with
  |none=>rw[e1] at e;cases e
  |some z=>
   rw[e1] at e;dsimp only[Option.bind] at e;split at e
   ·split at e
    ·cases e
     refine⟨sr,_,e1,λvs H' s' r=>?_⟩
     cases r with
     |cons r t=>cases t;cases r;exact⟨_,rfl,by omega,by omega,q _ H' s' sF⟩
    ·cases e
   ·cases e
def g8(ifs:List Expr)(env:Env):Sem Bool:=forIn ifs true λc r=>if r=true then do let ok <-isTrue c env (eval c env);pure (ForInStep.yield ok) else pure (ForInStep.yield r)
def mM(X:Cx)(c:Ct)(ifs:List Expr)(p:FT):Prop:= ∀hid ρ (aa:List (Addr×Obj)) (s:Shared) (σ:St) (H:Hp) (Q:Bool->Hp->Prop),Inv X aa σ H s->FU X.K c hid p ρ σ H Q->wpAny (model X.prog X.w) X.A (g8 ifs X.env) (TP X aa σ Q) X.xe s
def cY:FT:=λ_=>some true
theorem be:mM X c [] cY:=λhid ρ aa s σ H Q I hq_=>by
 obtain⟨sr,d,e,q⟩:=hq_
 cases e
 exact wpAny_tests_nil ⟨H,I,q H (Same.refl _)⟩
theorem k8 {e:Expr}{p:FT}(h:DT X c e p):mM X c [e] p:=λhid ρ aa s σ H Q I q=>wpAny_tests_one (h hid ρ aa s σ H Q I q)
end
theorem fJ {prog:Program}{w:World}{A:Around}{R:Result->Shared->Prop}{s:Shared}{elt target iter:Expr}{ifs:List Expr}{scope:Scope}{pos:Pos}{it acc:Value}{env:Env}(I:Nat->Shared->Prop)
 (turn: ∀n s,I n s->wpAny (model prog w) A (pyNext it) (λr s₁=>match r with
   |none=>R (.ok .next) s₁
   |some v=>wpAny (model prog w) A (letOwnedTupleGo target it v) (λ_ s₁=>wpAny (model prog w) A (assign target env v) (λ_ s₂=>
     wpAny (model prog w) A (g8 ifs env) (λok s₃=>
      if ok=true then wpAny (model prog w) A (eval elt env) (λx s₄=>
       wpAny (model prog w) A (call (.builtin "list.append") [acc,x]) (λ_ s₅=> ∃m,m<n/\I m s₅) (λ_ _=>False) s₄) (λ_ _=>False) s₃
      else∃m,m<n/\I m s₃) (λ_ _=>False) s₂) (λ_ _=>False) s₁) (λ_ _=>False) s₁) (λ_ _=>False) s)
 (n:Nat) (h:I n s):
 codeAny (model prog w) A (.compLoop (.ListComp elt [⟨target,iter,ifs,0⟩] scope pos) 0 it acc env) R s:=by
 have no: ∀ {E':Value->Shared->Prop} (x:Value) (s:Shared),False->E' x s:=λ_ _ z=>z.elim
 refine codeAny_loop rfl I (λn s hI=>?_) n h
 show wpAny _ A ((compTurn (.ListComp elt [⟨target,iter,ifs,0⟩] scope pos) 0 it acc env).onRaise (λx=>do noteFrame x env;theTreesLotGoes x)) _ _ s
 refine wpAny_noted ?_
 rw[compTurn_list];refine wpAny_bind (wpAny_standAt (wpAny_bind (wpAny_mono (turn n s hI) (λr s₁ h₁=>?_) no)))
 cases r with
 |none=>exact wpAny_pure h₁
 |some v=>
  refine wpAny_bind (wpAny_mono h₁ (λ_ s₁ h₁=>?_) no)
  refine wpAny_bind (wpAny_mono h₁ (λ_ s₂ h₂=>wpAny_bind (wpAny_mono h₂ (λok s₃ h₃=>?_) no)) no)
  cases ok with
  |false=>exact wpAny_pure ⟨rfl,h₃⟩
  |true=>
   exact wpAny_bind (wpAny_bind (wpAny_mono h₃ (λx s₄ h₄=>wpAny_bind (wpAny_mono h₄ (λ_ s₅ h₅=>wpAny_pure (wpAny_pure ⟨rfl,h₅⟩)) no)) no))
def bZ {ι:Type}(g:ι->ay->Option ay)(p:FT)(f:FE)(ρ0:ay):List ι->Option (List D)
 | []=>some []
 |d::r=>(g d ρ0).bind λρ1=>(p ρ1).bind λb=>if b=true then(f ρ1).bind λy=>(bZ g p f ρ0 r).map (y:: ·) else bZ g p f ρ0 r
def bz {ι:Type}(m:Nat)(gi:ay->Option (List ι))(g:ι->ay->Option ay)(p:FT)(f:FE):FE:=λρ=>(gi ρ).bind λds=>if ds.length<=sizeLine then(bZ g p f (ρ++List.replicate m .no) ds).map D.lst else none
theorem lL {ι:Type}{m:Nat}{gi:ay->Option (List ι)}{g:ι->ay->Option ay}{p:FT}{f:FE}{ρ:ay}{d:D}(h:bz m gi g p f ρ=some d): ∃ds ys,gi ρ=some ds/\ds.length<=sizeLine/\bZ g p f (ρ++List.replicate m .no) ds=some ys/\d=.lst ys:=by
 unfold bz at h;cases e1:gi ρ with
 |none=>rw[e1] at h;cases h
 |some ds=>
  rw[e1] at h;dsimp only[Option.bind] at h;split at h
  ·cases e2:bZ g p f (ρ++List.replicate m .no) ds with
   |none=>rw[e2] at h;cases h
   |some ys=>rw[e2] at h;cases h;exact⟨ds,ys,rfl, ‹_›,e2,rfl⟩
  ·cases h
def dO {ι:Type}(n:Nat)(g:ι->ay->Option ay):Prop:= ∀d (ρ0 ρ1:ay),g d ρ0=some ρ1->ρ1.length=ρ0.length/\ ∀i:Nat,i<n->ρ1[i]? =ρ0[i]?
def u5(n:Nat)(g:pW):Prop:= ∀d (ρ0 ρ1:ay),g d ρ0=some ρ1->ρ1.length=ρ0.length/\ ∀i:Nat,i<n->ρ1[i]? =ρ0[i]?
theorem aN {n i:Nat}(h:n<=i):dO n (gN i):=λd ρ0 ρ1 e=>by
 cases e
 exact⟨by simp,λj hj=>List.getElem?_set_ne (by omega)⟩
theorem bQ {n:Nat}:u5 n kT:=λd ρ0 ρ1 e=>by
 unfold kT at e;split at e
 ·cases e;exact⟨rfl,λ_ _=>rfl⟩
 ·cases e
theorem aE {n:Nat}{g:FG}{gs:pW}(h1:dO n g)(h2:u5 n gs):u5 n (fW g gs):=λd ρ0 ρ1 e=>by
 cases d with
 |nil=>cases e
 |cons d ds=>
  have e:(g d ρ0).bind (λρ'=>gs ds ρ')=some ρ1:=e
  cases e1:g d ρ0 with
  |none=>rw[e1] at e;cases e
  |some ρ2=>
   rw[e1] at e;obtain⟨a1,a2⟩:=h1 d ρ0 ρ2 e1
   obtain⟨b1,b2⟩:=h2 ds ρ2 ρ1 e
   exact⟨b1.trans a1,λi hi=>(b2 i hi).trans (a2 i hi)⟩
theorem fI {n m:Nat}{gs:pW}(h:u5 n gs):dO n (gT m gs):=λd ρ0 ρ1 e=>by
 unfold gT at e;split at e
 ·split at e
  ·exact h _ _ _ e
  ·cases e
 ·cases e
theorem SR.forget {K:W.Frag}{c:Ct}{hid:aX}{ρ0 ρ1:ay}{σ:St}{H:Hp}(h:SR K c hid ρ1 σ H)(hl:ρ1.length=ρ0.length)(hs: ∀(i:Nat) (s:Sl),ρ0[i]? =some s->s=.no\/ρ1[i]? =some s):SR K c hid ρ0 σ H:=by
 have ow: ∀i:Nat,Ow ρ0[i]? ->Ow ρ1[i]? :=λi o=>by
  cases e:ρ0[i]? with
  |none=>rw[e] at o;exact o.elim
  |some s=>
   rcases hs i s e with rfl|z
   ·rw[e] at o;exact o.elim
   ·rw[z,<-e];exact o
 refine⟨h.tr,h.ht,h.h0,h.kp,h.t0,h.c0,h.m0,h.len.trans hl,λi s e=>?_,λi j a n o1 o2=>h.ap i j a n (ow i o1) (ow j o2)⟩
 rcases hs i s e with rfl|z
 ·trivial
 ·exact h.sl i s z
theorem SR.more {K:W.Frag}{c:Ct}{hid:aX}{ρ:ay}{σ:St}{H:Hp}(h:SR K c hid ρ σ H)(m:Nat):SR K c hid (ρ++List.replicate m .no) (σ++List.replicate m none) H:=by
 have lt: ∀ {i:Nat},Ow (ρ++List.replicate m Sl.no)[i]? ->i<ρ.length:=λ{i} o=>by
  by_cases hi:i<ρ.length
  ·exact hi
  ·rw[List.getElem?_append_right (by omega),List.getElem?_replicate] at o
   split at o<;>exact o.elim
 refine⟨h.tr,h.ht,h.h0,h.kp,h.t0,h.c0,h.m0,by simp[h.len],λi s e=>?_,λi j a n o1 o2 q1 q2=>?_⟩
 ·by_cases hi:i<ρ.length
  ·rw[List.getElem?_append_left hi] at e
   have z:=h.sl i s e
   have es:(σ++List.replicate m none)[i]? =σ[i]? :=List.getElem?_append_left (by rw[h.len];exact hi)
   cases s with
   |no=>trivial
   |v d=>obtain⟨x,h1,h2⟩:=z;exact⟨x,es.trans h1,h2⟩
   |own ds=>obtain⟨a,xs,h1,h2⟩:=z;exact⟨a,xs,es.trans h1,h2⟩
   |arg ds=>obtain⟨a,xs,h1,h2⟩:=z;exact⟨a,xs,es.trans h1,h2⟩
   |ob b=>obtain⟨a,h1,h2⟩:=z;exact⟨a,es.trans h1,h2⟩
  ·rw[List.getElem?_append_right (by omega),List.getElem?_replicate] at e
   split at e
   ·cases e;trivial
   ·cases e
 ·have l1:=lt o1
  have l2:=lt o2
  rw[List.getElem?_append_left l1] at o1;rw[List.getElem?_append_left l2] at o2;rw[List.getElem?_append_left (by rw[h.len];exact l1)] at q1
  rw[List.getElem?_append_left (by rw[h.len];exact l2)] at q2
  exact h.ap i j a n o1 o2 q1 q2
section
variable {X:Cx}{c:Ct}{elt tg iter:Expr}{ifs:List Expr}{scope:Scope}{pos:Pos}{N':List Str}{m:Nat}{ι:Type}{IR:Hp->V->ι->Prop}{gi:ay->Option (List ι)}{g:ι->ay->Option ay}{p:FT}{f:FE}
theorem SR.write {K:W.Frag}{hid:aX}{ρ:ay}{σ:St}{H:Hp}{a:Addr}{o':HO}(h:SR K c hid ρ σ H)(hh:hid a=true)(h0:c.H₀ a=none)(na: ∀i:Nat,Ow ρ[i]? ->σ[i]? ≠some (some (.ref a))){o:HO}(ha:H a=some o)(hm: ∀p u,o≠ .nst p u:=by intro _ _ e;cases e)(hn: ∀xs,o'≠ .tup xs:=by intro _ e;cases e):SR K c hid ρ σ (aV H a o'):=by
 have tr': ∀b o,H b=some o-> ∃o2,(aV H a o') b=some o2:=λb o q=>by
  by_cases e:b=a
  ·subst e;exact⟨_,aA⟩
  ·exact⟨o,by rw[ax e];exact q⟩
 refine⟨λb hb=>let⟨o,q⟩:=h.tr b hb;tr' b o q,λb xs hb q=>by
  by_cases e:b=a
  ·subst e;rw[aA] at q;exact hn _ (Option.some.inj q)
  ·rw[ax e] at q;exact h.ht b xs hb q,h.h0,λb o q m=>?_,λb o q=>let⟨o2,q2⟩:=h.t0 b o q;tr' b o2 q2,h.c0,h.m0,h.len,λi s e=>?_,h.ap⟩
 ·rw[ax (aM q h0)];exact h.kp b o q m
 ·have z:=h.sl i s e
  have ne: ∀a',Ow ρ[i]? ->σ[i]? =some (some (.ref a'))->a'≠a:=λa' o q w=>by subst w;exact na i o q
  cases s with
  |no=>trivial
  |v d=>obtain⟨x,h1,h2⟩:=z;exact⟨x,h1,by rw[bS hh];exact h2⟩
  |own ds=>obtain⟨a',xs,h1,h2,h3,h4,h5⟩:=z;exact⟨a',xs,h1,by rw[ax (ne a' (by rw[e];trivial) h1)];exact h2,h3,h4,by rw[bS hh];exact h5⟩
  |arg ds=>obtain⟨a',xs,h1,h2,h3,h4,h5⟩:=z;exact⟨a',xs,h1,by rw[ax (ne a' (by rw[e];trivial) h1)];exact h2,h3,h4,by rw[bS hh];exact h5⟩
  |ob b=>obtain⟨a',h1,h2⟩:=z;exact⟨a',h1,h2.mono (λow x hx o q=>by rw[ax (hx.ne (ne a' (by rw[e];exact ow) h1) ha hm)];exact q) (by rw[bS hh];exact Same.refl _) λ_ _ _ q=>q⟩
structure CLI(Y:Cx)(K:W.Frag)(c:Ct)(hid:aX)(ρ0:ay)(H W:Hp)(D0:Addr)(fp:List Addr)(tn:Nat->Heap->Prop){ι:Type}(g:ι->ay->Option ay)(p:FT)(f:FE)(ds:List ι)(ys:List D)(n i:Nat)(xs:List V)(ad:List D)(σ':St)(H':Hp)(s':Shared):Prop where
 e:n=ds.length-i
 hi:i<=ds.length
 I:Inv Y [] σ' H' s'
 st:tn i s'.heap
 fr: ∀b∈fp,H' b=none
 sr:SR K c hid ρ0 σ' H'
 sm:Same H H'
 ac:H' D0=some (.lst xs)
 rp:Reps K (vw H' hid) xs ad
 w:Same W (vw H' hid)
 hl:xs.length<=i
 na: ∀i:Nat,Ow ρ0[i]? ->σ'[i]? ≠some (some (.ref D0))
 go: ∃rest,bZ g p f ρ0 (ds.drop i)=some rest/\ad++rest=ys
theorem wt(hcalm:X.calm=true)(hT:dO X.N.length g)
 (hg: ∀C s₀ H₀ ex,Fk IR (ar X N' scope C s₀ H₀ ex) c tg g) (hp: ∀C s₀ H₀ ex,mM (ar X N' scope C s₀ H₀ ex) c ifs p) (he: ∀C s₀ H₀ ex,DP (ar X N' scope C s₀ H₀ ex) c .s elt f)
 {σ3:St} {H H3:Hp} {s3 s4:Shared} {hid:aX} {ρ:ay} {J:It} {it D0 C:Addr} {fp:List Addr} {tn:Nat->Heap->Prop} {ds:List ι} {ys:List D} {R:Result->Shared->Prop} {W:Hp} (hρ:ρ.length=X.N.length)
 (I:Inv (ar X N' scope C s3 H3 fp) [] σ3 H3 s4) (sr:SR X.K c hid (ρ++List.replicate m .no) σ3 H3) (hh:hid D0=true) (h00:c.H₀ D0=none) (na: ∀i:Nat,Ow (ρ++List.replicate m Sl.no)[i]? ->σ3[i]? ≠some (some (.ref D0))) (hacc:H3 D0=some (.lst [])) (sm:Same H H3) (nD:H D0=none) (wv:Same W (vw H3 hid)) (T:Turn X.prog X.w X.K tg J fp it tn) (st:tn 0 s4.heap) (hF: ∀b∈fp,H3 b=none)
 (io:EB IR H W J ds) (hz:ds.length<=sizeLine) (hc:bZ g p f (ρ++List.replicate m .no) ds=some ys)
 (hR: ∀(s':Shared) (σ':St) (H':Hp) (xs:List V),Inv (ar X N' scope C s3 H3 fp) [] σ' H' s'->Same H H'->H' D0=some (.lst xs)->Reps X.K (vw H' hid) xs ys->R (.ok .next) s'):
 codeAny (model X.prog X.w) X.A (.compLoop (.ListComp elt [⟨tg,iter,ifs,0⟩] scope pos) 0 (.ref it) (.ref D0) (compEnvC scope (jY X.env.cells scope C) C X.env)) R s4:=by
 have stat: ∀ {aa:List (Addr×Obj)} {H':Hp},(∀q∈aa,q.1∉fp)->(∀b∈fp,H' b=none)-> ∀b∈fp,eW (ar X N' scope C s3 H3 fp) aa H' b:=λ{aa H'} hpn hn b hb=>
  ⟨hn b hb,(I.ok.exf b hb).1,I.ok.exfs b hb,.inl hb,(I.ok.exf b hb).2,λq hq e=>hpn q (by have hq':q∈([]:List (Addr×Obj))++aa:=hq;simpa using hq') (by rw[e];exact hb)⟩
 have no: ∀q∈([]:List (Addr×Obj)),q.1∉fp:=λq hq=>nomatch hq
 refine fJ (λn s'=> ∃(i:Nat) (xs:List V) (ad:List D) (σ':St) (H':Hp),CLI (ar X N' scope C s3 H3 fp) X.K c hid (ρ++List.replicate m .no) H W D0 fp tn g p f ds ys n i xs ad σ' H' s') ?_ ds.length
  ⟨0,[],[],σ3,H3,by simp,Nat.zero_le _,I,st,hF,sr,sm,hacc,.nil,wv,Nat.zero_le _,na,ys,by simpa using hc,rfl⟩
 rintro n s5 ⟨i,xs,ad,σ5,H5,rfl,hi,I5,st5,f5,sr5,sm5,ac5,rp5,w5,hl5,na5,rest,hc5,hy5⟩
 have wH:Same W H5:=w5.trans (bt _ _)
 by_cases hlt:i<ds.length
 ·have hd:ds[i]? =some ds[i]:=List.getElem?_eq_getElem hlt
  have e2:ds.drop i=ds[i]::ds.drop (i+1):=List.drop_eq_getElem_cons hlt
  rw[e2] at hc5;unfold bZ at hc5;obtain⟨go,yl⟩:=io.1 i ds[i] H5 hd sm5 wH
  refine aZ (T.item (ar X N' scope C s3 H3 fp) rfl rfl rfl hcalm i [] s5 σ5 H5 (λ_ _=>False) I5 (stat no f5) st5 go) λr s6 hq_=>?_
  obtain⟨u,hr,h6⟩:=hq_
  subst hr;refine aZ h6 λ_ s7 hq_=>?_
  obtain⟨x,H7,I7,r7,y7,st7,f7⟩:=hq_
  obtain⟨s7',rp⟩:=yl x H7 y7
  have rx:=rp hid sr5.tr w5
  have I7':=I7.pinned (stat no f7) (T.obj _ _ st7)
  cases e3:g ds[i] (ρ++List.replicate m .no) with
  |none=>rw[e3] at hc5;cases hc5
  |some ρ1=>
   rw[e3] at hc5;have hc5:(p ρ1).bind (λb=>if b=true then(f ρ1).bind λy=>(bZ g p f (ρ++List.replicate m .no) (ds.drop (i+1))).map (y:: ·) else bZ g p f (ρ++List.replicate m .no) (ds.drop (i+1)))=some rest:=hc5
   obtain⟨tl1,tl2⟩:=hT _ _ _ e3
   have fg: ∀ {σ':St} {H':Hp},SR X.K c hid ρ1 σ' H'->SR X.K c hid (ρ++List.replicate m .no) σ' H':=λ{σ' H'} z=>z.forget tl1 λj s e=>by
    by_cases hj:j<X.N.length
    ·exact .inr ((tl2 j hj).trans e)
    ·refine .inl ?_
     rw[List.getElem?_append_right (by omega),List.getElem?_replicate] at e
     split at e
     ·cases e;rfl
     ·cases e
   have keepT: ∀ {σ':St} {H':Hp} {s':Shared},Inv (ar X N' scope C s3 H3 fp) ([]++iC fp s7.heap) σ' H' s'->tn (i+1) s'.heap/\ ∀b∈fp,H' b=none:=λ{σ' H' s'} J'=>by
    refine⟨T.keep _ _ _ st7 λb hb o e=>(J'.pin (b,o) (List.mem_append_right _ (List.mem_append_right _ (bL hb e)))).1,λb hb=>?_⟩
    obtain⟨o,e,_⟩:=T.obj _ _ st7 b hb
    exact(J'.pin (b,o) (List.mem_append_right _ (List.mem_append_right _ (bL hb e)))).2.1
   refine aZ (hg C s3 H3 fp hid _ ds[i] _ s7 σ5 H7 x u (λσ' H'=>H'=H7/\SR X.K c hid ρ1 σ' H7/\OwK (ρ++List.replicate m .no) ρ1 σ5 σ') I7' r7 ⟨sr5.ext s7',rx,ρ1,e3,λσ' z o=>⟨rfl,z,o⟩⟩) λ_ s8 hq_=>?_
   obtain⟨σ8,H8,I8,e8,q8,o8⟩:=hq_
   subst e8;have na8: ∀i:Nat,Ow (ρ++List.replicate m Sl.no)[i]? ->σ8[i]? ≠some (some (.ref D0)):=λj o=>by
    have o1:Ow ρ1[j]? :=by
     by_cases hj:j<X.N.length
     ·rw[tl2 j hj];exact o
     ·exfalso
      rw[List.getElem?_append_right (by omega),List.getElem?_replicate] at o
      split at o<;>exact o.elim
    rw[(o8 j o1).2];exact na5 j o
   cases e4:p ρ1 with
   |none=>rw[e4] at hc5;cases hc5
   |some b=>
    rw[e4] at hc5;have hc5:(if b=true then(f ρ1).bind λy=>(bZ g p f (ρ++List.replicate m .no) (ds.drop (i+1))).map (y:: ·) else bZ g p f (ρ++List.replicate m .no) (ds.drop (i+1)))=some rest:=hc5
    refine aZ (hp C s3 H3 fp hid ρ1 _ s8 σ8 H8 (λb' H'=>b'=b/\Same H8 H') I8 ⟨q8,b,e4,λH' s'=>⟨rfl,s'⟩⟩) λok s9 hq_=>?_
    obtain⟨H9,I9,e9,sm9⟩:=hq_
    subst e9;have w9:Same (vw H5 hid) (vw H9 hid):=aw (s7'.trans sm9)
    cases ok with
    |false=>
     have hc5:bZ g p f (ρ++List.replicate m .no) (ds.drop (i+1))=some rest:=hc5
     obtain⟨k1,k2⟩:=keepT I9
     exact⟨ds.length- (i+1),by omega,i+1,xs,ad,σ8,H9,rfl,hlt,I9.unpinned,k1,k2,fg (q8.ext sm9),sm5.trans (s7'.trans sm9),sm9 _ _ (s7' _ _ ac5),rp5.mono w9,w5.trans w9,by omega,na8,rest,hc5,hy5⟩
    |true=>
     have hc5:((f ρ1).bind λy=>(bZ g p f (ρ++List.replicate m .no) (ds.drop (i+1))).map (y:: ·))=some rest:=hc5
     cases e5:f ρ1 with
     |none=>rw[e5] at hc5;cases hc5
     |some y=>
      rw[e5] at hc5;have hc5:(bZ g p f (ρ++List.replicate m .no) (ds.drop (i+1))).map (y:: ·)=some rest:=hc5
      cases e6:bZ g p f (ρ++List.replicate m .no) (ds.drop (i+1)) with
      |none=>rw[e6] at hc5;cases hc5
      |some rest'=>
       rw[e6] at hc5;cases hc5
       show wpAny (model X.prog X.w) X.A (eval elt _) _ _ s9;refine aZ (he C s3 H3 fp hid ρ1 _ s9 σ8 H9 (λv H'=>Same H9 H'/\Rep X.K (vw H' hid) v y) I9 ⟨q8.ext sm9,y,e5,λv H' s' r=>⟨s',r⟩⟩) λv s10 hq_=>?_
       obtain⟨z,H10,I10,rz,sm10,rp10⟩:=hq_
       have sm':Same H5 H10:=s7'.trans (sm9.trans sm10)
       have a10:H10 D0=some (.lst xs):=sm' _ _ ac5
       refine aZ (gY (X:=ar X N' scope C s3 H3 fp) _ s10 σ8 H10 (.ref D0) [z] (.ref D0) [v] (λ_ H'=>H'=aV H10 D0 (.lst (xs++[z]))) I10 rfl (.cons rz .nil) ⟨D0,xs,z,rfl,rfl,a10,by omega,rfl⟩) λ_ s11 ⟨_,H11,I11,_,e11⟩=>?_
       subst e11;obtain⟨k1,k2⟩:=keepT I11
       have vv:vw (aV H10 D0 (.lst (xs++[z]))) hid=vw H10 hid:=bS hh
       have w10:Same (vw H5 hid) (vw H10 hid):=aw sm'
       refine⟨ds.length- (i+1),by omega,i+1,xs++[z],ad++[y],σ8,_,rfl,hlt,I11.unpinned,k1,k2,?_,λb o e=>?_,aA,?_,?_,by simp;omega,na8,rest',e6,by rw[<-hy5];simp⟩
       ·
        have q10:=fg ((q8.ext sm9).ext sm10)
        exact q10.write hh h00 na8 a10
       ·rw[ax (aM e nD)];exact sm' _ _ (sm5 _ _ e)
       ·rw[vv];exact(rp5.mono w10).append (.cons rp10 .nil)
       ·rw[vv];exact w5.trans w10
 ·have e:i=ds.length:=by omega
  subst e;rw[List.drop_eq_nil_of_le (Nat.le_refl _)] at hc5;cases hc5
  rw[List.append_nil] at hy5;subst hy5;refine aZ (T.done (ar X N' scope C s3 H3 fp) rfl rfl rfl hcalm ds.length [] s5 σ5 H5 (λ_ _=>False) I5 (stat no f5) st5 (io.2 H5 sm5 wH)) λr s6 hq_=>?_
  obtain⟨hr,I6⟩:=hq_
  subst hr;exact hR s6 σ5 H5 xs I6 sm5 ac5 rp5
theorem mD(hcalm:X.calm=true)(hk:scope.kind=.function)(hs:pY scope X.env.scope=true)(hn:qr X.N N' scope=true)(hm:N'.length-X.N.length=m)(hT:dO X.N.length g)
 (hg: ∀C s₀ H₀ ex,Fk IR (ar X N' scope C s₀ H₀ ex) c tg g) (hp: ∀C s₀ H₀ ex,mM (ar X N' scope C s₀ H₀ ex) c ifs p) (he: ∀C s₀ H₀ ex,DP (ar X N' scope C s₀ H₀ ex) c .s elt f)
 {E:Value->Shared->Prop} {aa:List (Addr×Obj)} {σ:St} {H:Hp} {s:Shared} {hid:aX} {ρ:ay} {J:It} {it:Addr} {fp:List Addr} {tn:Nat->Heap->Prop} {ds:List ι} {ys:List D} {RR:Value->Addr->Result->Shared->Prop}
 (I:Inv X aa σ H s) (sr:SR X.K c hid ρ σ H) (T:Turn X.prog X.w X.K tg J fp it tn) (st:tn 0 s.heap) (hF: ∀b∈fp,eW X aa H b) (io:EB IR H (vw H hid) J ds) (hz:ds.length<=sizeLine) (hc:bZ g p f (ρ++List.replicate m .no) ds=some ys)
 (hR: ∀(D C:Addr) (s':Shared) (H':Hp) (xs:List V),s.heap.objs.size<=D->s.heap.objs.size<=C->D≠C->H D=none->Same H H'->H' D=some (.lst xs)->Reps X.K (vw H' (a7 hid D)) xs ys->(∃m,s'.heap.Ns C m)->H' C=none->s'.os=s.os->AllBare s'.gens->HOk X.prog X.w H' s'.heap->Un (frs X.stack) fp H H' s.heap s'.heap->RR (.ref D) C (.ok .next) s'):
 wpAny (model X.prog X.w) X.A (newList []) (λacc s₃=>wpAny (model X.prog X.w) X.A (newFunctionEnv scope X.env.globals (oK X.env.cells scope.names []) [] X.env.qual none .none (some X.env)) (λcenv s₄=>
  codeAny (model X.prog X.w) X.A (.compStart (.ListComp elt [⟨tg,iter,ifs,0⟩] scope pos) 0 (.ref it) acc {cenv with scope:=relabel scope X.env}) (RR acc cenv.locals) s₄) E s₃) E s:=by
 refine wpAny_newObj_type (oP λh₁ hns₁ kp1 oc₁=>?_)
 dsimp only at hns₁ kp1 oc₁⊢
 generalize hH2:s.heap.push {cls:=.type "list",dict:=none,data:=.seq ([]:List Value).toArray}=H2 at hns₁ kp1 oc₁⊢
 have hC:H2.objs.size=s.heap.objs.size+1:=by rw[<-hH2,Heap.size_push]
 have hD:H s.heap.objs.size=none:=I.hok.fresh (Nat.le_refl _)
 have I2:Inv X aa σ (aV H s.heap.objs.size (.lst [])) {s with heap:=H2}:=by
  rw[<-hH2];exact I.laid (t':=s.toks) (λb o e=>Heap.get?_push_of_some _ e) (Nat.le_refl _) ⟨Nat.zero_le _,[],0,.nil,Heap.get?_push_size _ rfl⟩
 have fpLt: ∀b∈fp,b<s.heap.objs.size:=λb hb=>let⟨o,e,_⟩:=T.obj 0 s.heap st b hb;Heap.lt_size e
 have hF2: ∀b∈fp,eW X aa (aV H s.heap.objs.size (.lst [])) b:=λb hb=>⟨by rw[ax (Nat.ne_of_lt (fpLt b hb))];exact(hF b hb).1,(hF b hb).2⟩
 have kp0: ∀b o,s.heap.get? b=some o->H2.get? b=some o:=λb o e=>by rw[<-hH2];exact Heap.get?_push_of_some _ e
 have IY:=lI (tk:=s.toks) (N':=N') (fp:=fp) I2 hF2 (λb hb=>let⟨o,e,_⟩:=T.obj 0 s.heap st b hb;⟨o,kp0 b o e⟩) hk hs hn hns₁ kp1 oc₁
 rw[hm] at IY;dsimp only at IY;have sr0:SR X.K c (a7 hid s.heap.objs.size) (ρ++List.replicate m .no) (σ++List.replicate m none) (aV H s.heap.objs.size (.lst [])):=(sr.hide (aC hD _) hD aA).more m
 have hρ:ρ.length=X.N.length:=by rw[<-sr.len];exact I.len
 have nf:hid s.heap.objs.size=false:=sr.fresh hD
 have st1:tn 0 h₁:=T.keep _ _ _ st λb hb o e=>kp1 b o (kp0 b o e)
 have na0: ∀i:Nat,Ow (ρ++List.replicate m Sl.no)[i]? ->(σ++List.replicate m none)[i]? ≠some (some (V.ref s.heap.objs.size)):=(sr.more m).notOw nf
 have wv:Same (vw H hid) (vw (aV H s.heap.objs.size (.lst [])) (a7 hid s.heap.objs.size)):=by rw[pI hD];exact Same.refl _
 have loop: ∀s4:Shared,s4={s with heap:=h₁,toks:=s.toks}->
  codeAny (model X.prog X.w) X.A (.compLoop (.ListComp elt [⟨tg,iter,ifs,0⟩] scope pos) 0 (.ref it) (.ref s.heap.objs.size) (compEnvC scope (jY X.env.cells scope H2.objs.size) H2.objs.size X.env)) (RR (.ref s.heap.objs.size) H2.objs.size) s4:=by
  rintro s4 rfl
  refine wt (H:=H) (hid:=a7 hid s.heap.objs.size) (W:=vw H hid) hcalm hT hg hp he hρ IY sr0 bC (sr.fresh0 hD) na0 aA (aC hD _) hD wv T st1 (λb hb=>(hF2 b hb).1) io hz hc ?_
  intro s' σ' H' xs I' sm' hx' rp';have un1:Un (frs X.stack) fp H (aV H s.heap.objs.size (.lst [])) s.heap H2:=Un.laid (λb o e=>kp0 b o e) (Nat.le_refl _) hD
  refine hR s.heap.objs.size H2.objs.size s' H' xs (Nat.le_refl _) (by rw[hC];exact Nat.le_succ _) (by rw[hC];exact Nat.ne_of_lt (Nat.lt_succ_self _)) hD sm' hx' rp' (let⟨m,hm,_⟩:=I'.loc;⟨m,hm⟩) I'.free I'.os I'.bare I'.hok (un1.trans I'.base)
 exact codeAny_compStart_list (loop _ rfl) (T.self X.A 0 _ _ _ st1 (loop _ rfl))
theorem cs(hcalm:X.calm=true)(hT:dO X.N.length g)(hi:Gs IR X c tg iter gi)
 (hg: ∀C s₀ H₀ ex,Fk IR (ar X N' scope C s₀ H₀ ex) c tg g) (hp: ∀C s₀ H₀ ex,mM (ar X N' scope C s₀ H₀ ex) c ifs p) (he: ∀C s₀ H₀ ex,DP (ar X N' scope C s₀ H₀ ex) c .s elt f)
 (hk:scope.kind=.function:=by rfl) (hs:pY scope X.env.scope=true:=by kernel_rfl) (hn:qr X.N N' scope=true:=by kernel_rfl) (hm:N'.length-X.N.length=m:=by rfl) (hset: ∀x,foldedSetIterable iter X.env x=pure x:=by intro _;rfl):
 DP X c .n (.ListComp elt [⟨tg,iter,ifs,0⟩] scope pos) (bz m gi g p f):=by
 intro hid ρ aa s σ H Q I hq;obtain⟨sr,d,hd,q⟩:=hq
 obtain⟨ds,ys,e1,hz,hc,rfl⟩:=lL hd
 rw[eval_ListComp];refine wpAny_comprehension_free (use:=none) rfl hset (bM λx hx=>I.ok.has x (dB hs x hx)) hk (fF hs) ?_
 refine aZ (hi hid ρ aa s σ H (λJ H'=>Same H H'/\EB IR H' (vw H' hid) J ds) I ⟨sr,ds,e1,λJ H' s1 io=>⟨s1,io⟩⟩) λv s1 h1=>aZ h1 λitv s2 h2=>?_
 obtain⟨it,fp,tn,J,H2,rfl,I2,T,st2,f2,sm,io⟩:=h2
 refine mD (RR:=λacc C=>compPost (model X.prog X.w) X.A X.xe none (EP X aa σ Q) acc C) hcalm hk hs hn hm hT hg hp he I2 (sr.ext sm) T st2 f2 io hz hc ?_
 intro D C s' H' xs hDge hCge hDC hD sm' hx rp ⟨mm,hns⟩ hC' hos hbare hok hun;refine⟨mm,hns,λh' hsb=>⟨.ref D,H',?_,rfl,q _ H' (sm.trans sm') ⟨D,xs,ys,rfl,rfl,sm.free hD,hx,rp⟩⟩⟩
 have neC: ∀b o,s2.heap.get? b=some o->b≠C:=λb o e z=>by subst z;exact absurd (Heap.lt_size e) (Nat.not_lt.mpr hCge)
 have hun':Un (frs X.stack) fp H2 H' s2.heap h':=⟨λb o e n h1 h2=>(hsb.2 b (neC b o e)).trans (hun.keep b o e n h1 h2),λb o e n h1 h2=>let⟨sl,z⟩:=hun.slot b o e n h1 h2;⟨sl,(hsb.2 b (neC b o e)).trans z⟩,hun.free,λb o e h2=>let⟨o',z⟩:=hun.there b o e h2;⟨o',(hsb.2 b (neC b o e)).trans z⟩,hun.tups,hun.frzs,hun.tbls⟩
 have hok':HOk X.prog X.w H' h':=λb o e=>by
  have nb: ∀b' o',H' b'=some o'->b'≠C:=λb' o' e' z=>by subst z;rw[hC'] at e';cases e'
  refine(hok b o e).stay (λc' u hc' z=>(hsb.2 c' ?_).trans z) (λ_ z=>z) λ_ _ z=>z
  rcases hc' with z'|z'
  ·rw[z'];exact nb b o e
  ·exact nb c' _ z'
 exact I2.call' (s':={s' with heap:=h'}) (ch:=fp) hos hun' hok' hbare λb hb=>⟨(f2 b hb).2.2.2.1,(f2 b hb).2.1,(f2 b hb).2.2.2.2.1,(f2 b hb).2.2.2.2.2⟩
end
section
variable {X:Cx}{c:Ct}{elt tg iter:Expr}{ifs:List Expr}{scope:Scope}{pos spos py:Pos}{N':List Str}{m:Nat}{gi:FA}{g:FG}{p:FT}{f:FE}{y:Str}
theorem Ak(i:Nat)(hcalm:X.calm=true)(hN:X.N.Nodup)(hT:dO X.N.length g)(hi:zo X c tg iter gi)
 (hg: ∀C s₀ H₀ ex,lv (ar X N' scope C s₀ H₀ ex) c tg g) (hp: ∀C s₀ H₀ ex,mM (ar X N' scope C s₀ H₀ ex) c ifs p) (he: ∀C s₀ H₀ ex,DP (ar X N' scope C s₀ H₀ ex) c .s elt f)
 (hsw:swapsWith (.ListComp elt [⟨tg,iter,ifs,0⟩] scope pos) (some (.Name y py)) spos.line X.env=pure true) (hyi:X.N[i]? =some y) (hy:X.env.scope.names.lookup y=some .local)
 (hk:scope.kind=.function) (hs:pY scope X.env.scope=true) (hn:qr X.N N' scope=true) (hm:N'.length-X.N.length=m) (hset: ∀x,foldedSetIterable iter X.env x=pure x) (ρ:ay):
 PS X (.Assign [.Name y py] (.ListComp elt [⟨tg,iter,ifs,0⟩] scope pos) spos) (Ad (λσ H Q=> ∃hid,Cs X.K c hid .n (bz m gi g p f) ρ σ H Q) (uj i)):=by
 intro aa s σ H E I hq;obtain⟨hid,sr,d,hd,q⟩:=hq
 obtain⟨ds,ys,e1,hz,hc,rfl⟩:=lL hd
 rw[exec_Assign_Name_used _ _ _ _ hsw];refine wpAny_bind (wpAny_standAt (wpAny_bind ?_))
 show wpAny _ X.A (do let _ <-comprehension (.ListComp elt [⟨tg,iter,ifs,0⟩] scope pos) scope X.env _ (newList []) false (eval iter X.env) (some (assign (.Name y py) X.env))) _ _ s
 refine wpAny_bind (wpAny_mono (wpAny_comprehension_free (use:=some (assign (.Name y py) X.env)) (Q:=λ_ s'=>SP X aa E .next s') rfl hset (bM λx hx=>I.ok.has x (dB hs x hx)) hk (fF hs) ?_) (λ_ s' hq=>wpAny_pure (wpAny_pure hq)) λ_ _ e=>e)
 refine aZ (hi hid ρ aa s σ H (λJ H'=>Same H H'/\AJ X.K H' (vw H' hid) J ds) I ⟨sr,ds,e1,λJ H' s1 io=>⟨s1,io⟩⟩) λv s1 h1=>aZ h1 λitv s2 h2=>?_
 obtain⟨it,fp,tn,J,H2,rfl,I2,T,st2,f2,sm,io⟩:=h2
 refine mD (IR:=Rep X.K) (RR:=λacc C=>compPost (model X.prog X.w) X.A X.xe (some (assign (.Name y py) X.env)) (λ_ s'=>SP X aa E .next s') acc C) hcalm hk hs hn hm hT hg hp he I2 (sr.ext sm) T st2 f2 io hz hc ?_
 intro D C s' H' xs hDge hCge hDC hD sm' hx rp ⟨mm,hns⟩ hC' hos hbare hok hun;have I3:Inv X aa σ H' s':=I2.call' (ch:=fp) hos hun hok hbare λb hb=>⟨(f2 b hb).2.2.2.1,(f2 b hb).2.1,(f2 b hb).2.2.2.2.1,(f2 b hb).2.2.2.2.2⟩
 have fin:=q _ H' (sm.trans sm') ⟨D,xs,ys,rfl,rfl,sm.free hD,hx,rp⟩
 have ltC: ∀b o,s2.heap.get? b=some o->b≠C:=λb o e z=>by subst z;exact absurd (Heap.lt_size e) (Nat.not_lt.mpr hCge)
 have hLC:C≠X.env.locals:=λz=>by
  have:=I2.lt
  rw[<-z] at this;exact absurd this (Nat.not_lt.mpr hCge)
 show wpAny _ X.A (assign (.Name y py) X.env (.ref D)) _ _ s';refine wpAny_assign_Name (jR (v:=.ref D) I3 hN hyi (.inl hy) rfl (λs'' I4 hb=>?_) (.inr hy))
 obtain⟨a,hsb,ha⟩:=hb
 have hCa:C≠a:=by
  rcases ha with rfl|ha
  ·exact hLC
  ·obtain⟨w',o,ho,_⟩:=I2.cell y a ha
   exact λz=>ltC a o ho z.symm
 refine⟨mm,hns.sameBut hsb hCa,λh3 hs3=>⟨_,H',?_,fin⟩⟩
 refine I4.turned (t':=s''.toks) (it:=C) (λb o nb e=>(hs3.2 b nb).trans e) hC' hLC (.inr (Nat.le_trans I2.sz hCge)) (λx c' e z=>?_) (λq hq z=>?_)
 ·obtain⟨w',o,ho,_⟩:=I2.cell x c' e
  exact ltC c' o ho z
 ·exact ltC q.1 q.2 (I2.pin q hq).1 z
theorem zE(i:Nat){k:Kd}(hcalm:X.calm=true)(hN:X.N.Nodup)(hT:dO X.N.length g)(hi:zo X c tg iter gi)
 (hg: ∀C s₀ H₀ ex,lv (ar X N' scope C s₀ H₀ ex) c tg g) (hp: ∀C s₀ H₀ ex,mM (ar X N' scope C s₀ H₀ ex) c ifs p) (he: ∀C s₀ H₀ ex,DP (ar X N' scope C s₀ H₀ ex) c .s elt f)
 (hsw:swapsWith (.ListComp elt [⟨tg,iter,ifs,0⟩] scope pos) (some (.Name y py)) spos.line X.env=pure true:=by rfl) (hyi:X.N[i]? =some y:=by rfl) (hy:X.env.scope.names.lookup y=some .local:=by rfl)
 (hk:scope.kind=.function:=by rfl) (hs:pY scope X.env.scope=true:=by kernel_rfl) (hn:qr X.N N' scope=true:=by kernel_rfl) (hm:N'.length-X.N.length=m:=by rfl) (hset: ∀x,foldedSetIterable iter X.env x=pure x:=by intro _;rfl):
 DS X c k (.Assign [.Name y py] (.ListComp elt [⟨tg,iter,ifs,0⟩] scope pos) spos) (bc i (bz m gi g p f)):=λρ=>PS.imp (Ak i hcalm hN hT hi hg hp he hsw hyi hy hk hs hn hm hset ρ) λD σ H hq_=>by
 obtain⟨hid,sr,q⟩:=hq_
 unfold bc at q;cases e1:bz m gi g p f ρ with
 |none=>rw[e1] at q;exact q.elim
 |some z=>
  rw[e1] at q;exact⟨hid,sr,z,e1,λv H' s r=>q _ H' hid ((sr.ext s).setV (RN.rep r λa n=>sr.fresh n) i) (aw s)⟩
end
open PySem PySem.SeqAt
open PySem.AutoSeq1 (wpAny_loadPart')
open PySem.MeetsSeq
def ba(h:Heap)(l:Addr):Prop:= ∃o,h.get? l=some o/\o.cls=.type "dict"/\ ∃es ep,o.data=.dict es ep
theorem gj(l:Addr)(es:Array DictEntry)(ep:Nat)(dd:Option Addr)(sl:Array (Option Value)):
 Meets (Builtin.«dict.__eq__» ⟨[.ref l,.none],[]⟩) (λ_ R s=>s.heap.get? l=some {cls:=.type "dict",dict:=dd,data:=.dict es ep,slots:=sl}/\R (.ok (.ret .notImplemented)) s):=
 .of_wp λprog w A R s h=>by obtain⟨hp,g,d,tk,os⟩:=s;obtain⟨hl,h⟩:=h;have f1:=F.sub_NoneType_dict;wp_walk using wpAny_loadPart' hl,wpAny_load hl;exact⟨_,rfl,h⟩
theorem ge(l:Addr)(es:Array DictEntry)(ep:Nat)(dd:Option Addr)(sl:Array (Option Value))(b:Bool):
 Meets (Builtin.«dict.__eq__» ⟨[.ref l,.bool b],[]⟩) (λ_ R s=>s.heap.get? l=some {cls:=.type "dict",dict:=dd,data:=.dict es ep,slots:=sl}/\R (.ok (.ret .notImplemented)) s):=
 .of_wp λprog w A R s h=>by obtain⟨hp,g,d,tk,os⟩:=s;obtain⟨hl,h⟩:=h;have f1:=F.sub_bool_dict;wp_walk using wpAny_loadPart' hl,wpAny_load hl;exact⟨_,rfl,h⟩
theorem gS(l:Addr)(es:Array DictEntry)(ep:Nat)(dd:Option Addr)(sl:Array (Option Value))(b:Int)(u:Tok):
 Meets (Builtin.«dict.__eq__» ⟨[.ref l,.int b u],[]⟩) (λ_ R s=>s.heap.get? l=some {cls:=.type "dict",dict:=dd,data:=.dict es ep,slots:=sl}/\R (.ok (.ret .notImplemented)) s):=
 .of_wp λprog w A R s h=>by obtain⟨hp,g,d,tk,os⟩:=s;obtain⟨hl,h⟩:=h;have f1:=F.sub_int_dict;wp_walk using wpAny_loadPart' hl,wpAny_load hl;exact⟨_,rfl,h⟩
theorem gB(l:Addr)(es:Array DictEntry)(ep:Nat)(dd:Option Addr)(sl:Array (Option Value))(b:Str)(u:Tok):
 Meets (Builtin.«dict.__eq__» ⟨[.ref l,.str b u],[]⟩) (λ_ R s=>s.heap.get? l=some {cls:=.type "dict",dict:=dd,data:=.dict es ep,slots:=sl}/\R (.ok (.ret .notImplemented)) s):=
 .of_wp λprog w A R s h=>by obtain⟨hp,g,d,tk,os⟩:=s;obtain⟨hl,h⟩:=h;have f1:=F.sub_str_dict;wp_walk using wpAny_loadPart' hl,wpAny_load hl;exact⟨_,rfl,h⟩
theorem dY(b:Bool)(l:Addr)(es:Array DictEntry)(ep:Nat)(dd:Option Addr)(sl:Array (Option Value)):
 Meets (Builtin.«int.__eq__» ⟨[.bool b,.ref l],[]⟩) (λ_ R s=>s.heap.get? l=some {cls:=.type "dict",dict:=dd,data:=.dict es ep,slots:=sl}/\R (.ok (.ret .notImplemented)) s):=
 .of_wp λprog w A R s h=>by obtain⟨hp,g,d,tk,os⟩:=s;obtain⟨hl,h⟩:=h;wp_walk using wpAny_loadPart' hl,wpAny_load hl;exact⟨_,rfl,h⟩
theorem eK(b:Int)(u:Tok)(l:Addr)(es:Array DictEntry)(ep:Nat)(dd:Option Addr)(sl:Array (Option Value)):
 Meets (Builtin.«int.__eq__» ⟨[.int b u,.ref l],[]⟩) (λ_ R s=>s.heap.get? l=some {cls:=.type "dict",dict:=dd,data:=.dict es ep,slots:=sl}/\R (.ok (.ret .notImplemented)) s):=
 .of_wp λprog w A R s h=>by obtain⟨hp,g,d,tk,os⟩:=s;obtain⟨hl,h⟩:=h;wp_walk using wpAny_loadPart' hl,wpAny_load hl;exact⟨_,rfl,h⟩
theorem eQ(b:Str)(u:Tok)(l:Addr)(es:Array DictEntry)(ep:Nat)(dd:Option Addr)(sl:Array (Option Value)):
 Meets (Builtin.«str.__eq__» ⟨[.str b u,.ref l],[]⟩) (λ_ R s=>s.heap.get? l=some {cls:=.type "dict",dict:=dd,data:=.dict es ep,slots:=sl}/\R (.ok (.ret .notImplemented)) s):=
 .of_wp λprog w A R s h=>by obtain⟨hp,g,d,tk,os⟩:=s;obtain⟨hl,h⟩:=h;wp_walk using wpAny_loadPart' hl,wpAny_load hl;exact⟨_,rfl,h⟩
theorem gr(l:Addr)(es:Array DictEntry)(ep:Nat)(dd:Option Addr)(sl:Array (Option Value))(b:Addr)(items:Array Value)(n:Nat)(dd2:Option Addr)(sl2:Array (Option Value)):
 Meets (Builtin.«dict.__eq__» ⟨[.ref l,.ref b],[]⟩) (λ_ R s=>s.heap.get? l=some {cls:=.type "dict",dict:=dd,data:=.dict es ep,slots:=sl}/\s.heap.get? b=some {cls:=.type "list",dict:=dd2,data:=.seq items n,slots:=sl2}/\R (.ok (.ret .notImplemented)) s):=
 .of_wp λprog w A R s h=>by obtain⟨hp,g,d,tk,os⟩:=s;obtain⟨hl,hb,h⟩:=h;have f1:=F.sub_list_dict;wp_walk using wpAny_loadPart' hl,wpAny_loadPart' hb,wpAny_load hl,wpAny_load hb;exact⟨_,rfl,h⟩
theorem gh(b:Addr)(items:Array Value)(n:Nat)(dd2:Option Addr)(sl2:Array (Option Value))(l:Addr)(es:Array DictEntry)(ep:Nat)(dd:Option Addr)(sl:Array (Option Value)):
 Meets (Builtin.«list.__eq__» ⟨[.ref b,.ref l],[]⟩) (λ_ R s=>s.heap.get? l=some {cls:=.type "dict",dict:=dd,data:=.dict es ep,slots:=sl}/\s.heap.get? b=some {cls:=.type "list",dict:=dd2,data:=.seq items n,slots:=sl2}/\R (.ok (.ret .notImplemented)) s):=
 .of_wp λprog w A R s h=>by obtain⟨hp,g,d,tk,os⟩:=s;obtain⟨hl,hb,h⟩:=h;have f1:=F.sub_dict_list;wp_walk using wpAny_loadPart' hl,wpAny_loadPart' hb,wpAny_load hl,wpAny_load hb;exact⟨_,rfl,h⟩
theorem fO(l:Addr)(es:Array DictEntry)(ep:Nat)(dd:Option Addr)(sl:Array (Option Value))(b:Addr)(items:Array Value)(n:Nat)(dd2:Option Addr)(sl2:Array (Option Value)):
 Meets (Builtin.«dict.__eq__» ⟨[.ref l,.ref b],[]⟩) (λ_ R s=>s.heap.get? l=some {cls:=.type "dict",dict:=dd,data:=.dict es ep,slots:=sl}/\s.heap.get? b=some {cls:=.type "tuple",dict:=dd2,data:=.seq items n,slots:=sl2}/\R (.ok (.ret .notImplemented)) s):=
 .of_wp λprog w A R s h=>by obtain⟨hp,g,d,tk,os⟩:=s;obtain⟨hl,hb,h⟩:=h;have f1:=F.sub_tuple_dict;wp_walk using wpAny_loadPart' hl,wpAny_loadPart' hb,wpAny_load hl,wpAny_load hb;exact⟨_,rfl,h⟩
theorem fV(b:Addr)(items:Array Value)(n:Nat)(dd2:Option Addr)(sl2:Array (Option Value))(l:Addr)(es:Array DictEntry)(ep:Nat)(dd:Option Addr)(sl:Array (Option Value)):
 Meets (Builtin.«tuple.__eq__» ⟨[.ref b,.ref l],[]⟩) (λ_ R s=>s.heap.get? l=some {cls:=.type "dict",dict:=dd,data:=.dict es ep,slots:=sl}/\s.heap.get? b=some {cls:=.type "tuple",dict:=dd2,data:=.seq items n,slots:=sl2}/\R (.ok (.ret .notImplemented)) s):=
 .of_wp λprog w A R s h=>by obtain⟨hp,g,d,tk,os⟩:=s;obtain⟨hl,hb,h⟩:=h;have f1:=F.sub_dict_tuple;wp_walk using wpAny_loadPart' hl,wpAny_loadPart' hb,wpAny_load hl,wpAny_load hb;exact⟨_,rfl,h⟩
theorem gm(l:Addr)(es:Array DictEntry)(ep:Nat)(dd:Option Addr)(sl:Array (Option Value)):
 Meets (Builtin.«dict.__ne__» ⟨[.ref l,.none],[]⟩) (λ_ R s=>s.heap.get? l=some {cls:=.type "dict",dict:=dd,data:=.dict es ep,slots:=sl}/\R (.ok (.ret .notImplemented)) s):=
 .of_wp λprog w A R s h=>by obtain⟨hp,g,d,tk,os⟩:=s;obtain⟨hl,h⟩:=h;have f1:=F.sub_NoneType_dict;wp_walk using wpAny_loadPart' hl,wpAny_load hl;exact⟨_,rfl,h⟩
theorem gu(l:Addr)(es:Array DictEntry)(ep:Nat)(dd:Option Addr)(sl:Array (Option Value))(b:Bool):
 Meets (Builtin.«dict.__ne__» ⟨[.ref l,.bool b],[]⟩) (λ_ R s=>s.heap.get? l=some {cls:=.type "dict",dict:=dd,data:=.dict es ep,slots:=sl}/\R (.ok (.ret .notImplemented)) s):=
 .of_wp λprog w A R s h=>by obtain⟨hp,g,d,tk,os⟩:=s;obtain⟨hl,h⟩:=h;have f1:=F.sub_bool_dict;wp_walk using wpAny_loadPart' hl,wpAny_load hl;exact⟨_,rfl,h⟩
theorem gK(l:Addr)(es:Array DictEntry)(ep:Nat)(dd:Option Addr)(sl:Array (Option Value))(b:Int)(u:Tok):
 Meets (Builtin.«dict.__ne__» ⟨[.ref l,.int b u],[]⟩) (λ_ R s=>s.heap.get? l=some {cls:=.type "dict",dict:=dd,data:=.dict es ep,slots:=sl}/\R (.ok (.ret .notImplemented)) s):=
 .of_wp λprog w A R s h=>by obtain⟨hp,g,d,tk,os⟩:=s;obtain⟨hl,h⟩:=h;have f1:=F.sub_int_dict;wp_walk using wpAny_loadPart' hl,wpAny_load hl;exact⟨_,rfl,h⟩
theorem gU(l:Addr)(es:Array DictEntry)(ep:Nat)(dd:Option Addr)(sl:Array (Option Value))(b:Str)(u:Tok):
 Meets (Builtin.«dict.__ne__» ⟨[.ref l,.str b u],[]⟩) (λ_ R s=>s.heap.get? l=some {cls:=.type "dict",dict:=dd,data:=.dict es ep,slots:=sl}/\R (.ok (.ret .notImplemented)) s):=
 .of_wp λprog w A R s h=>by obtain⟨hp,g,d,tk,os⟩:=s;obtain⟨hl,h⟩:=h;have f1:=F.sub_str_dict;wp_walk using wpAny_loadPart' hl,wpAny_load hl;exact⟨_,rfl,h⟩
theorem dZ(b:Bool)(l:Addr)(es:Array DictEntry)(ep:Nat)(dd:Option Addr)(sl:Array (Option Value)):
 Meets (Builtin.«int.__ne__» ⟨[.bool b,.ref l],[]⟩) (λ_ R s=>s.heap.get? l=some {cls:=.type "dict",dict:=dd,data:=.dict es ep,slots:=sl}/\R (.ok (.ret .notImplemented)) s):=
 .of_wp λprog w A R s h=>by obtain⟨hp,g,d,tk,os⟩:=s;obtain⟨hl,h⟩:=h;wp_walk using wpAny_loadPart' hl,wpAny_load hl;exact⟨_,rfl,h⟩
theorem eR(b:Int)(u:Tok)(l:Addr)(es:Array DictEntry)(ep:Nat)(dd:Option Addr)(sl:Array (Option Value)):
 Meets (Builtin.«int.__ne__» ⟨[.int b u,.ref l],[]⟩) (λ_ R s=>s.heap.get? l=some {cls:=.type "dict",dict:=dd,data:=.dict es ep,slots:=sl}/\R (.ok (.ret .notImplemented)) s):=
 .of_wp λprog w A R s h=>by obtain⟨hp,g,d,tk,os⟩:=s;obtain⟨hl,h⟩:=h;wp_walk using wpAny_loadPart' hl,wpAny_load hl;exact⟨_,rfl,h⟩
theorem eV(b:Str)(u:Tok)(l:Addr)(es:Array DictEntry)(ep:Nat)(dd:Option Addr)(sl:Array (Option Value)):
 Meets (Builtin.«str.__ne__» ⟨[.str b u,.ref l],[]⟩) (λ_ R s=>s.heap.get? l=some {cls:=.type "dict",dict:=dd,data:=.dict es ep,slots:=sl}/\R (.ok (.ret .notImplemented)) s):=
 .of_wp λprog w A R s h=>by obtain⟨hp,g,d,tk,os⟩:=s;obtain⟨hl,h⟩:=h;wp_walk using wpAny_loadPart' hl,wpAny_load hl;exact⟨_,rfl,h⟩
theorem gc(l:Addr)(es:Array DictEntry)(ep:Nat)(dd:Option Addr)(sl:Array (Option Value))(b:Addr)(items:Array Value)(n:Nat)(dd2:Option Addr)(sl2:Array (Option Value)):
 Meets (Builtin.«dict.__ne__» ⟨[.ref l,.ref b],[]⟩) (λ_ R s=>s.heap.get? l=some {cls:=.type "dict",dict:=dd,data:=.dict es ep,slots:=sl}/\s.heap.get? b=some {cls:=.type "list",dict:=dd2,data:=.seq items n,slots:=sl2}/\R (.ok (.ret .notImplemented)) s):=
 .of_wp λprog w A R s h=>by obtain⟨hp,g,d,tk,os⟩:=s;obtain⟨hl,hb,h⟩:=h;have f1:=F.sub_list_dict;wp_walk using wpAny_loadPart' hl,wpAny_loadPart' hb,wpAny_load hl,wpAny_load hb;exact⟨_,rfl,h⟩
theorem gd(b:Addr)(items:Array Value)(n:Nat)(dd2:Option Addr)(sl2:Array (Option Value))(l:Addr)(es:Array DictEntry)(ep:Nat)(dd:Option Addr)(sl:Array (Option Value)):
 Meets (Builtin.«list.__ne__» ⟨[.ref b,.ref l],[]⟩) (λ_ R s=>s.heap.get? l=some {cls:=.type "dict",dict:=dd,data:=.dict es ep,slots:=sl}/\s.heap.get? b=some {cls:=.type "list",dict:=dd2,data:=.seq items n,slots:=sl2}/\R (.ok (.ret .notImplemented)) s):=
 .of_wp λprog w A R s h=>by obtain⟨hp,g,d,tk,os⟩:=s;obtain⟨hl,hb,h⟩:=h;have f1:=F.sub_dict_list;wp_walk using wpAny_loadPart' hl,wpAny_loadPart' hb,wpAny_load hl,wpAny_load hb;exact⟨_,rfl,h⟩
theorem fS(l:Addr)(es:Array DictEntry)(ep:Nat)(dd:Option Addr)(sl:Array (Option Value))(b:Addr)(items:Array Value)(n:Nat)(dd2:Option Addr)(sl2:Array (Option Value)):
 Meets (Builtin.«dict.__ne__» ⟨[.ref l,.ref b],[]⟩) (λ_ R s=>s.heap.get? l=some {cls:=.type "dict",dict:=dd,data:=.dict es ep,slots:=sl}/\s.heap.get? b=some {cls:=.type "tuple",dict:=dd2,data:=.seq items n,slots:=sl2}/\R (.ok (.ret .notImplemented)) s):=
 .of_wp λprog w A R s h=>by obtain⟨hp,g,d,tk,os⟩:=s;obtain⟨hl,hb,h⟩:=h;have f1:=F.sub_tuple_dict;wp_walk using wpAny_loadPart' hl,wpAny_loadPart' hb,wpAny_load hl,wpAny_load hb;exact⟨_,rfl,h⟩
theorem fQ(b:Addr)(items:Array Value)(n:Nat)(dd2:Option Addr)(sl2:Array (Option Value))(l:Addr)(es:Array DictEntry)(ep:Nat)(dd:Option Addr)(sl:Array (Option Value)):
 Meets (Builtin.«tuple.__ne__» ⟨[.ref b,.ref l],[]⟩) (λ_ R s=>s.heap.get? l=some {cls:=.type "dict",dict:=dd,data:=.dict es ep,slots:=sl}/\s.heap.get? b=some {cls:=.type "tuple",dict:=dd2,data:=.seq items n,slots:=sl2}/\R (.ok (.ret .notImplemented)) s):=
 .of_wp λprog w A R s h=>by obtain⟨hp,g,d,tk,os⟩:=s;obtain⟨hl,hb,h⟩:=h;have f1:=F.sub_dict_tuple;wp_walk using wpAny_loadPart' hl,wpAny_loadPart' hb,wpAny_load hl,wpAny_load hb;exact⟨_,rfl,h⟩
section
variable {A:Around}{s:Shared}
theorem gG {l:Addr}(hl:ba s.heap l)(hu:A.units<cLine):RcAt A s (.none) (.ref l) false:=λprog w E Q h=>by
 obtain⟨⟨cls,dd,data,sl⟩,ho,hc,es,ep,hd⟩:=id hl
 simp only at hc hd;subst hc hd;exact rc_eq_decline_or (k:=false) rfl ⟨_,ho,rfl⟩ (by decide) F.sub_dict_NoneType F.slot_NoneType_eq F.slot_dict_eq_refl
  (λ_ hq=>call_gives F.slot_NoneType_eq rfl F.entry_NoneType_eq (F.args_NoneType_eq_2 _ _) (NoneType___eq___none_ref_0 l) hq)
  (λ_ hq=>call_meets F.slot_dict_eq_refl ⟨_,ho,rfl⟩ F.entry_dict_eq (F.args_dict_eq_2 _ _) (gj l es ep dd sl) ⟨ho,hq⟩)
  (λ_ hq=>wpAny_of_eq (rfl:isSame (.none) (.ref l)=pure false) hq) (.inr hu) h
theorem mG {l:Addr}(hl:ba s.heap l)(hu:A.units<cLine):EqAt A s (.none) (.ref l) false:=λprog w E Q h=>by
 unfold eqBool;refine wpAny_holding ?_
 refine wpAny_ite_split (λhab=>absurd (eq_of_beq hab) nofun) (λ_=>?_)
 exact wpAny_bind (gG hl hu prog w E _ (wpAny_truthy_bool h))
theorem gw {l:Addr}(b:Bool)(hl:ba s.heap l)(hu:A.units<cLine):RcAt A s (.bool b) (.ref l) false:=λprog w E Q h=>by
 obtain⟨⟨cls,dd,data,sl⟩,ho,hc,es,ep,hd⟩:=id hl
 simp only at hc hd;subst hc hd;exact rc_eq_decline_or (k:=false) rfl ⟨_,ho,rfl⟩ (by decide) F.sub_dict_bool F.slot_bool_eq F.slot_dict_eq_refl
  (λ_ hq=>call_meets F.slot_bool_eq rfl F.entry_int_eq (F.args_int_eq_2 _ _) (dY b l es ep dd sl) ⟨ho,hq⟩)
  (λ_ hq=>call_meets F.slot_dict_eq_refl ⟨_,ho,rfl⟩ F.entry_dict_eq (F.args_dict_eq_2 _ _) (ge l es ep dd sl b) ⟨ho,hq⟩)
  (λ_ hq=>wpAny_of_eq (rfl:isSame (.bool b) (.ref l)=pure false) hq) (.inr hu) h
theorem lu {l:Addr}(b:Bool)(hl:ba s.heap l)(hu:A.units<cLine):EqAt A s (.bool b) (.ref l) false:=λprog w E Q h=>by
 unfold eqBool;refine wpAny_holding ?_
 refine wpAny_ite_split (λhab=>absurd (eq_of_beq hab) nofun) (λ_=>?_)
 exact wpAny_bind (gw b hl hu prog w E _ (wpAny_truthy_bool h))
theorem h8 {l:Addr}(b:Int)(u:Tok)(hl:ba s.heap l)(hu:A.units<cLine):RcAt A s (.int b u) (.ref l) false:=λprog w E Q h=>by
 obtain⟨⟨cls,dd,data,sl⟩,ho,hc,es,ep,hd⟩:=id hl
 simp only at hc hd;subst hc hd;exact rc_eq_decline_or (k:=false) (typeIs_int s b u) ⟨_,ho,rfl⟩ (by decide) F.sub_dict_int F.slot_int_eq F.slot_dict_eq_refl
  (λ_ hq=>call_meets F.slot_int_eq (typeIs_int s b u) F.entry_int_eq (F.args_int_eq_2 _ _) (eK b u l es ep dd sl) ⟨ho,hq⟩)
  (λ_ hq=>call_meets F.slot_dict_eq_refl ⟨_,ho,rfl⟩ F.entry_dict_eq (F.args_dict_eq_2 _ _) (gS l es ep dd sl b u) ⟨ho,hq⟩)
  (λ_ hq=>wpAny_of_eq (rfl:isSame (.int b u) (.ref l)=pure false) hq) (.inr hu) h
theorem m8 {l:Addr}(b:Int)(u:Tok)(hl:ba s.heap l)(hu:A.units<cLine):EqAt A s (.int b u) (.ref l) false:=λprog w E Q h=>by
 unfold eqBool;refine wpAny_holding ?_
 refine wpAny_ite_split (λhab=>absurd (eq_of_beq hab) nofun) (λ_=>?_)
 exact wpAny_bind (h8 b u hl hu prog w E _ (wpAny_truthy_bool h))
theorem h7 {l:Addr}(b:Str)(u:Tok)(hl:ba s.heap l)(hu:A.units<cLine):RcAt A s (.str b u) (.ref l) false:=λprog w E Q h=>by
 obtain⟨⟨cls,dd,data,sl⟩,ho,hc,es,ep,hd⟩:=id hl
 simp only at hc hd;subst hc hd;exact rc_eq_decline_or (k:=false) (typeIs_str s b u) ⟨_,ho,rfl⟩ (by decide) F.sub_dict_str F.slot_str_eq F.slot_dict_eq_refl
  (λ_ hq=>call_meets F.slot_str_eq (typeIs_str s b u) F.entry_str_eq (F.args_str_eq_2 _ _) (eQ b u l es ep dd sl) ⟨ho,hq⟩)
  (λ_ hq=>call_meets F.slot_dict_eq_refl ⟨_,ho,rfl⟩ F.entry_dict_eq (F.args_dict_eq_2 _ _) (gB l es ep dd sl b u) ⟨ho,hq⟩)
  (λ_ hq=>wpAny_of_eq (rfl:isSame (.str b u) (.ref l)=pure false) hq) (.inr hu) h
theorem mZ {l:Addr}(b:Str)(u:Tok)(hl:ba s.heap l)(hu:A.units<cLine):EqAt A s (.str b u) (.ref l) false:=λprog w E Q h=>by
 unfold eqBool;refine wpAny_holding ?_
 refine wpAny_ite_split (λhab=>absurd (eq_of_beq hab) nofun) (λ_=>?_)
 exact wpAny_bind (h7 b u hl hu prog w E _ (wpAny_truthy_bool h))
theorem de {b l:Addr}{items:Array Value}(hb:s.heap.IsList b items)(hl:ba s.heap l):b≠l:=λe=>by
 subst e;obtain⟨o,ho,hc,_⟩:=hb
 obtain⟨o2,ho2,hc2,_⟩:=hl
 rw[ho] at ho2;cases ho2
 rw[hc] at hc2;exact absurd hc2 (by simp)
theorem gD {b l:Addr}{items:Array Value}(hb:s.heap.IsList b items)(hl:ba s.heap l)(hu:A.units<cLine):RcAt A s (.ref b) (.ref l) false:=λprog w E Q h=>by
 have hne:b≠l:=de hb hl
 obtain⟨⟨cls,dd,data,sl⟩,ho,hc,es,ep,hd⟩:=id hl
 simp only at hc hd;subst hc hd;obtain⟨⟨cls2,dd2,data2,sl2⟩,ho2,hc2,n,hd2⟩:=id hb
 simp only at hc2 hd2;subst hc2 hd2;exact(rc_eq_decline_or (k:=false) ⟨_,ho2,rfl⟩ ⟨_,ho,rfl⟩ (by decide) F.sub_dict_list F.slot_list_eq F.slot_dict_eq_refl
  (λ_ hq=>call_meets F.slot_list_eq ⟨_,ho2,rfl⟩ F.entry_list_eq (F.args_list_eq_2 _ _) (gh b items n dd2 sl2 l es ep dd sl) ⟨ho,ho2,hq⟩)
  (λ_ hq=>call_meets F.slot_dict_eq_refl ⟨_,ho,rfl⟩ F.entry_dict_eq (F.args_dict_eq_2 _ _) (gr l es ep dd sl b items n dd2 sl2) ⟨ho,ho2,hq⟩)
  (λ_ hq=>wpAny_isSame_ref_other' hne ho2 ho (by simp) hq) (.inr hu) h)
theorem lK {b l:Addr}{items:Array Value}(hb:s.heap.IsList b items)(hl:ba s.heap l)(hu:A.units<cLine):EqAt A s (.ref b) (.ref l) false:=.of_refs (de hb hl) (gD hb hl hu)
theorem cO {b l:Addr}{items:Array Value}(hb:s.heap.IsTuple b items)(hl:ba s.heap l):b≠l:=λe=>by
 subst e;obtain⟨o,ho,hc,_⟩:=hb
 obtain⟨o2,ho2,hc2,_⟩:=hl
 rw[ho] at ho2;cases ho2
 rw[hc] at hc2;exact absurd hc2 (by simp)
theorem f9 {b l:Addr}{items:Array Value}(hb:s.heap.IsTuple b items)(hl:ba s.heap l)(hu:A.units<cLine):RcAt A s (.ref b) (.ref l) false:=λprog w E Q h=>by
 have hne:b≠l:=cO hb hl
 obtain⟨⟨cls,dd,data,sl⟩,ho,hc,es,ep,hd⟩:=id hl
 simp only at hc hd;subst hc hd;obtain⟨⟨cls2,dd2,data2,sl2⟩,ho2,hc2,n,hd2⟩:=id hb
 simp only at hc2 hd2;subst hc2 hd2;exact(rc_eq_decline_or (k:=false) ⟨_,ho2,rfl⟩ ⟨_,ho,rfl⟩ (by decide) F.sub_dict_tuple F.slot_tuple_eq F.slot_dict_eq_refl
  (λ_ hq=>call_meets F.slot_tuple_eq ⟨_,ho2,rfl⟩ F.entry_tuple_eq (F.args_tuple_eq_2 _ _) (fV b items n dd2 sl2 l es ep dd sl) ⟨ho,ho2,hq⟩)
  (λ_ hq=>call_meets F.slot_dict_eq_refl ⟨_,ho,rfl⟩ F.entry_dict_eq (F.args_dict_eq_2 _ _) (fO l es ep dd sl b items n dd2 sl2) ⟨ho,ho2,hq⟩)
  (λ_ hq=>wpAny_isSame_ref_other' hne ho2 ho (by simp) hq) (.inr hu) h)
theorem kN {b l:Addr}{items:Array Value}(hb:s.heap.IsTuple b items)(hl:ba s.heap l)(hu:A.units<cLine):EqAt A s (.ref b) (.ref l) false:=.of_refs (cO hb hl) (f9 hb hl hu)
theorem jS {l:Addr}(hl:ba s.heap l)(hu:A.units<cLine):RcNeAt A s (.none) (.ref l) true:=λprog w E Q h=>by
 obtain⟨⟨cls,dd,data,sl⟩,ho,hc,es,ep,hd⟩:=id hl
 simp only at hc hd;subst hc hd;exact rc_ne_decline_or (k:=false) rfl ⟨_,ho,rfl⟩ (by decide) F.sub_dict_NoneType F.slot_NoneType_ne F.slot_dict_ne_refl
  (λ_ hq=>call_gives F.slot_NoneType_ne rfl F.entry_NoneType_ne (F.args_NoneType_ne_2 _ _) (NoneType___ne___none_ref_0 l) hq)
  (λ_ hq=>call_meets F.slot_dict_ne_refl ⟨_,ho,rfl⟩ F.entry_dict_ne (F.args_dict_ne_2 _ _) (gm l es ep dd sl) ⟨ho,hq⟩)
  (λ_ hq=>wpAny_of_eq (rfl:isSame (.none) (.ref l)=pure false) hq) (.inr hu) h
theorem jV {l:Addr}(b:Bool)(hl:ba s.heap l)(hu:A.units<cLine):RcNeAt A s (.bool b) (.ref l) true:=λprog w E Q h=>by
 obtain⟨⟨cls,dd,data,sl⟩,ho,hc,es,ep,hd⟩:=id hl
 simp only at hc hd;subst hc hd;exact rc_ne_decline_or (k:=false) rfl ⟨_,ho,rfl⟩ (by decide) F.sub_dict_bool F.slot_bool_ne F.slot_dict_ne_refl
  (λ_ hq=>call_meets F.slot_bool_ne rfl F.entry_int_ne (F.args_int_ne_2 _ _) (dZ b l es ep dd sl) ⟨ho,hq⟩)
  (λ_ hq=>call_meets F.slot_dict_ne_refl ⟨_,ho,rfl⟩ F.entry_dict_ne (F.args_dict_ne_2 _ _) (gu l es ep dd sl b) ⟨ho,hq⟩)
  (λ_ hq=>wpAny_of_eq (rfl:isSame (.bool b) (.ref l)=pure false) hq) (.inr hu) h
theorem kL {l:Addr}(b:Int)(u:Tok)(hl:ba s.heap l)(hu:A.units<cLine):RcNeAt A s (.int b u) (.ref l) true:=λprog w E Q h=>by
 obtain⟨⟨cls,dd,data,sl⟩,ho,hc,es,ep,hd⟩:=id hl
 simp only at hc hd;subst hc hd;exact rc_ne_decline_or (k:=false) (typeIs_int s b u) ⟨_,ho,rfl⟩ (by decide) F.sub_dict_int F.slot_int_ne F.slot_dict_ne_refl
  (λ_ hq=>call_meets F.slot_int_ne (typeIs_int s b u) F.entry_int_ne (F.args_int_ne_2 _ _) (eR b u l es ep dd sl) ⟨ho,hq⟩)
  (λ_ hq=>call_meets F.slot_dict_ne_refl ⟨_,ho,rfl⟩ F.entry_dict_ne (F.args_dict_ne_2 _ _) (gK l es ep dd sl b u) ⟨ho,hq⟩)
  (λ_ hq=>wpAny_of_eq (rfl:isSame (.int b u) (.ref l)=pure false) hq) (.inr hu) h
theorem kQ {l:Addr}(b:Str)(u:Tok)(hl:ba s.heap l)(hu:A.units<cLine):RcNeAt A s (.str b u) (.ref l) true:=λprog w E Q h=>by
 obtain⟨⟨cls,dd,data,sl⟩,ho,hc,es,ep,hd⟩:=id hl
 simp only at hc hd;subst hc hd;exact rc_ne_decline_or (k:=false) (typeIs_str s b u) ⟨_,ho,rfl⟩ (by decide) F.sub_dict_str F.slot_str_ne F.slot_dict_ne_refl
  (λ_ hq=>call_meets F.slot_str_ne (typeIs_str s b u) F.entry_str_ne (F.args_str_ne_2 _ _) (eV b u l es ep dd sl) ⟨ho,hq⟩)
  (λ_ hq=>call_meets F.slot_dict_ne_refl ⟨_,ho,rfl⟩ F.entry_dict_ne (F.args_dict_ne_2 _ _) (gU l es ep dd sl b u) ⟨ho,hq⟩)
  (λ_ hq=>wpAny_of_eq (rfl:isSame (.str b u) (.ref l)=pure false) hq) (.inr hu) h
theorem j2 {b l:Addr}{items:Array Value}(hb:s.heap.IsList b items)(hl:ba s.heap l)(hu:A.units<cLine):RcNeAt A s (.ref b) (.ref l) true:=λprog w E Q h=>by
 have hne:b≠l:=de hb hl
 obtain⟨⟨cls,dd,data,sl⟩,ho,hc,es,ep,hd⟩:=id hl
 simp only at hc hd;subst hc hd;obtain⟨⟨cls2,dd2,data2,sl2⟩,ho2,hc2,n,hd2⟩:=id hb
 simp only at hc2 hd2;subst hc2 hd2;exact(rc_ne_decline_or (k:=false) ⟨_,ho2,rfl⟩ ⟨_,ho,rfl⟩ (by decide) F.sub_dict_list F.slot_list_ne F.slot_dict_ne_refl
  (λ_ hq=>call_meets F.slot_list_ne ⟨_,ho2,rfl⟩ F.entry_list_ne (F.args_list_ne_2 _ _) (gd b items n dd2 sl2 l es ep dd sl) ⟨ho,ho2,hq⟩)
  (λ_ hq=>call_meets F.slot_dict_ne_refl ⟨_,ho,rfl⟩ F.entry_dict_ne (F.args_dict_ne_2 _ _) (gc l es ep dd sl b items n dd2 sl2) ⟨ho,ho2,hq⟩)
  (λ_ hq=>wpAny_isSame_ref_other' hne ho2 ho (by simp) hq) (.inr hu) h)
theorem jg {b l:Addr}{items:Array Value}(hb:s.heap.IsTuple b items)(hl:ba s.heap l)(hu:A.units<cLine):RcNeAt A s (.ref b) (.ref l) true:=λprog w E Q h=>by
 have hne:b≠l:=cO hb hl
 obtain⟨⟨cls,dd,data,sl⟩,ho,hc,es,ep,hd⟩:=id hl
 simp only at hc hd;subst hc hd;obtain⟨⟨cls2,dd2,data2,sl2⟩,ho2,hc2,n,hd2⟩:=id hb
 simp only at hc2 hd2;subst hc2 hd2;exact(rc_ne_decline_or (k:=false) ⟨_,ho2,rfl⟩ ⟨_,ho,rfl⟩ (by decide) F.sub_dict_tuple F.slot_tuple_ne F.slot_dict_ne_refl
  (λ_ hq=>call_meets F.slot_tuple_ne ⟨_,ho2,rfl⟩ F.entry_tuple_ne (F.args_tuple_ne_2 _ _) (fQ b items n dd2 sl2 l es ep dd sl) ⟨ho,ho2,hq⟩)
  (λ_ hq=>call_meets F.slot_dict_ne_refl ⟨_,ho,rfl⟩ F.entry_dict_ne (F.args_dict_ne_2 _ _) (fS l es ep dd sl b items n dd2 sl2) ⟨ho,ho2,hq⟩)
  (λ_ hq=>wpAny_isSame_ref_other' hne ho2 ho (by simp) hq) (.inr hu) h)
end
mutual
def b6:D->D->Bool
 | .non,.non=>true
 | .bl a,.bl b=>a==b
 | .bl a,.int b=>(if a then 1 else 0)==b
 | .int a,.bl b=>a==(if b then 1 else 0)
 | .int a,.int b=>a==b
 | .str a,.str b=>a==b
 | .tup a,.tup b=>b8 a b
 | .lst a,.lst b=>b8 a b
 | .lst a,.scr b=>b8 a b
 | .scr a,.lst b=>b8 a b
 | .scr a,.scr b=>b8 a b
 | .dct k a,.dct l b=>decide (k=l)&&b8 a b
 |_,_=>false
def b8:List D->List D->Bool
 | [],[]=>true
 |x::xs,y::ys=>b6 x y&&b8 xs ys
 |_,_=>false
end
mutual
def cM:D->Nat
 | .tup a=>cE a+1
 | .lst a=>cE a+1
 | .scr _=>cLine
 | .dct _ _=>cLine
 |_=>0
def cE:List D->Nat
 | []=>0
 |x::xs=>max (cM x) (cE xs)
end
theorem jq: ∀ {xs:List D} {i:Nat} {d:D},xs[i]? =some d->cM d<=cE xs
 | [],_,_,h=>by simp at h
 |x::xs,0,d,h=>by simp at h;subst h;unfold cE;exact Nat.le_max_left _ _
 |x::xs,i+1,d,h=>by
  have:=jq (xs:=xs) (i:=i) (d:=d) (by simpa using h)
  unfold cE;exact Nat.le_trans this (Nat.le_max_right _ _)
mutual
theorem lU: ∀x:D,b6 x x=true
 | .non=>by unfold b6;rfl
 | .bl a=>by unfold b6;simp
 | .int a=>by unfold b6;simp
 | .str a=>by unfold b6;simp
 | .tup a=>by unfold b6;exact eZ a
 | .lst a=>by unfold b6;exact eZ a
 | .scr a=>by unfold b6;exact eZ a
 | .dct k a=>by unfold b6;rw[decide_eq_true rfl,eZ a];rfl
theorem eZ: ∀x:List D,b8 x x=true
 | []=>by unfold b8;rfl
 |x::xs=>by unfold b8;rw[lU x,eZ xs];rfl
end
def ib(xs ys:List D)(j:Nat):Bool:=match xs[j]?,ys[j]? with
 |some x,some y=>b6 x y
 |_,_=>false
theorem nV {xs ys:List D}(h:xs.length=ys.length):(List.range xs.length).all (ib xs ys)=b8 xs ys:=by
 induction xs generalizing ys with
 |nil=>
  cases ys with
  |nil=>unfold b8;rfl
  |cons y ys=>simp at h
 |cons x xs ih=>
  cases ys with
  |nil=>simp at h
  |cons y ys=>
   rw[List.length_cons,List.range_succ_eq_map,List.all_cons,List.all_map];have e0:ib (x::xs) (y::ys) 0=b6 x y:=rfl
   have e1:((ib (x::xs) (y::ys))∘Nat.succ)=ib xs ys:=by funext j;simp[ib]
   rw[e0,e1,ih (by simpa using h)]
   conv=>rhs;unfold b8
theorem lC: ∀ {xs ys:List D},xs.length≠ys.length->b8 xs ys=false
 | [],[],h=>absurd rfl h
 | [],_::_,_=>by unfold b8;rfl
 |_::_,[],_=>by unfold b8;rfl
 |x::xs,y::ys,h=>by unfold b8;rw[lC (xs:=xs) (ys:=ys) (by simpa using h)];simp
section
variable {X:Cx}{aa:List (Addr×Obj)}{σ:St}{H:Hp}{s:Shared}
theorem cW(I:Inv X aa σ H s){a:Addr}{xs ys:List V}(h:SqL X.K H a xs)(h':SqT X.K H a ys):False:=by
 obtain⟨its,_,pl,_⟩:=I.list h
 obtain⟨its',_,pt,_⟩:=I.tuple h'
 exact SeqAt.ne_of_list_tuple pl.isList pt rfl
theorem Ds {a b:List D}(h: ∀zs,b8 a zs=b8 b zs):(∀z,b6 (.tup a) z=b6 (.tup b) z)/\(∀z,b6 (.lst a) z=b6 (.lst b) z)/\ ∀z,b6 (.scr a) z=b6 (.lst b) z:=by
 refine⟨λz=>?_,λz=>?_,λz=>?_⟩<;>cases z<;>unfold b6<;>first|exact h _|rfl
theorem Ep {b:List D}: ∀z,b6 (.scr b) z=b6 (.lst b) z:=(Ds λ_=>rfl).2.2
theorem Gq {k:List (List aS)}{a b:List D}(h: ∀zs,b8 a zs=b8 b zs): ∀z,b6 (.dct k a) z=b6 (.dct k b) z:=by
 intro z;cases z<;>unfold b6<;>first|rw[h]|rfl
theorem pg(I:Inv X aa σ H s){a:Addr}{o:Obj}{kvs:List (List aS×V)}(h:H a=some (.frz o (.dT kvs))): ∃o,s.heap.get? a=some o/\o.cls=.type "dict":=by
 obtain⟨_,_,xs,_,o,es,ep,ho,hx,_⟩:=(show _/\ObjOk X.prog X.w H s.heap a (.dT kvs) from I.hok a _ h).2
 exact⟨o,ho,hx.1⟩
theorem bD(I:Inv X aa σ H s){a:Addr}{o:Obj}{kvs:List (List aS×V)}(h:H a=some (.frz o (.dT kvs))):ba s.heap a:=by
 obtain⟨_,_,xs,_,o,es,ep,ho,hx,hd,_⟩:=(show _/\ObjOk X.prog X.w H s.heap a (.dT kvs) from I.hok a _ h).2
 exact⟨o,ho,hx.1,es,ep,hd⟩
theorem eD(I:Inv X aa σ H s){a:Addr}{o:Obj}{kvs:List (List aS×V)}{xs:List V}(h:H a=some (.frz o (.dT kvs)))(h':SqL X.K H a xs):False:=by
 obtain⟨o,ho,hc⟩:=pg I h
 obtain⟨its,_,⟨ob,n,ho',hc',_⟩,_⟩:=I.list h'
 rw[ho] at ho';cases ho'
 rw[hc] at hc';exact absurd hc' (by simp)
theorem mi(I:Inv X aa σ H s){a:Addr}{o:Obj}{kvs:List (List aS×V)}{xs:List V}(h:H a=some (.frz o (.dT kvs)))(h':SqT X.K H a xs):False:=by
 obtain⟨o,ho,hc⟩:=pg I h
 obtain⟨⟨ob,ho',hc'⟩,_⟩:=I.tupleN h'
 rw[ho] at ho';cases ho'
 rw[hc] at hc';exact absurd hc' (by simp)
theorem vk {α β:Type}: ∀ {k l:List α} {x y:List β},k.length=x.length->l.length=y.length->k.zip x=l.zip y->k=l/\x=y
 | [],[],[],[],_,_,_=>⟨rfl,rfl⟩
 | [],l::ls,[],y::ys,_,_,h=>by cases h
 |k::ks,[],x::xs,[],_,_,h=>by cases h
 |k::ks,l::ls,x::xs,y::ys,h1,h2,h=>by
  rw[List.zip_cons_cons,List.zip_cons_cons] at h;injection h with e1 e2
  obtain⟨rfl,rfl⟩:=Prod.mk.inj e1
  obtain⟨rfl,rfl⟩:=vk (Nat.succ.inj h1) (Nat.succ.inj h2) e2
  exact⟨rfl,rfl⟩
mutual
theorem Rep.eqv(I:Inv X aa σ H s): ∀ {v:V} {x y:D},Rep X.K H v x->Rep X.K H v y-> ∀z,b6 x z=b6 y z
 |_,_,_,.non,.non=>λ_=>rfl
 |_,_,_,.bl,.bl=>λ_=>rfl
 |_,_,_,.int,.int=>λ_=>rfl
 |_,_,_,.str,.str=>λ_=>rfl
 |_,_,_,.tup h r,.tup h' r'=>by rw[I.tuple_inj (SqT.of h) (SqT.of h')] at r;exact(Ds (Reps.eqv I r r')).1
 |_,_,_,.lst h r,.lst h' r'=>by rw[I.list_inj (SqL.of h) (SqL.of h')] at r;exact(Ds (Reps.eqv I r r')).2.1
 |_,_,_,.lst h r,.scr h' r'=>by rw[I.list_inj (SqL.of h) h'.seq] at r;exact λz=>((Ds (Reps.eqv I r r')).2.1 z).trans (Ep z).symm
 |_,_,_,.scr h r,.lst h' r'=>by rw[I.list_inj h.seq (SqL.of h')] at r;exact(Ds (Reps.eqv I r r')).2.2
 |_,_,_,.scr h r,.scr h' r'=>by rw[I.list_inj h.seq h'.seq] at r;exact λz=>((Ds (Reps.eqv I r r')).2.2 z).trans (Ep z).symm
 |_,_,_,.tup h r,.lst h' r'=>(cW I (SqL.of h') (SqT.of h)).elim
 |_,_,_,.lst h r,.tup h' r'=>(cW I (SqL.of h) (SqT.of h')).elim
 |_,_,_,.tup h r,.scr h' r'=>(cW I h'.seq (SqT.of h)).elim
 |_,_,_,.scr h r,.tup h' r'=>(cW I h.seq (SqT.of h')).elim
 |_,_,_,.dct h l r,.dct h' l' r'=>by
  rw[h] at h';obtain⟨rfl,rfl⟩:=vk l l' (by injection h' with e;injection e with _ e;injection e)
  exact Gq (Reps.eqv I r r')
 |_,_,_,.dct h _ _,.lst h' _=>(eD I h (SqL.of h')).elim
 |_,_,_,.dct h _ _,.scr h' _=>(eD I h h'.seq).elim
 |_,_,_,.dct h _ _,.tup h' _=>(mi I h (SqT.of h')).elim
 |_,_,_,.lst h' _,.dct h _ _=>(eD I h (SqL.of h')).elim
 |_,_,_,.scr h' _,.dct h _ _=>(eD I h h'.seq).elim
 |_,_,_,.tup h' _,.dct h _ _=>(mi I h (SqT.of h')).elim
theorem Reps.eqv(I:Inv X aa σ H s): ∀ {v:List V} {x y:List D},Reps X.K H v x->Reps X.K H v y-> ∀z,b8 x z=b8 y z
 |_,_,_,.nil,.nil=>λ_=>rfl
 |_,_,_,.cons r t,.cons r' t'=>λz=>by
  cases z with
  |nil=>unfold b8;rfl
  |cons w ws=>unfold b8;rw[Rep.eqv I r r' w,Reps.eqv I t t' ws]
end
theorem az(I:Inv X aa σ H s){a:Addr}{xs:List V}{ds:List D}(h:SqL X.K H a xs)(r:Reps X.K H xs ds): ∃its:List Value,s.heap.IsList a its.toArray/\its.length=ds.length/\ ∀(j:Nat) (hj:j<its.length),∃(v:V) (d:D),ds[j]? =some d/\RelV v its[j]/\Rep X.K H v d:=by
 obtain⟨its,rv,pl,_⟩:=I.list h
 have h1:=rv.length
 have h2:=r.length
 refine⟨its,pl.isList,by omega,λj hj=>?_⟩
 have e:xs[j]? =some xs[j]:=List.getElem?_eq_getElem (by omega)
 obtain⟨u,e1,r1⟩:=rv.get e
 obtain⟨d,e2,r2⟩:=r.get' e
 have:its[j]=u:=by rw[List.getElem?_eq_getElem hj] at e1;exact Option.some.inj e1
 rw[this];exact⟨xs[j],d,e2,r1,r2⟩
theorem bh(I:Inv X aa σ H s){a:Addr}{xs:List V}{ds:List D}(h:SqT X.K H a xs)(r:Reps X.K H xs ds): ∃its:List Value,s.heap.IsTuple a its.toArray/\its.length=ds.length/\ ∀(j:Nat) (hj:j<its.length),∃(v:V) (d:D),ds[j]? =some d/\RelV v its[j]/\Rep X.K H v d:=by
 obtain⟨its,rv,pl,_⟩:=I.tuple h
 have h1:=rv.length
 have h2:=r.length
 refine⟨its,pl,by omega,λj hj=>?_⟩
 have e:xs[j]? =some xs[j]:=List.getElem?_eq_getElem (by omega)
 obtain⟨u,e1,r1⟩:=rv.get e
 obtain⟨d,e2,r2⟩:=r.get' e
 have:its[j]=u:=by rw[List.getElem?_eq_getElem hj] at e1;exact Option.some.inj e1
 rw[this];exact⟨xs[j],d,e2,r1,r2⟩
end
section
variable {X:Cx}{aa:List (Addr×Obj)}{σ:St}{H:Hp}{s:Shared}
theorem cq(A:Around):A.in1.units=A.units+1:=rfl
theorem Bp {A:Around}{n:Nat}(IH: ∀ {x y:D} {v u:V} {a b:Value} {A:Around},cM x<n->A.units+cM x<cLine->RelV v a->RelV u b->Rep X.K H v x->Rep X.K H u y->SeqAt.EqAt A s a b (b6 x y)){xs ys:List D}{its its2:List Value}(hd:cE xs<n)(hu:A.units+cE xs<cLine)
 (g1: ∀(j:Nat) (hj:j<its.length),∃(v:V) (d:D),xs[j]? =some d/\RelV v its[j]/\Rep X.K H v d) (g2: ∀(j:Nat) (hj:j<its2.length),∃(v:V) (d:D),ys[j]? =some d/\RelV v its2[j]/\Rep X.K H v d):
 ∀j (h1:j<its.toArray.size) (h2:j<its2.toArray.size),SeqAt.EqAt A s its.toArray[j] its2.toArray[j] (ib xs ys j):=λj h1 h2=>by
 obtain⟨v,d,e1,r1,p1⟩:=g1 j (by simpa using h1)
 obtain⟨u,d',e2,r2,p2⟩:=g2 j (by simpa using h2)
 have ez:ib xs ys j=b6 d d':=by unfold ib;rw[e1,e2]
 rw[ez];have hdd:=jq e1
 exact IH (by omega) (by omega) (by simpa using r1) (by simpa using r2) p1 p2
theorem gZ(I:Inv X aa σ H s){A:Around}{n:Nat}(IH: ∀ {x y:D} {v u:V} {a b:Value} {A:Around},cM x<n->A.units+cM x<cLine->RelV v a->RelV u b->Rep X.K H v x->Rep X.K H u y->SeqAt.EqAt A s a b (b6 x y)){xs ys:List D}{zs ws:List V}{a b:Addr}(hd:cE xs<n)(hu:A.units+(cE xs+1)<cLine)
 (h1:SqL X.K H a zs) (r1:Reps X.K H zs xs) (h2:SqL X.K H b ws) (r2:Reps X.K H ws ys):SeqAt.RcAt A s (.ref a) (.ref b) (b8 xs ys)/\SeqAt.RcNeAt A s (.ref a) (.ref b) (!b8 xs ys):=by
 obtain⟨its,l1,n1,g1⟩:=az I h1 r1
 obtain⟨its2,l2,n2,g2⟩:=az I h2 r2
 by_cases e:xs.length=ys.length
 ·have hsz:its.toArray.size=its2.toArray.size:=by simp;omega
  have he:=Bp (A:=A.in1) IH hd (by rw[cq];omega) g1 g2
  have ea:(List.range its.toArray.size).all (ib xs ys)=b8 xs ys:=by rw[List.size_toArray,n1];exact nV e
  rw[<-ea];exact⟨SeqAt.RcAt.lists l1 l2 hsz (by omega) he,SeqAt.RcNeAt.lists l1 l2 hsz (by omega) he⟩
 ·rw[lC e]
  have hsz:(its.toArray.size !=its2.toArray.size)=true:=by simp;omega
  exact⟨SeqAt.RcAt.lists_lengths l1 l2 hsz (by omega),SeqAt.RcNeAt.lists_lengths l1 l2 hsz (by omega)⟩
theorem tT(I:Inv X aa σ H s){A:Around}{n:Nat}(IH: ∀ {x y:D} {v u:V} {a b:Value} {A:Around},cM x<n->A.units+cM x<cLine->RelV v a->RelV u b->Rep X.K H v x->Rep X.K H u y->SeqAt.EqAt A s a b (b6 x y)){xs ys:List D}{zs ws:List V}{a b:Addr}(hd:cE xs<n)(hu:A.units+(cE xs+1)<cLine)
 (h1:H a=some (.tup zs)) (r1:Reps X.K H zs xs) (h2:H b=some (.tup ws)) (r2:Reps X.K H ws ys):SeqAt.RcAt A s (.ref a) (.ref b) (b8 xs ys)/\SeqAt.RcNeAt A s (.ref a) (.ref b) (!b8 xs ys):=by
 obtain⟨its,l1,n1,g1⟩:=bh I (SqT.of h1) r1
 obtain⟨its2,l2,n2,g2⟩:=bh I (SqT.of h2) r2
 have he:=Bp (A:=A.in1) IH hd (by rw[cq];omega) g1 g2
 have ea:((List.range (min its.toArray.size its2.toArray.size)).all (ib xs ys)&&its.toArray.size==its2.toArray.size)=b8 xs ys:=by
  rw[List.size_toArray,List.size_toArray,n1,n2]
  by_cases e:xs.length=ys.length
  ·rw[<-e,Nat.min_self,nV e];simp
  ·rw[lC e];simp[e]
 rw[<-ea];exact⟨SeqAt.RcAt.tuples l1 l2 (by omega) he,SeqAt.RcNeAt.tuples l1 l2 (by omega) he⟩
theorem km(I:Inv X aa σ H s){A:Around}{a b:Addr}{x y:D}(r1:Rep X.K H (.ref a) x)(r2:Rep X.K H (.ref b) y)(e:a=b):SeqAt.EqAt A s (.ref a) (.ref b) (b6 x y):=by
 subst e;rw[Rep.eqv I r1 r2,lU];exact SeqAt.EqAt.same _
theorem Dm(I:Inv X aa σ H s){n:Nat}(IH: ∀ {x y:D} {v u:V} {a b:Value} {A:Around},cM x<n->A.units+cM x<cLine->RelV v a->RelV u b->Rep X.K H v x->Rep X.K H u y->SeqAt.EqAt A s a b (b6 x y)){x y:D}{v u:V}{a b:Value}{A:Around}(hd:cM x<n+1)(hu:A.units+cM x<cLine)(hc:A.units<cLine)
 (ra:RelV v a) (rb:RelV u b) (px:Rep X.K H v x) (py:Rep X.K H u y):SeqAt.EqAt A s a b (b6 x y):=by
 unfold b6;cases px with
 |non=>
  cases ra
  cases py with
  |non=>
   cases rb
   exact SeqAt.EqAt.same _
  |bl=>
   cases rb
   exact SeqAt.EqAt.none_bool _
  |int=>
   obtain⟨t2,rfl⟩:=rb
   exact SeqAt.EqAt.none_int _ _
  |str=>
   obtain⟨t2,rfl⟩:=rb
   exact SeqAt.EqAt.none_str _ _
  | @tup a2 _ _ h2 r2=>
    cases rb
    obtain⟨its2,l2,_⟩:=bh I (SqT.of h2) r2
    exact SeqAt.EqAt.none_tuple l2 (by omega)
  | @lst a2 _ _ h2 r2=>
    cases rb
    obtain⟨its2,l2,_⟩:=az I (SqL.of h2) r2
    exact SeqAt.EqAt.none_list l2 (by omega)
  | @scr a2 _ _ h2 r2=>
    cases rb
    obtain⟨its2,l2,_⟩:=az I h2.seq r2
    exact SeqAt.EqAt.none_list l2 (by omega)
  | @dct a2 _ _ _ _ h2 _ _=>
    cases rb
    exact mG (bD I h2) (by omega)
 |bl=>
  cases ra
  cases py with
  |non=>
   cases rb
   exact SeqAt.EqAt.bool_none _
  |bl=>
   cases rb
   exact SeqAt.EqAt.bool_bool _ _
  |int=>
   obtain⟨t2,rfl⟩:=rb
   exact SeqAt.EqAt.bool_int _ _ _
  |str=>
   obtain⟨t2,rfl⟩:=rb
   exact SeqAt.EqAt.bool_str _ _ _
  | @tup a2 _ _ h2 r2=>
    cases rb
    obtain⟨its2,l2,_⟩:=bh I (SqT.of h2) r2
    exact SeqAt.EqAt.bool_tuple _ l2 (by omega)
  | @lst a2 _ _ h2 r2=>
    cases rb
    obtain⟨its2,l2,_⟩:=az I (SqL.of h2) r2
    exact SeqAt.EqAt.bool_list _ l2 (by omega)
  | @scr a2 _ _ h2 r2=>
    cases rb
    obtain⟨its2,l2,_⟩:=az I h2.seq r2
    exact SeqAt.EqAt.bool_list _ l2 (by omega)
  | @dct a2 _ _ _ _ h2 _ _=>
    cases rb
    exact lu _ (bD I h2) (by omega)
 |int=>
  obtain⟨t1,rfl⟩:=ra
  cases py with
  |non=>
   cases rb
   exact SeqAt.EqAt.int_none _ _
  |bl=>
   cases rb
   exact SeqAt.EqAt.int_bool _ _ _
  |int=>
   obtain⟨t2,rfl⟩:=rb
   exact SeqAt.EqAt.int_int _ _ _ _
  |str=>
   obtain⟨t2,rfl⟩:=rb
   exact SeqAt.EqAt.int_str _ _ _ _
  | @tup a2 _ _ h2 r2=>
    cases rb
    obtain⟨its2,l2,_⟩:=bh I (SqT.of h2) r2
    exact SeqAt.EqAt.int_tuple _ _ l2 (by omega)
  | @lst a2 _ _ h2 r2=>
    cases rb
    obtain⟨its2,l2,_⟩:=az I (SqL.of h2) r2
    exact SeqAt.EqAt.int_list _ _ l2 (by omega)
  | @scr a2 _ _ h2 r2=>
    cases rb
    obtain⟨its2,l2,_⟩:=az I h2.seq r2
    exact SeqAt.EqAt.int_list _ _ l2 (by omega)
  | @dct a2 _ _ _ _ h2 _ _=>
    cases rb
    exact m8 _ _ (bD I h2) (by omega)
 |str=>
  obtain⟨t1,rfl⟩:=ra
  cases py with
  |non=>
   cases rb
   exact SeqAt.EqAt.str_none _ _
  |bl=>
   cases rb
   exact SeqAt.EqAt.str_bool _ _ _
  |int=>
   obtain⟨t2,rfl⟩:=rb
   exact SeqAt.EqAt.str_int _ _ _ _
  |str=>
   obtain⟨t2,rfl⟩:=rb
   exact SeqAt.EqAt.str_str _ _ _ _
  | @tup a2 _ _ h2 r2=>
    cases rb
    obtain⟨its2,l2,_⟩:=bh I (SqT.of h2) r2
    exact SeqAt.EqAt.str_tuple _ _ l2 (by omega)
  | @lst a2 _ _ h2 r2=>
    cases rb
    obtain⟨its2,l2,_⟩:=az I (SqL.of h2) r2
    exact SeqAt.EqAt.str_list _ _ l2 (by omega)
  | @scr a2 _ _ h2 r2=>
    cases rb
    obtain⟨its2,l2,_⟩:=az I h2.seq r2
    exact SeqAt.EqAt.str_list _ _ l2 (by omega)
  | @dct a2 _ _ _ _ h2 _ _=>
    cases rb
    exact mZ _ _ (bD I h2) (by omega)
 | @tup a1 _ _ h1 r1=>
   cases ra
   obtain⟨its,l1,_⟩:=bh I (SqT.of h1) r1
   cases py with
   |non=>
    cases rb
    exact SeqAt.EqAt.tuple_none l1 (by omega)
   |bl=>
    cases rb
    exact SeqAt.EqAt.tuple_bool _ l1 (by omega)
   |int=>
    obtain⟨t2,rfl⟩:=rb
    exact SeqAt.EqAt.tuple_int _ _ l1 (by omega)
   |str=>
    obtain⟨t2,rfl⟩:=rb
    exact SeqAt.EqAt.tuple_str _ _ l1 (by omega)
   | @tup a2 _ _ h2 r2=>
     cases rb
     obtain⟨its2,l2,_⟩:=bh I (SqT.of h2) r2
     by_cases e:a1=a2
     ·exact(km I (.tup h1 r1) (.tup h2 r2) e)
     ·exact SeqAt.EqAt.of_refs e (tT I IH (by unfold cM at hd;omega) (by unfold cM at hu;omega) h1 r1 h2 r2).1
   | @lst a2 _ _ h2 r2=>
     cases rb
     obtain⟨its2,l2,_⟩:=az I (SqL.of h2) r2
     exact SeqAt.EqAt.tuple_list l1 l2 (by omega)
   | @scr a2 _ _ h2 r2=>
     cases rb
     obtain⟨its2,l2,_⟩:=az I h2.seq r2
     exact SeqAt.EqAt.tuple_list l1 l2 (by omega)
   | @dct a2 _ _ _ _ h2 _ _=>
     cases rb
     exact kN l1 (bD I h2) (by omega)
 | @dct a1 _ _ _ _ h1 _ _=>exact absurd hu (by unfold cM;omega)
 | @scr a1 _ _ h1 r1=>exact absurd hu (by unfold cM;omega)
 | @lst a1 _ _ h1 r1=>
   cases ra
   obtain⟨its,l1,_⟩:=az I (SqL.of h1) r1
   cases py with
   |non=>
    cases rb
    exact SeqAt.EqAt.list_none l1 (by omega)
   |bl=>
    cases rb
    exact SeqAt.EqAt.list_bool _ l1 (by omega)
   |int=>
    obtain⟨t2,rfl⟩:=rb
    exact SeqAt.EqAt.list_int _ _ l1 (by omega)
   |str=>
    obtain⟨t2,rfl⟩:=rb
    exact SeqAt.EqAt.list_str _ _ l1 (by omega)
   | @tup a2 _ _ h2 r2=>
     cases rb
     obtain⟨its2,l2,_⟩:=bh I (SqT.of h2) r2
     exact SeqAt.EqAt.list_tuple l1 l2 (by omega)
   | @lst a2 _ _ h2 r2=>
     cases rb
     obtain⟨its2,l2,_⟩:=az I (SqL.of h2) r2
     by_cases e:a1=a2
     ·exact(km I (.lst h1 r1) (.lst h2 r2) e)
     ·exact SeqAt.EqAt.of_refs e (gZ I IH (by unfold cM at hd;omega) (by unfold cM at hu;omega) (SqL.of h1) r1 (SqL.of h2) r2).1
   | @scr a2 _ _ h2 r2=>
     cases rb
     obtain⟨its2,l2,_⟩:=az I h2.seq r2
     by_cases e:a1=a2
     ·exact(km I (.lst h1 r1) (.scr h2 r2) e)
     ·exact SeqAt.EqAt.of_refs e (gZ I IH (by unfold cM at hd;omega) (by unfold cM at hu;omega) (SqL.of h1) r1 h2.seq r2).1
   | @dct a2 _ _ _ _ h2 _ _=>
     cases rb
     exact lK l1 (bD I h2) (by omega)
theorem kl(I:Inv X aa σ H s): ∀(n:Nat) {x y:D} {v u:V} {a b:Value} {A:Around},cM x<n->A.units+cM x<cLine->RelV v a->RelV u b->Rep X.K H v x->Rep X.K H u y->SeqAt.EqAt A s a b (b6 x y)
 |0,x,y,v,u,a,b,A,hd,hu,ra,rb,px,py=>absurd hd (Nat.not_lt_zero _)
 |n+1,x,y,v,u,a,b,A,hd,hu,ra,rb,px,py=>Dm I (λh1 h2 h3 h4 h5 h6=>kl I n h1 h2 h3 h4 h5 h6) hd hu (by omega) ra rb px py
theorem CJ(I:Inv X aa σ H s){x y:D}{v u:V}{a b:Value}{A:Around}(hu:A.units+cM x<cLine)(hc:A.units<cLine)(ra:RelV v a)(rb:RelV u b)(px:Rep X.K H v x)(py:Rep X.K H u y):SeqAt.RcAt A s a b (b6 x y):=by
 have IH:=λ{x y:D} {v u:V} {a b:Value} {A:Around} (n:Nat)=> @kl X aa σ H s I n x y v u a b A
 have IH: ∀ {n:Nat} {x y:D} {v u:V} {a b:Value} {A:Around},cM x<n->A.units+cM x<cLine->RelV v a->RelV u b->Rep X.K H v x->Rep X.K H u y->SeqAt.EqAt A s a b (b6 x y):=λ{n x y v u a b A}=>kl I n
 unfold b6;cases px with
 |non=>
  cases ra
  cases py with
  |non=>
   cases rb
   exact SeqAt.RcAt.none_none
  |bl=>
   cases rb
   exact SeqAt.RcAt.none_bool _
  |int=>
   obtain⟨t2,rfl⟩:=rb
   exact SeqAt.RcAt.none_int _ _
  |str=>
   obtain⟨t2,rfl⟩:=rb
   exact SeqAt.RcAt.none_str _ _
  | @tup a2 _ _ h2 r2=>
    cases rb
    obtain⟨its2,l2,_⟩:=bh I (SqT.of h2) r2
    exact SeqAt.RcAt.none_tuple l2 (by omega)
  | @lst a2 _ _ h2 r2=>
    cases rb
    obtain⟨its2,l2,_⟩:=az I (SqL.of h2) r2
    exact SeqAt.RcAt.none_list l2 (by omega)
  | @scr a2 _ _ h2 r2=>
    cases rb
    obtain⟨its2,l2,_⟩:=az I h2.seq r2
    exact SeqAt.RcAt.none_list l2 (by omega)
  | @dct a2 _ _ _ _ h2 _ _=>
    cases rb
    exact gG (bD I h2) (by omega)
 |bl=>
  cases ra
  cases py with
  |non=>
   cases rb
   exact SeqAt.RcAt.bool_none _
  |bl=>
   cases rb
   exact SeqAt.RcAt.bool_bool _ _
  |int=>
   obtain⟨t2,rfl⟩:=rb
   exact SeqAt.RcAt.bool_int _ _ _
  |str=>
   obtain⟨t2,rfl⟩:=rb
   exact SeqAt.RcAt.bool_str _ _ _
  | @tup a2 _ _ h2 r2=>
    cases rb
    obtain⟨its2,l2,_⟩:=bh I (SqT.of h2) r2
    exact SeqAt.RcAt.bool_tuple _ l2 (by omega)
  | @lst a2 _ _ h2 r2=>
    cases rb
    obtain⟨its2,l2,_⟩:=az I (SqL.of h2) r2
    exact SeqAt.RcAt.bool_list _ l2 (by omega)
  | @scr a2 _ _ h2 r2=>
    cases rb
    obtain⟨its2,l2,_⟩:=az I h2.seq r2
    exact SeqAt.RcAt.bool_list _ l2 (by omega)
  | @dct a2 _ _ _ _ h2 _ _=>
    cases rb
    exact gw _ (bD I h2) (by omega)
 |int=>
  obtain⟨t1,rfl⟩:=ra
  cases py with
  |non=>
   cases rb
   exact SeqAt.RcAt.int_none _ _
  |bl=>
   cases rb
   exact SeqAt.RcAt.int_bool _ _ _
  |int=>
   obtain⟨t2,rfl⟩:=rb
   exact SeqAt.RcAt.int_int _ _ _ _
  |str=>
   obtain⟨t2,rfl⟩:=rb
   exact SeqAt.RcAt.int_str _ _ _ _
  | @tup a2 _ _ h2 r2=>
    cases rb
    obtain⟨its2,l2,_⟩:=bh I (SqT.of h2) r2
    exact SeqAt.RcAt.int_tuple _ _ l2 (by omega)
  | @lst a2 _ _ h2 r2=>
    cases rb
    obtain⟨its2,l2,_⟩:=az I (SqL.of h2) r2
    exact SeqAt.RcAt.int_list _ _ l2 (by omega)
  | @scr a2 _ _ h2 r2=>
    cases rb
    obtain⟨its2,l2,_⟩:=az I h2.seq r2
    exact SeqAt.RcAt.int_list _ _ l2 (by omega)
  | @dct a2 _ _ _ _ h2 _ _=>
    cases rb
    exact h8 _ _ (bD I h2) (by omega)
 |str=>
  obtain⟨t1,rfl⟩:=ra
  cases py with
  |non=>
   cases rb
   exact SeqAt.RcAt.str_none _ _
  |bl=>
   cases rb
   exact SeqAt.RcAt.str_bool _ _ _
  |int=>
   obtain⟨t2,rfl⟩:=rb
   exact SeqAt.RcAt.str_int _ _ _ _
  |str=>
   obtain⟨t2,rfl⟩:=rb
   exact SeqAt.RcAt.str_str _ _ _ _
  | @tup a2 _ _ h2 r2=>
    cases rb
    obtain⟨its2,l2,_⟩:=bh I (SqT.of h2) r2
    exact SeqAt.RcAt.str_tuple _ _ l2 (by omega)
  | @lst a2 _ _ h2 r2=>
    cases rb
    obtain⟨its2,l2,_⟩:=az I (SqL.of h2) r2
    exact SeqAt.RcAt.str_list _ _ l2 (by omega)
  | @scr a2 _ _ h2 r2=>
    cases rb
    obtain⟨its2,l2,_⟩:=az I h2.seq r2
    exact SeqAt.RcAt.str_list _ _ l2 (by omega)
  | @dct a2 _ _ _ _ h2 _ _=>
    cases rb
    exact h7 _ _ (bD I h2) (by omega)
 | @tup a1 _ _ h1 r1=>
   cases ra
   obtain⟨its,l1,_⟩:=bh I (SqT.of h1) r1
   cases py with
   |non=>
    cases rb
    exact SeqAt.RcAt.tuple_none l1 (by omega)
   |bl=>
    cases rb
    exact SeqAt.RcAt.tuple_bool _ l1 (by omega)
   |int=>
    obtain⟨t2,rfl⟩:=rb
    exact SeqAt.RcAt.tuple_int _ _ l1 (by omega)
   |str=>
    obtain⟨t2,rfl⟩:=rb
    exact SeqAt.RcAt.tuple_str _ _ l1 (by omega)
   | @tup a2 _ _ h2 r2=>
     cases rb
     obtain⟨its2,l2,_⟩:=bh I (SqT.of h2) r2
     exact(tT I IH (Nat.lt_succ_self _) (by unfold cM at hu;omega) h1 r1 h2 r2).1
   | @lst a2 _ _ h2 r2=>
     cases rb
     obtain⟨its2,l2,_⟩:=az I (SqL.of h2) r2
     exact SeqAt.RcAt.tuple_list l1 l2 (by omega)
   | @scr a2 _ _ h2 r2=>
     cases rb
     obtain⟨its2,l2,_⟩:=az I h2.seq r2
     exact SeqAt.RcAt.tuple_list l1 l2 (by omega)
   | @dct a2 _ _ _ _ h2 _ _=>
     cases rb
     exact f9 l1 (bD I h2) (by omega)
 | @dct a1 _ _ _ _ h1 _ _=>exact absurd hu (by unfold cM;omega)
 | @scr a1 _ _ h1 r1=>exact absurd hu (by unfold cM;omega)
 | @lst a1 _ _ h1 r1=>
   cases ra
   obtain⟨its,l1,_⟩:=az I (SqL.of h1) r1
   cases py with
   |non=>
    cases rb
    exact SeqAt.RcAt.list_none l1 (by omega)
   |bl=>
    cases rb
    exact SeqAt.RcAt.list_bool _ l1 (by omega)
   |int=>
    obtain⟨t2,rfl⟩:=rb
    exact SeqAt.RcAt.list_int _ _ l1 (by omega)
   |str=>
    obtain⟨t2,rfl⟩:=rb
    exact SeqAt.RcAt.list_str _ _ l1 (by omega)
   | @tup a2 _ _ h2 r2=>
     cases rb
     obtain⟨its2,l2,_⟩:=bh I (SqT.of h2) r2
     exact SeqAt.RcAt.list_tuple l1 l2 (by omega)
   | @lst a2 _ _ h2 r2=>
     cases rb
     obtain⟨its2,l2,_⟩:=az I (SqL.of h2) r2
     exact(gZ I IH (Nat.lt_succ_self _) (by unfold cM at hu;omega) (SqL.of h1) r1 (SqL.of h2) r2).1
   | @scr a2 _ _ h2 r2=>
     cases rb
     obtain⟨its2,l2,_⟩:=az I h2.seq r2
     exact(gZ I IH (Nat.lt_succ_self _) (by unfold cM at hu;omega) (SqL.of h1) r1 h2.seq r2).1
   | @dct a2 _ _ _ _ h2 _ _=>
     cases rb
     exact gD l1 (bD I h2) (by omega)
theorem w6(I:Inv X aa σ H s){x y:D}{v u:V}{a b:Value}{A:Around}(hu:A.units+cM x<cLine)(hc:A.units<cLine)(ra:RelV v a)(rb:RelV u b)(px:Rep X.K H v x)(py:Rep X.K H u y):SeqAt.RcNeAt A s a b (!b6 x y):=by
 have IH: ∀ {n:Nat} {x y:D} {v u:V} {a b:Value} {A:Around},cM x<n->A.units+cM x<cLine->RelV v a->RelV u b->Rep X.K H v x->Rep X.K H u y->SeqAt.EqAt A s a b (b6 x y):=λ{n x y v u a b A}=>kl I n
 unfold b6;cases px with
 |non=>
  cases ra
  cases py with
  |non=>
   cases rb
   exact SeqAt.RcNeAt.none_none
  |bl=>
   cases rb
   exact SeqAt.RcNeAt.none_bool _
  |int=>
   obtain⟨t2,rfl⟩:=rb
   exact SeqAt.RcNeAt.none_int _ _
  |str=>
   obtain⟨t2,rfl⟩:=rb
   exact SeqAt.RcNeAt.none_str _ _
  | @tup a2 _ _ h2 r2=>
    cases rb
    obtain⟨its2,l2,_⟩:=bh I (SqT.of h2) r2
    exact SeqAt.RcNeAt.none_tuple l2 (by omega)
  | @lst a2 _ _ h2 r2=>
    cases rb
    obtain⟨its2,l2,_⟩:=az I (SqL.of h2) r2
    exact SeqAt.RcNeAt.none_list l2 (by omega)
  | @scr a2 _ _ h2 r2=>
    cases rb
    obtain⟨its2,l2,_⟩:=az I h2.seq r2
    exact SeqAt.RcNeAt.none_list l2 (by omega)
  | @dct a2 _ _ _ _ h2 _ _=>
    cases rb
    exact jS (bD I h2) (by omega)
 |bl=>
  cases ra
  cases py with
  |non=>
   cases rb
   exact SeqAt.RcNeAt.bool_none _
  |bl=>
   cases rb
   exact SeqAt.RcNeAt.bool_bool _ _
  |int=>
   obtain⟨t2,rfl⟩:=rb
   exact SeqAt.RcNeAt.bool_int _ _ _
  |str=>
   obtain⟨t2,rfl⟩:=rb
   exact SeqAt.RcNeAt.bool_str _ _ _
  | @tup a2 _ _ h2 r2=>
    cases rb
    obtain⟨its2,l2,_⟩:=bh I (SqT.of h2) r2
    exact SeqAt.RcNeAt.bool_tuple _ l2 (by omega)
  | @lst a2 _ _ h2 r2=>
    cases rb
    obtain⟨its2,l2,_⟩:=az I (SqL.of h2) r2
    exact SeqAt.RcNeAt.bool_list _ l2 (by omega)
  | @scr a2 _ _ h2 r2=>
    cases rb
    obtain⟨its2,l2,_⟩:=az I h2.seq r2
    exact SeqAt.RcNeAt.bool_list _ l2 (by omega)
  | @dct a2 _ _ _ _ h2 _ _=>
    cases rb
    exact jV _ (bD I h2) (by omega)
 |int=>
  obtain⟨t1,rfl⟩:=ra
  cases py with
  |non=>
   cases rb
   exact SeqAt.RcNeAt.int_none _ _
  |bl=>
   cases rb
   exact SeqAt.RcNeAt.int_bool _ _ _
  |int=>
   obtain⟨t2,rfl⟩:=rb
   exact SeqAt.RcNeAt.int_int _ _ _ _
  |str=>
   obtain⟨t2,rfl⟩:=rb
   exact SeqAt.RcNeAt.int_str _ _ _ _
  | @tup a2 _ _ h2 r2=>
    cases rb
    obtain⟨its2,l2,_⟩:=bh I (SqT.of h2) r2
    exact SeqAt.RcNeAt.int_tuple _ _ l2 (by omega)
  | @lst a2 _ _ h2 r2=>
    cases rb
    obtain⟨its2,l2,_⟩:=az I (SqL.of h2) r2
    exact SeqAt.RcNeAt.int_list _ _ l2 (by omega)
  | @scr a2 _ _ h2 r2=>
    cases rb
    obtain⟨its2,l2,_⟩:=az I h2.seq r2
    exact SeqAt.RcNeAt.int_list _ _ l2 (by omega)
  | @dct a2 _ _ _ _ h2 _ _=>
    cases rb
    exact kL _ _ (bD I h2) (by omega)
 |str=>
  obtain⟨t1,rfl⟩:=ra
  cases py with
  |non=>
   cases rb
   exact SeqAt.RcNeAt.str_none _ _
  |bl=>
   cases rb
   exact SeqAt.RcNeAt.str_bool _ _ _
  |int=>
   obtain⟨t2,rfl⟩:=rb
   exact SeqAt.RcNeAt.str_int _ _ _ _
  |str=>
   obtain⟨t2,rfl⟩:=rb
   exact SeqAt.RcNeAt.str_str _ _ _ _
  | @tup a2 _ _ h2 r2=>
    cases rb
    obtain⟨its2,l2,_⟩:=bh I (SqT.of h2) r2
    exact SeqAt.RcNeAt.str_tuple _ _ l2 (by omega)
  | @lst a2 _ _ h2 r2=>
    cases rb
    obtain⟨its2,l2,_⟩:=az I (SqL.of h2) r2
    exact SeqAt.RcNeAt.str_list _ _ l2 (by omega)
  | @scr a2 _ _ h2 r2=>
    cases rb
    obtain⟨its2,l2,_⟩:=az I h2.seq r2
    exact SeqAt.RcNeAt.str_list _ _ l2 (by omega)
  | @dct a2 _ _ _ _ h2 _ _=>
    cases rb
    exact kQ _ _ (bD I h2) (by omega)
 | @tup a1 _ _ h1 r1=>
   cases ra
   obtain⟨its,l1,_⟩:=bh I (SqT.of h1) r1
   cases py with
   |non=>
    cases rb
    exact SeqAt.RcNeAt.tuple_none l1 (by omega)
   |bl=>
    cases rb
    exact SeqAt.RcNeAt.tuple_bool _ l1 (by omega)
   |int=>
    obtain⟨t2,rfl⟩:=rb
    exact SeqAt.RcNeAt.tuple_int _ _ l1 (by omega)
   |str=>
    obtain⟨t2,rfl⟩:=rb
    exact SeqAt.RcNeAt.tuple_str _ _ l1 (by omega)
   | @tup a2 _ _ h2 r2=>
     cases rb
     obtain⟨its2,l2,_⟩:=bh I (SqT.of h2) r2
     exact(tT I IH (Nat.lt_succ_self _) (by unfold cM at hu;omega) h1 r1 h2 r2).2
   | @lst a2 _ _ h2 r2=>
     cases rb
     obtain⟨its2,l2,_⟩:=az I (SqL.of h2) r2
     exact SeqAt.RcNeAt.tuple_list l1 l2 (by omega)
   | @scr a2 _ _ h2 r2=>
     cases rb
     obtain⟨its2,l2,_⟩:=az I h2.seq r2
     exact SeqAt.RcNeAt.tuple_list l1 l2 (by omega)
   | @dct a2 _ _ _ _ h2 _ _=>
     cases rb
     exact jg l1 (bD I h2) (by omega)
 | @dct a1 _ _ _ _ h1 _ _=>exact absurd hu (by unfold cM;omega)
 | @scr a1 _ _ h1 r1=>exact absurd hu (by unfold cM;omega)
 | @lst a1 _ _ h1 r1=>
   cases ra
   obtain⟨its,l1,_⟩:=az I (SqL.of h1) r1
   cases py with
   |non=>
    cases rb
    exact SeqAt.RcNeAt.list_none l1 (by omega)
   |bl=>
    cases rb
    exact SeqAt.RcNeAt.list_bool _ l1 (by omega)
   |int=>
    obtain⟨t2,rfl⟩:=rb
    exact SeqAt.RcNeAt.list_int _ _ l1 (by omega)
   |str=>
    obtain⟨t2,rfl⟩:=rb
    exact SeqAt.RcNeAt.list_str _ _ l1 (by omega)
   | @tup a2 _ _ h2 r2=>
     cases rb
     obtain⟨its2,l2,_⟩:=bh I (SqT.of h2) r2
     exact SeqAt.RcNeAt.list_tuple l1 l2 (by omega)
   | @lst a2 _ _ h2 r2=>
     cases rb
     obtain⟨its2,l2,_⟩:=az I (SqL.of h2) r2
     exact(gZ I IH (Nat.lt_succ_self _) (by unfold cM at hu;omega) (SqL.of h1) r1 (SqL.of h2) r2).2
   | @scr a2 _ _ h2 r2=>
     cases rb
     obtain⟨its2,l2,_⟩:=az I h2.seq r2
     exact(gZ I IH (Nat.lt_succ_self _) (by unfold cM at hu;omega) (SqL.of h1) r1 h2.seq r2).2
   | @dct a2 _ _ _ _ h2 _ _=>
     cases rb
     exact j2 l1 (bD I h2) (by omega)
end
theorem Rep1.full {K:W.Frag}{H:Hp}{hid:aX}{v:V}{d:D}(h:Rep1 K H (vw H hid) v d):Rep K H v d:=by
 rcases h with h|⟨a,xs,ds,rfl,rfl,h1,h2⟩
 ·exact h.mono (bt _ _)
 ·exact .lst h1 (h2.mono (bt _ _))
def DR(K:W.Frag):R2:=λv u H Q=> ∃x y,Rep K H v x/\Rep K H u y/\cM x<=32/\Q (.bl (b6 x y)) H
def EV(K:W.Frag):R2:=λv u H Q=> ∃x y,Rep K H v x/\Rep K H u y/\cM x<=32/\Q (.bl (!b6 x y)) H
theorem jN {X:Cx}(hu:X.A.units+64<cLine):jD X (compareOp .Eq) (DR X.K):=by
 intro aa s σ H x y v u Q I rx ry h;obtain⟨dx,dy,p1,p2,hd,q⟩:=h
 exact CJ I (by omega) (by omega) rx ry p1 p2 X.prog X.w _ _ ⟨.bl _,H,I,rfl,q⟩
theorem yZ {X:Cx}(hu:X.A.units+64<cLine):jD X (compareOp .NotEq) (EV X.K):=by
 intro aa s σ H x y v u Q I rx ry h;obtain⟨dx,dy,p1,p2,hd,q⟩:=h
 exact w6 I (by omega) (by omega) rx ry p1 p2 X.prog X.w _ _ ⟨.bl _,H,I,rfl,q⟩
def wQ:D->D->Option D:=λx y=>if cM x<=32 then some (.bl (b6 x y)) else none
def Ff:D->D->Option D:=λx y=>if cM x<=32 then some (.bl (!b6 x y)) else none
theorem nE {K:W.Frag}:mL K .s (DR K) wQ:=by
 intro H hid v u x y d Q hf h r1 r2 q;unfold wQ at h;split at h
 ·cases h;exact⟨x,y,r1.full,r2.full, ‹_›,q _ H (Same.refl _) .bl⟩
 ·cases h
theorem BD {K:W.Frag}:mL K .s (EV K) Ff:=by
 intro H hid v u x y d Q hf h r1 r2 q;unfold Ff at h;split at h
 ·cases h;exact⟨x,y,r1.full,r2.full, ‹_›,q _ H (Same.refl _) .bl⟩
 ·cases h
theorem kX {X:Cx}{aa:List (Addr×Obj)}{σ:St}{H:Hp}{s:Shared}(I:Inv X aa σ H s){x:D}{v:V}{a:Value}{A:Around}(hx:Rep X.K H v x)(ra:RelV v a): ∀ {ds:List D} {xs:List V} {its:List Value},Reps X.K H xs ds->Vals xs its->A.units+cE ds<cLine->
 ∃e:Value->Bool,(∀y,y∈its->SeqAt.EqAt A s y a (e y))/\its.any e=ds.any (λd=>b6 d x):=by
 intro ds xs its r rv hu
 classical
 let e:Value->Bool:=λy=>if h: ∃(d:D) (u:V),RelV u y/\Rep X.K H u d then b6 h.choose x else false
 have key: ∀y u d,RelV u y->Rep X.K H u d->e y=b6 d x:=λy u d h1 h2=>by
  have hex: ∃(d:D) (u:V),RelV u y/\Rep X.K H u d:=⟨d,u,h1,h2⟩
  show(if h: ∃(d:D) (u:V),RelV u y/\Rep X.K H u d then b6 h.choose x else false)=b6 d x
  rw[dif_pos hex];obtain⟨u',s1,s2⟩:=hex.choose_spec
  have eu:u'=u:=s1.inj h1
  rw[eu] at s2;exact Rep.eqv I s2 h2 x
 refine⟨e,?_,?_⟩
 ·induction rv generalizing ds with
  |nil=>intro y hy;cases hy
  |cons r1 t ih=>
   cases r with
   |cons p1 pt=>
    rename_i d ds;intro y hy;have hm:cM d<=cE (d::ds):=jq (i:=0) rfl
    have hm2:cE ds<=cE (d::ds):=by conv=>rhs;unfold cE
                                   exact Nat.le_max_right _ _
    rcases List.mem_cons.mp hy with rfl|hy
    ·rw[key _ _ _ r1 p1]
     exact kl I (cM d+1) (Nat.lt_succ_self _) (by omega) r1 ra p1 hx
    ·exact ih pt (by omega) y hy
 ·induction rv generalizing ds with
  |nil=>cases r;rfl
  |cons r1 t ih=>
   cases r with
   |cons p1 pt=>
    rename_i d ds;have hm2:cE ds<=cE (d::ds):=by conv=>rhs;unfold cE
                                                 exact Nat.le_max_right _ _
    rw[List.any_cons,List.any_cons,key _ _ _ r1 p1,ih pt (by omega)]
def Cr(K:W.Frag)(neg:Bool):R2:=λv u H Q=> ∃x ds a xs,Rep K H v x/\u=.ref a/\(SqL K H a xs\/SqT K H a xs)/\Reps K H xs ds/\cE ds<=32/\Q (.bl (if neg then !ds.any (λd=>b6 d x) else ds.any λd=>b6 d x)) H
theorem yW {X:Cx}(hu:X.A.units+64<cLine):jD X (compareOp .In) (Cr X.K false):=by
 intro aa s σ H v w a b Q I rx ry h;obtain⟨x,ds,p,xs,hx,rfl,hq,r,hd,q⟩:=h
 cases ry
 rcases hq with hq|hq
 ·obtain⟨its,rv,pl,hz⟩:=I.list hq
  obtain⟨e,h1,h2⟩:=kX (A:=X.A.in1) I hx rx r rv (by rw[cq];omega)
  refine SeqAt.in_listAt e pl.isList (λy hy=>h1 y (by simpa using hy)) ⟨.bl _,H,I,rfl,?_⟩
  rw[show its.toArray.any e=its.any e by simp,h2]
  exact q
 ·obtain⟨its,rv,pl,hz⟩:=I.tuple hq
  obtain⟨e,h1,h2⟩:=kX (A:=X.A.in1) I hx rx r rv (by rw[cq];omega)
  refine SeqAt.in_tupleAt e pl (λy hy=>h1 y (by simpa using hy)) ⟨.bl _,H,I,rfl,?_⟩
  rw[show its.toArray.any e=its.any e by simp,h2]
  exact q
theorem wf {X:Cx}(hu:X.A.units+64<cLine):jD X (compareOp .NotIn) (Cr X.K true):=by
 intro aa s σ H v w a b Q I rx ry h;obtain⟨x,ds,p,xs,hx,rfl,hq,r,hd,q⟩:=h
 cases ry
 rcases hq with hq|hq
 ·obtain⟨its,rv,pl,hz⟩:=I.list hq
  obtain⟨e,h1,h2⟩:=kX (A:=X.A.in1) I hx rx r rv (by rw[cq];omega)
  refine SeqAt.notIn_listAt e pl.isList (λy hy=>h1 y (by simpa using hy)) ⟨.bl _,H,I,rfl,?_⟩
  rw[show its.toArray.any e=its.any e by simp,h2]
  exact q
 ·obtain⟨its,rv,pl,hz⟩:=I.tuple hq
  obtain⟨e,h1,h2⟩:=kX (A:=X.A.in1) I hx rx r rv (by rw[cq];omega)
  refine SeqAt.notIn_tupleAt e pl (λy hy=>h1 y (by simpa using hy)) ⟨.bl _,H,I,rfl,?_⟩
  rw[show its.toArray.any e=its.any e by simp,h2]
  exact q
def BT:D->Option (List D)
 | .lst ds=>some ds
 | .tup ds=>some ds
 |_=>none
def DQ(neg:Bool):D->D->Option D:=λx y=>match BT y with
 |some ds=>if cE ds<=32 then some (.bl (if neg then !ds.any (λd=>b6 d x) else ds.any λd=>b6 d x)) else none
 |none=>none
theorem y0 {K:W.Frag}(neg:Bool):mL K .s (Cr K neg) (DQ neg):=by
 intro H hid v u x y d Q hf h r1 r2 q;unfold DQ at h;split at h
 ·split at h
  ·rename_i ds e _
   cases h
   cases y with
   |lst zs=>
    cases e
    obtain⟨a,xs,rfl,h1,h2⟩:=r2.lst
    exact⟨x,_,a,xs,r1.full,rfl,.inl h1,h2.mono (bt _ _), ‹_›,q _ H (Same.refl _) .bl⟩
   |tup zs=>
    cases e
    obtain⟨a,xs,rfl,_,h1,h2⟩:=r2.tup
    exact⟨x,_,a,xs,r1.full,rfl,.inr h1,h2.mono (bt _ _), ‹_›,q _ H (Same.refl _) .bl⟩
   |_=>cases e
  ·cases h
 ·cases h
def Gh(T:String):D->Bool
 | .non=>T=="NoneType"
 | .bl _=>T=="bool"||T=="int"
 | .int _=>T=="int"
 | .str _=>T=="str"
 | .tup _=>T=="tuple"
 | .lst _=>T=="list"
 | .scr _=>T=="list"
 | .dct _ _=>T=="dict"
structure KT(T:String):Prop where
 n: ∀K,W.kitOne K (.type "NoneType") (.type T)=some (T=="NoneType")
 b: ∀K,W.kitOne K (.type "bool") (.type T)=some (T=="bool"||T=="int")
 i: ∀K,W.kitOne K (.type "int") (.type T)=some (T=="int")
 s: ∀K,W.kitOne K (.type "str") (.type T)=some (T=="str")
 t: ∀K,W.kitOne K (.type "tuple") (.type T)=some (T=="tuple")
 l: ∀K,W.kitOne K (.type "list") (.type T)=some (T=="list")
 d: ∀K,W.kitOne K (.type "dict") (.type T)=some (T=="dict")
theorem Dc:KT "str":=⟨λ_=>by kernel_rfl,λ_=>by kernel_rfl,λ_=>by kernel_rfl,λ_=>by kernel_rfl,λ_=>by kernel_rfl,λ_=>by kernel_rfl,λ_=>by kernel_rfl⟩
section
variable {X:Cx}{c:Ct}{e o:Expr}{k:Kd}{f g:FE}{pos p p2:Pos}
theorem xG {T:String}(kt:KT T):bU X (.builtin "isinstance") (λxs H Q=> ∃v d,xs=[v,.ty T]/\Rep X.K H v d/\Q (.bl (Gh T d)) H):=by
 intro aa s σ H xs us Q I r h;obtain⟨v,d,rfl,rp,q⟩:=h
 obtain⟨u,w',rfl,rx,ry⟩:=xV r
 cases ry
 have fin: ∀tk,EP X aa σ Q (.bool (Gh T d)) {s with toks:=tk}:=λtk=>⟨.bl _,H,I.tok _,rfl,q⟩
 cases rp with
 |non=>cases rx;exact W.kia_one W.kitx_none I.kIn True.intro (kt.n _) (λz=>nomatch z) fin
 |bl=>cases rx;exact W.kia_one W.kitx_bool I.kIn True.intro (kt.b _) (λz=>nomatch z) fin
 |int=>obtain⟨t,rfl⟩:=rx;exact W.kia_one W.kitx_int I.kIn True.intro (kt.i _) (λz=>nomatch z) fin
 |str=>obtain⟨t,rfl⟩:=rx;exact W.kia_one W.kitx_str I.kIn True.intro (kt.s _) (λz=>nomatch z) fin
 |tup h1 h2=>
  cases rx
  obtain⟨⟨ob,ho,hc⟩,_⟩:=I.tupleN (SqT.of h1)
  exact W.kia_one W.kitx_tuple I.kIn ⟨ob,ho,hc⟩ (kt.t _) (λz=>nomatch z) fin
 |lst h1 h2=>
  cases rx
  obtain⟨its,_,⟨ob,n,ho,hc,_⟩,_⟩:=I.list (SqL.of h1)
  exact W.kia_one W.kitx_list I.kIn ⟨ob,ho,hc⟩ (kt.l _) (λz=>nomatch z) fin
 |scr h1 h2=>
  cases rx
  obtain⟨its,_,⟨ob,n,ho,hc,_⟩,_⟩:=I.list h1.seq
  exact W.kia_one W.kitx_list I.kIn ⟨ob,ho,hc⟩ (kt.l _) (λz=>nomatch z) fin
 |dct h1 h2 h3=>
  cases rx
  obtain⟨ob,ho,hc⟩:=pg I h1
  exact W.kia_one W.kitx_dict I.kIn ⟨ob,ho,hc⟩ (kt.d _) (λz=>nomatch z) fin
def Ce(T:String)(f:FE):FE:=λρ=>(f ρ).map λd=>.bl (Gh T d)
theorem Dg(T:String){y:Str}(kt:KT T)(he:DP X c k e f)(hm:X.mg "isinstance"=none)(hmT:X.mg y=none)(hg:Gl X "isinstance":=by rfl)(hgT:Gl X y:=by rfl)(hv:bootBuiltins "isinstance"=some (.builtin "isinstance"):=by kernel_rfl)(hvT:bootBuiltins y=some (.type T):=by kernel_rfl)(hn:y≠"__name__":=by decide)(hd:(y==("__debug__":Str))=false:=by decide)
 (hs1:starEach [e,.Name y p2] X.env=(false,eval e X.env)::starEach [.Name y p2] X.env:=by rfl) (hs2:starEach [.Name y p2] X.env=(false,eval (.Name y p2) X.env)::starEach [] X.env:=by rfl) (hpl:(backTo pos (starEach [.Name y p2] X.env)).any (·.1)=false:=by rfl):
 DP X c .s (.Call (.Name "isinstance" p) [e,.Name y p2] [] pos) (Ce T f):=λhid ρ=>
 PE.imp (fC (xG kt) hg hm hv (a8 (he hid ρ) (a8 (Ba (v:=.ty T) hgT hmT hvT rfl hn hd) bJ hs2) hs1) (by decide) (by decide) hs1 hpl) λσ H Q hq_=>by
  obtain⟨sr,d,hd,q⟩:=hq_
  unfold Ce at hd;cases e1:f ρ with
  |none=>rw[e1] at hd;cases hd
  |some z=>
   rw[e1] at hd;cases hd;exact⟨sr,z,e1,λv H' s' r=>⟨v,z,rfl,(RK.b k r λa n=>sr.fresh n).full,q _ H' s' .bl⟩⟩
def kP:List D->Option (List Bool)
 | []=>some []
 | .bl b::r=>(kP r).map (b:: ·)
 |_=>none
theorem qO: ∀ {ds:List D} {bs:List Bool} {i:Nat} {d:D},kP ds=some bs->ds[i]? =some d-> ∃b,d=.bl b/\bs[i]? =some b
 | [],_,_,_,_,h=>by simp at h
 |x::r,bs,i,d,h,e=>by
  cases x with
  |bl b=>
   unfold kP at h;cases e1:kP r with
   |none=>rw[e1] at h;cases h
   |some rs=>
    rw[e1] at h;cases h;cases i with
    |zero=>simp at e;subst e;exact⟨b,rfl,rfl⟩
    |succ i=>
     obtain⟨b',h1,h2⟩:=qO (i:=i) e1 (by simpa using e)
     exact⟨b',h1,by simpa using h2⟩
  |_=>cases h
theorem qm: ∀ {ds:List D} {bs:List Bool},kP ds=some bs->ds.length=bs.length
 | [],_,h=>by cases h;rfl
 |x::r,bs,h=>by
  cases x with
  |bl b=>
   unfold kP at h;cases e1:kP r with
   |none=>rw[e1] at h;cases h
   |some rs=>rw[e1] at h;cases h;simp[qm e1]
  |_=>cases h
theorem wD(bs:List Bool):(List.range bs.length).any (λi=>bs.getD i false)=bs.any id:=by
 induction bs with
 |nil=>rfl
 |cons b bs ih=>
  rw[List.length_cons,List.range_succ_eq_map,List.any_cons,List.any_map,List.any_cons];rw[show((λi=>(b::bs).getD i false)∘Nat.succ)=λi=>bs.getD i false by funext i;simp[List.getD],ih]
  rfl
theorem sf {aa:List (Addr×Obj)}{σ:St}{H:Hp}{s:Shared}{a:Addr}{xs:List V}{ds:List D}{bs:List Bool}(I:Inv X aa σ H s)(h1:SqL X.K H a xs)(h2:Reps X.K H xs ds)(hb:kP ds=some bs)(hc:X.calm=true){E:Value->Shared->Prop}{R:Value->Shared->Prop}
 (hR: ∀(J:Addr) (s2:Shared) (its:Array Value) (hl:its.size=bs.length),Walks X.prog X.w X.A.in1 J [J,a] [J] its.size (λi v=>its[i]? =some v) (λi h=>h.IsListIter J a i/\h.IsList a its)->s2.heap.IsListIter J a 0->s2.heap.IsList a its->TruthOf X.prog X.w X.A.in1 (λi v=>its[i]? =some v) (λi=>bs.getD i false)->
   (∀h' tk,(∀b o,b∉ [J]->s2.heap.get? b=some o->h'.get? b=some o)->Inv X aa σ H {s2 with heap:=h',toks:=tk})->R (.ref J) s2):wpAny (model X.prog X.w) X.A.in1 (pyIter (.ref a)) R E s:=by
 obtain⟨its,rv,pl,hz⟩:=I.list h1
 have l1:=rv.length
 have l2:=h2.length
 have l3:=qm hb
 have hlt:a<s.heap.objs.size:=by obtain⟨o,n,e,_⟩:=pl;exact Heap.lt_size e
 refine wpAny_pyIter_list pl.isList (hR s.heap.objs.size _ its.toArray (by simp;omega) (Walks.list (A:=X.A.in1) (I.ok.hd hc) _ a (Nat.ne_of_lt hlt) its.toArray) ⟨_,Heap.get?_push_size _ rfl,rfl,rfl⟩ ?_ ?_ ?_)
 ·obtain⟨o,ho,q⟩:=pl.isList
  exact⟨o,Heap.get?_push_of_some _ ho,q⟩
 ·intro i v s' Q E hv hq
  have hv':its[i]? =some v:=by simpa using hv
  have hi:=(List.getElem?_eq_some_iff.mp hv').1
  have ex:xs[i]? =some xs[i]:=List.getElem?_eq_getElem (by omega)
  obtain⟨u,e1,r1⟩:=rv.get ex
  rw[hv'] at e1;cases e1;obtain⟨d,e2,r2⟩:=h2.get' ex
  obtain⟨b,rfl,e3⟩:=qO hb e2
  rcases hx:xs[i] with _|_|_|_|_|_|_|_<;>rw[hx] at r1 r2<;>cases r2
  cases r1
  have:bs.getD i false=b:=by simp[List.getD,e3]
  dsimp only at hq;rw[this] at hq;exact wpAny_truthy_bool hq
 ·intro h' tk hk
  refine I.kept λb o e=>hk b o (λhm=>?_) (Heap.get?_push_of_some _ e)
  have:b=s.heap.objs.size:=by simpa using hm
  exact absurd (this▸Heap.lt_size e) (Nat.lt_irrefl _)
theorem p8(hc:X.calm=true):bU X (.builtin "any") (λxs H Q=> ∃a ys ds bs,xs=[.ref a]/\SqL X.K H a ys/\Reps X.K H ys ds/\kP ds=some bs/\Q (.bl (bs.any id)) H):=by
 intro aa s σ H xs us Q I r h;obtain⟨a,ys,ds,bs,rfl,h1,h2,h3,q⟩:=h
 obtain⟨u,rfl,rx⟩:=dU r
 cases rx
 refine call_any_walk (sf I h1 h2 h3 hc λJ s2 its hl W st1 st2 tr kp=>?_)
 refine⟨J,_,_,_,_,_,_,rfl,W,⟨st1,st2⟩,tr,λh' tk hk=>⟨.bl _,H,kp h' tk hk,rfl,?_⟩⟩
 rw[hl,wD];exact q
def zX:List D->Option D
 | [.lst ds]=>(kP ds).map λbs=>.bl (bs.any id)
 |_=>none
theorem yc:ga X.K .s (λxs H Q=> ∃a ys ds bs,xs=[.ref a]/\SqL X.K H a ys/\Reps X.K H ys ds/\kP ds=some bs/\Q (.bl (bs.any id)) H) zX:=by
 intro H hid vs ds d Q hf h r q;unfold zX at h;split at h
 ·rename_i zs
  cases e1:kP zs with
  |none=>rw[e1] at h;cases h
  |some bs=>
   rw[e1] at h;cases h;obtain⟨x,rfl,r1⟩:=Reps1.one r
   obtain⟨a,xs,rfl,h1,h2⟩:=r1.lst
   exact⟨a,xs,zs,bs,rfl,h1,h2.mono (bt _ _),e1,q _ H (Same.refl _) .bl⟩
 ·cases h
def c5:List D->Option (List Int)
 | []=>some []
 | .int b::r=>(c5 r).map (b:: ·)
 |_=>none
theorem cB: ∀ {ds:List D} {ns:List Int},c5 ds=some ns->ds=ns.map D.int
 | [],_,h=>by cases h;rfl
 |x::r,bs,h=>by
  cases x with
  |int b=>
   unfold c5 at h;cases e1:c5 r with
   |none=>rw[e1] at h;cases h
   |some rs=>rw[e1] at h;cases h;simp[cB e1]
  |_=>cases h
theorem ie {K:W.Frag}{F:Hp}: ∀ {ns:List Int} {xs:List V},Reps K F xs (ns.map D.int)->xs=ns.map V.int
 | [],_,.nil=>rfl
 |n::ns,_,.cons r t=>by cases r;rw[ie t];rfl
def pC:List Int->Int
 | []=>0
 |a::r=>r.foldl (λm b=>if b<m then b else m) a
theorem yo(r:List Int): ∀a:Int,r.foldl (λm b=>if b<m then b else m) a∈a::r/\ ∀x∈a::r,r.foldl (λm b=>if b<m then b else m) a<=x:=by
 induction r with
 |nil=>intro a;simp
 |cons b r ih=>
  intro a;rw[List.foldl_cons];obtain⟨h1,h2⟩:=ih (if b<a then b else a)
  have h3:=h2 (if b<a then b else a) List.mem_cons_self
  refine⟨?_,λx hx=>?_⟩
  ·rcases List.mem_cons.mp h1 with e|e
   ·rw[e];split<;>simp
   ·exact List.mem_cons_of_mem _ (List.mem_cons_of_mem _ e)
  ·rcases List.mem_cons.mp hx with rfl|hx
   ·split at h3<;>split<;>omega
   ·rcases List.mem_cons.mp hx with rfl|hx
    ·split at h3<;>split<;>omega
    ·exact h2 x (List.mem_cons_of_mem _ hx)
theorem ze: ∀(ns:List Int),ns≠[]->pC ns∈ns/\ ∀a∈ns,pC ns<=a
 | [],h=>absurd rfl h
 |a::r,_=>yo r a
theorem wG {ns:List Int}{m:Int}(h1:m∈ns)(h2: ∀a∈ns,m<=a):m=pC ns:=by
 obtain⟨g1,g2⟩:=ze ns (by intro e;subst e;simp at h1)
 have:=h2 _ g1
 have:=g2 _ h1
 omega
theorem vT(hc:X.calm=true):bU X (.builtin "min") (λxs H Q=> ∃a ns,xs=[.ref a]/\SqL X.K H a (ns.map V.int)/\ns≠[]/\Q (.int (pC ns)) H):=by
 intro aa s σ H xs us Q I r h;obtain⟨a,ns,rfl,h1,h2,q⟩:=h
 obtain⟨u,rfl,rx⟩:=dU r
 cases rx
 obtain⟨its,rv,pl,hz⟩:=I.list h1
 have hi:IntsAre its ns:=tE rv
 obtain⟨xs,e⟩:=hi.allInts.items
 have hns:ns=xs.toList.map (·.1):=by rw[<-hi.numsOf,<-nums_intItems,<-e]
 have hsz:0<xs.size:=by
  have:0<ns.length:=by cases ns with|nil=>exact absurd rfl h2|cons=>simp
  rw[hns,List.length_map,Array.length_toList] at this;exact this
 have hl:=pl.isList
 rw[e] at hl;refine min_intList (I.ok.hd hc) hl hsz λv h' tk hv hk=>?_
 obtain⟨t,rfl⟩:=intItems_at hv
 obtain⟨g1,g2⟩:=argBest_lt (numAt xs) (xs.size-1)
 have em:numAt xs (argBest (λi j=>decide (numAt xs i<numAt xs j)) (xs.size-1))=pC ns:=by
  refine wG ?_ λa ha=>?_
  ·rw[hns,numAt_eq];exact getD_mem (by rw[List.length_map,Array.length_toList];omega)
  ·rw[hns] at ha
   obtain⟨j,hj,rfl⟩:=mem_getD ha
   rw[List.length_map,Array.length_toList] at hj;rw[<-numAt_eq];exact g2 j (by omega)
 exact⟨.int (pC ns),H,I.kept hk,⟨t,by rw[<-em]⟩,q⟩
def xT:List D->Option D
 | [.lst ds]=>(c5 ds).bind λns=>if ns.isEmpty then none else some (.int (pC ns))
 |_=>none
theorem A5:ga X.K .s (λxs H Q=> ∃a ns,xs=[.ref a]/\SqL X.K H a (ns.map V.int)/\ns≠[]/\Q (.int (pC ns)) H) xT:=by
 intro H hid vs ds d Q hf h r q;unfold xT at h;split at h
 ·rename_i zs
  cases e1:c5 zs with
  |none=>rw[e1] at h;cases h
  |some ns=>
   rw[e1] at h;have h:(if ns.isEmpty then none else some (D.int (pC ns)))=some d:=h
   split at h
   ·cases h
   ·cases h
    obtain⟨x,rfl,r1⟩:=Reps1.one r
    obtain⟨a,xs,rfl,h1,h2⟩:=r1.lst
    rw[cB e1] at h2;rw[ie h2] at h1;exact⟨a,ns,rfl,h1,(by intro e;subst e;simp at*),q _ H (Same.refl _) .int⟩
 ·cases h
end
end L2
namespace PySem.SeqAt
open AutoSeq1 (wpAny_loadPart')
open MeetsSeq MeetsSeq2 MeetsSeq3 SeqRoads2
theorem kR {M:Model}{A:Around}{E:Value->Shared->Prop}{s:Shared}{β:Type}(f:Nat->β->Sem (ForInStep β))(I:List Nat->β->Shared->Prop)(Q:β->Shared->Prop)
 (turn: ∀x rest b s,I (x::rest) b s->wpAny M A (f x b) (λr s'=>match r with| .yield b'=>I rest b' s'| .done b'=>Q b' s') E s)
 (fin: ∀b s,I [] b s->Q b s) (a b:Nat) (c:β) (h:I (List.range' a (b-a)) c s):wpAny M A (forIn [a:b] c f) Q E s:=by
 rw[Std.Legacy.Range.forIn_eq_forIn_range'];have hsz:([a:b]:Std.Legacy.Range).size=b-a:=by simp[Std.Legacy.Range.size]
 show wpAny M A (forIn (List.range' a ([a:b]:Std.Legacy.Range).size 1) c f) Q E s;rw[hsz];exact wpAny_forIn_list f I Q turn fin _ c h
theorem tuple_indexAt(l:Addr)(items:Array Value)(n:Nat)(dd:Option Addr)(sl:Array (Option Value))(x:Value)(e:Value->Bool)(j:Nat)(hj:j<items.size)(hit:e items[j]=true)(hno: ∀m (hm:m<items.size),m<j->e items[m]=false):
 Meets (Builtin.«tuple.index» ⟨[.ref l,x],[]⟩)
  (λA R s=>s.heap.get? l=some {cls:=.type "tuple",dict:=dd,data:=.seq items n,slots:=sl}/\(∀y,y∈items->EqAt A.in1 s y x (e y))/\R (.ok (.ret (.int j s.toks))) {s with toks:=s.toks+1}):=
 .of_wp λprog w A R s h=>by
  obtain⟨hp,g,d,tk,os⟩:=s;obtain⟨hl,he,h⟩:=h
  wp_walk using wpAny_loadPart' hl,kR _ (λrest b s'=>b.1=none/\s'=⟨hp,g,d,tk,os⟩/\ ∃i,i<=j/\rest=List.range' i (items.size-i)) _
  case turn=>
   rintro y rest b s' ⟨hb,rfl,i,hij,hz⟩
   have lt:i<items.size:=by omega
   have er:List.range' i (items.size-i)=i::List.range' (i+1) (items.size- (i+1)):=by
    rw[show items.size-i=(items.size- (i+1))+1 by omega];rfl
   rw[er] at hz;injection hz with e1 e2
   subst e1 e2;rw[show items[y]? =some items[y] by simp[lt]]
   refine wpAny_bind (he _ (Array.getElem_mem lt) prog w _ _ ?_)
   by_cases ej:y=j
   ·subst ej
    rw[hit]
    wp_walk
    exact⟨_,rfl,h⟩
   ·rw[hno y lt (by omega)]
    wp_walk
    exact⟨rfl,rfl,y+1,by omega,rfl⟩
  case fin=>
   rintro⟨b1,b2⟩ s' ⟨hb,rfl,i,hij,hz⟩
   have:=congrArg List.length hz
   simp at this;omega
  case h=>
   exact⟨rfl,rfl,0,Nat.zero_le _,by simp⟩
end PySem.SeqAt
namespace L2
open PySem PySem.Spec PyProof.Rows
def Ac(ds:List D)(x:D):Option Nat:=ds.findIdx? λd=>b6 d x
theorem zQ {X:Cx}{aa:List (Addr×Obj)}{σ:St}{H:Hp}{s:Shared}(I:Inv X aa σ H s){x:D}{v:V}{a:Value}{A:Around}(hx:Rep X.K H v x)(ra:RelV v a): ∀ {ds:List D} {xs:List V} {its:List Value},Reps X.K H xs ds->Vals xs its->A.units+cE ds<cLine->
 ∃e:Value->Bool,(∀y,y∈its->SeqAt.EqAt A s y a (e y))/\ ∀(j:Nat) (hj:j<its.length) (d:D),ds[j]? =some d->e its[j]=b6 d x:=by
 intro ds xs its r rv hu
 classical
 let e:Value->Bool:=λy=>if h: ∃(d:D) (u:V),RelV u y/\Rep X.K H u d then b6 h.choose x else false
 have key: ∀y u d,RelV u y->Rep X.K H u d->e y=b6 d x:=λy u d h1 h2=>by
  have hex: ∃(d:D) (u:V),RelV u y/\Rep X.K H u d:=⟨d,u,h1,h2⟩
  show(if h: ∃(d:D) (u:V),RelV u y/\Rep X.K H u d then b6 h.choose x else false)=b6 d x
  rw[dif_pos hex];obtain⟨u',s1,s2⟩:=hex.choose_spec
  have eu:u'=u:=s1.inj h1
  rw[eu] at s2;exact Rep.eqv I s2 h2 x
 have l1:=rv.length
 have l2:=r.length
 have at': ∀(j:Nat) (hj:j<its.length),∃u d,ds[j]? =some d/\RelV u its[j]/\Rep X.K H u d:=λj hj=>by
  have ex:xs[j]? =some xs[j]:=List.getElem?_eq_getElem (by omega)
  obtain⟨w,e1,r1⟩:=rv.get ex
  obtain⟨d,e2,r2⟩:=r.get' ex
  have:its[j]=w:=by rw[List.getElem?_eq_getElem hj] at e1;exact Option.some.inj e1
  rw[this];exact⟨_,d,e2,r1,r2⟩
 refine⟨e,λy hy=>?_,λj hj d hd=>?_⟩
 ·obtain⟨j,hj,rfl⟩:=List.mem_iff_getElem.mp hy
  obtain⟨u,d,e1,r1,r2⟩:=at' j hj
  rw[key _ _ _ r1 r2];have:=jq e1
  exact kl I (cM d+1) (Nat.lt_succ_self _) (by omega) r1 ra r2 hx
 ·obtain⟨u,d',e1,r1,r2⟩:=at' j hj
  rw[hd] at e1;cases e1;exact key _ _ _ r1 r2
section
variable {X:Cx}{c:Ct}{e o:Expr}{k k2:Kd}{f g:FE}{pos p p2 apos:Pos}
theorem qS(hu:X.A.units+64<cLine):E6 X "tuple.index" (λv vs H Q=> ∃a xs ds x y j,v=.ref a/\vs=[x]/\SqT X.K H a xs/\Reps X.K H xs ds/\Rep X.K H x y/\cE ds<=32/\Ac ds y=some j/\Q (.int j) H):=by
 intro aa s σ H v vs u us Q I rv rs h;obtain⟨a,xs,ds,x,y,j,rfl,rfl,h1,h2,h3,h4,h5,q⟩:=h
 cases rv
 obtain⟨w,rfl,rw'⟩:=dU rs
 obtain⟨its,r,pl,hz⟩:=I.tuple h1
 have l1:=r.length
 have l2:=h2.length
 obtain⟨e,g1,g2⟩:=zQ (A:=X.A.in1.in1) I h3 rw' h2 r (by rw[cq,cq];omega)
 unfold Ac at h5;rw[List.findIdx?_eq_some_iff_getElem] at h5;obtain⟨hj,hp,hno⟩:=h5
 obtain⟨⟨cls,dd,data,sl⟩,ho,hc,n,hd⟩:=id pl
 simp only at hc hd;subst hc hd;have hj':j<its.length:=by omega
 have gt: ∀m (hm:m<its.length) (hm2:m<ds.length),e its[m]=b6 ds[m] y:=λm hm hm2=>g2 m hm _ (List.getElem?_eq_getElem hm2)
 refine call_meets PySem.F.slot_tuple_index ⟨_,ho,rfl⟩ PySem.F.entry_tuple_index (PySem.F.args_tuple_index_2 _ _) (SeqAt.tuple_indexAt a its.toArray n dd sl w e j (by simpa using hj') ?_ ?_) ⟨ho,?_,?_⟩
 ·simp only[List.getElem_toArray];rw[gt j hj' hj];exact hp
 ·intro m hm hmj
  simp only[List.getElem_toArray];rw[gt m (by simpa using hm) (by omega)]
  have:=hno m hmj
  simpa using this
 ·intro z hz'
  exact SeqAt.EqAt.of_in1 (g1 z (by simpa using hz'))
 ·exact⟨.int j,H,I.tok _,⟨_,rfl⟩,q⟩
end
section
variable {X:Cx}{c:Ct}{e o:Expr}{k k2:Kd}{f g:FE}{pos p p2 apos:Pos}
def yr:D->D->Option D:=λt x=>match t with
 | .tup ds=>if cE ds<=32 then(Ac ds x).map λj=>.int j else none
 |_=>none
theorem qo(hu:X.A.units+64<cLine)(ho:DP X c k o f)(he:DP X c k2 e g)
 (hbase:attributeBase o "index" X.env (eval o X.env)=eval o X.env:=by rfl)
 (hfew:((backTo pos (starEach [e] X.env)).all (λx=> !x.1)&&(backToKw pos (keywordEach [] X.env)).all (λx=>x.1.isSome)
   &&decide (([e]:List Expr).length+([]:List Keyword).length+(if([]:List Keyword).isEmpty then 0 else 1)<30))=true:=by rfl)
 (hline:(apos.endLine==pos.line)=true:=by rfl) (hs:starEach [e] X.env=(false,eval e X.env)::starEach [] X.env:=by rfl) (hplain:(backTo pos (starEach [] X.env)).any (·.1)=false:=by rfl):
 DP X c .s (.Call (.Attribute o "index" apos) [e] [] pos) (au yr f g):=λhid ρ=>
 PE.imp (qX PySem.F.plainAttrs_tuple PySem.F.slot_tuple_index PySem.F.type_tuple_index (qS hu) (ho hid ρ) (a8 (he hid ρ) bJ hs) hbase hfew hline hs hplain) λσ H Q hq_=>by
  obtain⟨sr,d,hd,q⟩:=hq_
  obtain⟨x,y,e1,e2,e3⟩:=me hd
  unfold yr at e3;split at e3
  ·split at e3
   ·rename_i ds _
    cases e4:Ac ds y with
    |none=>rw[e4] at e3;cases e3
    |some j=>
     rw[e4] at e3;cases e3;refine⟨sr,_,e1,λv H1 s1 r1=>?_⟩
     have b1:=RK.b k r1 λa n=>sr.fresh n
     obtain⟨a,xs,rfl,t1,t2,t3⟩:=b1.tup
     refine⟨.inr (.inl ⟨rfl,xs,t2⟩),sr.ext s1,y,e2,λu H2 s2 r2=>?_⟩
     have b2:=RK.b k2 r2 λa n=>(sr.ext s1).fresh n
     exact⟨a,xs,ds,u,y,j,rfl,rfl,Same.seqT s2 t2,(t3.mono (aw s2)).mono (bt _ _),b2.full, ‹_›,e4,q _ H2 (s1.trans s2) .int⟩
   ·cases e3
  ·cases e3
theorem vY:bU X (.type "range") (λxs H Q=> ∃j:Int,xs=[.int j]/\ ∀p,H p=none->Q (.ref p) (aV H p (.rng 0 j))):=by
 intro aa s σ H xs us Q I r h;obtain⟨j,rfl,q⟩:=h
 obtain⟨u,rfl,t,rfl⟩:=dU r
 refine call_range_1 ⟨.ref s.heap.objs.size,_,I.laid (λb o e=>Heap.get?_push_of_some _ e) (Nat.le_refl _) ?_,rfl,q _ (I.hok.fresh (Nat.le_refl _))⟩
 exact⟨_,_,_,Heap.get?_push_size _ rfl⟩
theorem D7(lo:Int)(n:Nat): ∀ {K:W.Frag} {F:Hp},Reps K F ((List.range n).map λ(i:Nat)=>V.int (lo+i)) (wl lo n):=by
 intro K F;unfold wl
 generalize List.range n=l
 induction l with
 |nil=>exact .nil
 |cons a l ih=>exact .cons .int ih
theorem mS(hc:X.calm=true):bU X (.type "list") (λxs H Q=> ∃p lo hi,xs=[.ref p]/\H p=some (.rng lo hi)/\ -(2^30)<=lo/\lo<=2^30/\ -(2^30)<=hi/\hi-lo<=1000000/\hi<=2^31/\ ∀l,H l=none->Q (.ref l) (aV H l (.lst ((List.range (hi-lo).toNat).map λ(i:Nat)=>V.int (lo+i))))):=by
 intro aa s σ H xs us Q I r h;obtain⟨p,lo,hi,rfl,hp,b1,b2,b3,b4,b5,q⟩:=h
 obtain⟨u,rfl,rx⟩:=dU r
 cases rx
 obtain⟨t,u,v,hr⟩:=I.hok p _ hp
 have hsz:Builtin.Range.rangeSize lo hi 1=(hi-lo).toNat:=by
  unfold Builtin.Range.rangeSize;rw[if_pos (by decide)]
  split
  ·rw[Int.ediv_one];omega
  ·omega
 refine call_list_range (a:=lo) (b:=hi) (c:=1) (n:=(hi-lo).toNat) (I.ok.hd hc) hr ?_ hsz (by omega) λh' tk acc' c' kp hS hacc=>?_
 ·exact small_one (by omega) (by omega) (by omega) (by omega)
 ·have hz:(hi-lo).toNat<=sizeLine:=by rw[sizeLine_eq];omega
  refine⟨.ref s.heap.objs.size,_,I.laid (t':=tk) kp (Nat.le_refl _) (show ObjOk X.prog X.w _ h' _ (.lst _) from⟨by simpa using hz,acc'.toList,c',?_,by simpa using hS⟩),rfl,q _ (I.hok.fresh (Nat.le_refl _))⟩
  obtain⟨ha,hb⟩:=hacc
  have key: ∀(l:List Value) (k m:Nat),l.length=m->(∀(j:Nat) v,l[j]? =some v-> ∃t,v=.int (lo+((k+j:Nat):Int)*1) t)->Vals ((List.range' k m).map λ(i:Nat)=>V.int (lo+i)) l:=by
   intro l
   induction l with
   |nil=>intro k m hm _;subst hm;exact .nil
   |cons x l ih=>
    intro k m hm hv;subst hm;rw[List.length_cons,List.range'_succ];refine .cons ?_ (ih (k+1) l.length rfl λj v e=>?_)
    ·obtain⟨t,rfl⟩:=hv 0 x rfl
     exact⟨t,by simp⟩
    ·obtain⟨t,rfl⟩:=hv (j+1) v (by simpa using e)
     exact⟨t,by congr 3;omega⟩
  have:=key acc'.toList 0 (hi-lo).toNat (by simpa using ha) λj v e=>by
   have:=hb j v (by simpa using e)
   simpa using this
  rw[List.range_eq_range'];exact this
def C8:D->Option D
 | .int j=>if j.natAbs<=1000000 then some (.lst (wl 0 j.toNat)) else none
 |_=>none
def Ga(f:FE):FE:=λρ=>(f ρ).bind C8
theorem mQ(hc:X.calm=true)(hml:X.mg "list"=none)(hmr:X.mg "range"=none)(he:DP X c k e f)(hgl:Gl X "list":=by rfl)(hgr:Gl X "range":=by rfl)(hvl:bootBuiltins "list"=some (.type "list"):=by kernel_rfl)(hvr:bootBuiltins "range"=some (.type "range"):=by kernel_rfl)
 (hs1:starEach [e] X.env=(false,eval e X.env)::starEach [] X.env:=by rfl) (hpl1:(backTo pos (starEach [] X.env)).any (·.1)=false:=by rfl) (hpl2:(backTo p2 (starEach [] X.env)).any (·.1)=false:=by rfl) {p3:Pos}
 (hs2:starEach [.Call (.Name "range" p3) [e] [] p2] X.env=(false,eval (.Call (.Name "range" p3) [e] [] p2) X.env)::starEach [] X.env:=by rfl):
 DP X c .n (.Call (.Name "list" p) [.Call (.Name "range" p3) [e] [] p2] [] pos) (Ga f):=λhid ρ=>
 PE.imp (fq (mS hc) hgl hml hvl (a8 (fq vY hgr hmr hvr (a8 (he hid ρ) bJ hs1) (by decide) (by decide) hs1 hpl2) bJ hs2) (by decide) (by decide) hs2 hpl1) λσ H Q hq_=>by
  obtain⟨sr,d,hd,q⟩:=hq_
  unfold Ga at hd;cases e1:f ρ with
  |none=>rw[e1] at hd;cases hd
  |some z=>
   rw[e1] at hd;have hd:C8 z=some d:=hd
   unfold C8 at hd;split at hd
   ·split at hd
    ·rename_i _ j _ _
     cases hd
     refine⟨sr,_,e1,λv H1 s1 r1=>?_⟩
     have b1:=(RK.b k r1 λa n=>sr.fresh n).int
     cases b1
     refine⟨j,rfl,λr hr=>?_⟩
     refine⟨r,0,j,rfl,aA,by omega,by omega,by omega,by omega,by omega,λl hl=>?_⟩
     have s2:Same H (aV H1 r (.rng 0 j)):=s1.trans (aC hr _)
     refine q _ _ (s2.trans (aC hl _)) ?_
     have:=c8 (hid:=hid) (K:=X.K) hl s2 (D7 0 (j-0).toNat)
     rw[show(j-0).toNat=j.toNat by omega] at this⊢
     exact this
    ·cases hd
   ·cases hd
def bI:=i2 (λ_ _=>true) λi j=>.int (i+j)
def gg:=i2 (λ_ _=>true) λi j=>.int (i-j)
def ck:=i2 (λi j=>decide (i.natAbs<2^1000)&&decide (j.natAbs<2^1000)) λi j=>.int (i*j)
def bj:=i2 (λ_ j=>decide (0<j)) λi j=>.int (i % j)
def cn:=i2 (λ_ j=>decide (0<j)&&decide (j.natAbs<2^1000)) λi j=>.int (i / j)
def cy:=i2 (λi j=>decide (0<=j)&&decide (j<=1000000)&&decide (i.natAbs<2^64)) λi j=>.int (i^j.toNat)
def zm:=i2 (λ_ _=>true) λi j=>.bl (decide (i<j))
def BB:=i2 (λ_ _=>true) λi j=>.bl (decide (j<i))
def Fh:=i2 (λ_ _=>true) λi j=>.bl (decide (j<=i))
theorem uP {i:Int}(h:i.natAbs<2^1000):Builtin.Int.intBits i<=2^20:=by
 unfold Builtin.Int.intBits;split
 ·exact Nat.zero_le _
 ·rename_i hz
  have h0:i.natAbs≠0:=by simp at hz;omega
  have:=(Nat.log2_lt h0).mpr h
  omega
theorem As:jD X (binaryOp .Mult) (rI IntMulOk λi j=>.int (i*j)):=Fc λ_ _ _ _ _ _ _ hc q=>mul_int q hc
variable {a b:Expr}
theorem bT {k1 k2:Kd}(ha:DP X c k1 a f)(hb:DP X c k2 b g):DP X c .s (.BinOp a .Add b pos) (au bI f g):=kA wT u0 ha hb
theorem gM {k1 k2:Kd}(ha:DP X c k1 a f)(hb:DP X c k2 b g):DP X c .s (.BinOp a .Sub b pos) (au gg f g):=kA xu u0 ha hb
theorem CM {K:W.Frag}:mL K .s (rI IntMulOk λi j=>.int (i*j)) ck:=Ag λi j h=>by
 simp only[Bool.and_eq_true,decide_eq_true_eq] at h;exact IntMulOk.of_bits (uP h.1) (uP h.2)
theorem gI {k1 k2:Kd}(ha:DP X c k1 a f)(hb:DP X c k2 b g):DP X c .s (.BinOp a .Mult b pos) (au ck f g):=kA As CM ha hb
theorem Cj {K:W.Frag}:mL K .s (rI (λ_ j=>0<j) λi j=>.int (i % j)) bj:=Ag λi j h=>by simpa using h
theorem cz {k1 k2:Kd}(ha:DP X c k1 a f)(hb:DP X c k2 b g):DP X c .s (.BinOp a .Mod b pos) (au bj f g):=kA Ca Cj ha hb
theorem yd:jD X (binaryOp .FloorDiv) (rI (λ_ j=>0<j/\j.natAbs<2^1000) λi j=>.int (i / j)):=Fc λi j _ _ _ _ _ hc q=>by
 obtain⟨h1,h2⟩:=hc
 refine floordiv_int (by omega) (by rw[Int.fdiv_eq_ediv_of_nonneg i (by omega)];exact q) (.inl (PyProof.noPylong_of_log2 ?_))
 have:=(Nat.log2_lt (n:=j.natAbs) (by omega)).mpr h2
 omega
theorem zv {K:W.Frag}:mL K .s (rI (λ_ j=>0<j/\j.natAbs<2^1000) λi j=>.int (i / j)) cn:=Ag λi j h=>by
 simp only[Bool.and_eq_true,decide_eq_true_eq] at h;exact⟨h.1,h.2⟩
theorem gX {k1 k2:Kd}(ha:DP X c k1 a f)(hb:DP X c k2 b g):DP X c .s (.BinOp a .FloorDiv b pos) (au cn f g):=kA yd zv ha hb
theorem BP {K:W.Frag}:mL K .s (rI EM λi j=>.int (i^j.toNat)) cy:=Ag λi j h=>by
 simp only[Bool.and_eq_true,decide_eq_true_eq] at h;exact⟨h.1.1,h.1.2,h.2⟩
theorem jJ {k1 k2:Kd}(ha:DP X c k1 a f)(hb:DP X c k2 b g):DP X c .s (.BinOp a .Pow b pos) (au cy f g):=kA Cy BP ha hb
theorem B7 {f g:GE}(ha:DE X c .s a f)(hb:DE X c .s b g):DE X c .s (.BinOp a .Add b pos) (eX bI f g):=Bk wT u0 ha hb
theorem x0 {f g:GE}(ha:DE X c .s a f)(hb:DE X c .s b g):DE X c .s (.BinOp a .Sub b pos) (eX gg f g):=Bk xu u0 ha hb
def BJ:D->Option D
 | .int i=>some (.int (-i))
 |_=>none
def qW(f:FE):FE:=λρ=>(f ρ).bind BJ
theorem hW(ha:DP X c k a f):DP X c .s (.UnaryOp .USub a pos) (qW f):=λhid ρ=>PE.imp (Eu CQ (ha hid ρ)) λσ H Q hq_=>by
 obtain⟨sr,d,hd,q⟩:=hq_
 unfold qW at hd;cases e1:f ρ with
 |none=>rw[e1] at hd;cases hd
 |some z=>
  rw[e1] at hd;have hd:BJ z=some d:=hd
  unfold BJ at hd;split at hd
  ·cases hd
   refine⟨sr,_,e1,λv H1 s1 r1=>?_⟩
   cases (RK.b k r1 λa n=>sr.fresh n).int
   exact⟨_,rfl,q _ H1 s1 .int⟩
  ·cases hd
end
structure Cl(P:Program)(w:World)(K:W.Frag)(mg:Str->Option Value)(base:Heap)(k:Nat)(x:Str)(ps:List Str)(sp:Sp):Prop where
 ex: ∃f fd,FnOk P w K mg base pN k f fd ps sp/\mg x=some (.ref f)/\W.keepIn K (.ref f)=true/\Binds K fd ps []
structure Df(K:W.Frag)(mg:Str->Option Value)(x:Str)(st:Stmt)(ps:List Str):Prop where
 ex: ∃f fd,Fun K x x st f fd/\mg x=some (.ref f)/\Binds K fd ps []
section
variable {P:Program}{w:World}{K:W.Frag}{mg:Str->Option Value}{base:Heap}{x:Str}{st:Stmt}{N ps:List Str}{k n:Nat}{t:FS}{kd:Kd}
theorem aH(F:Df K mg x st ps)(S:FnScope N ps (al st))(hkd:kd≠ .b)(hn:ps.length=n)
 (body: ∀(f:Addr) (cdv:Value) (A:Around) (outer:List Env) (s:Shared) (H:Hp) (hid:aX) (E:XK),Room k (A.deeper (envOfC x (al st) s.heap.objs.size f cdv))->
   rY (m9 pN P w K mg base N x (al st) f cdv A outer s H E).nox ⟨H,hid,λ_=>false⟩ kd (bR st) t):
 Cl P w K mg base (k+1) x ps (bq K kd n (dX kd N.length t)):=by
 obtain⟨f,fd,F,hm,hb⟩:=F.ex
 subst hn;exact⟨f,fd,vh F S hkd (body f),hm,F.kp,hb⟩
theorem yS(F:Df K mg x st ps)(S:FnScope N ps (al st))(hkd:kd≠ .b)(hn:ps.length=n+1)
 (body: ∀(f:Addr) (cdv:Value) (A:Around) (outer:List Env) (s:Shared) (H:Hp) (hid:aX) (a:Addr) (E:XK),Room k (A.deeper (envOfC x (al st) s.heap.objs.size f cdv))->
   rY (m9 pN P w K mg base N x (al st) f cdv A outer s H E).nox ⟨H,hid,λb=>decide (b=a)⟩ kd (bR st) t):
 Cl P w K mg base (k+1) x ps (wM K kd n (AU kd N.length t)):=by
 obtain⟨f,fd,F,hm,hb⟩:=F.ex
 exact⟨f,fd,Db F S hkd hn (body f),hm,F.kp,hb⟩
end
section
variable {X:Cx}{c:Ct}{e a b:Expr}{es rest:List Expr}{k:Kd}{pos p:Pos}{x:Str}{ps:List Str}{j n:Nat}
def nF(n:Nat)(P:List D->Option D):List D->Option D:=λds=>if ds.length=n then P ds else none
theorem aJ {P:List D->Option D}{fs:FA}(C:Cl X.prog X.w X.K X.mg X.base j x ps (bq X.K k n P))(hr:Room j X.A)
 (ha:DA X c (e::es) fs) (hg:Gl X x:=by rfl) (hdb:(x==("__debug__":Str))=false:=by decide) (he:starEach (e::es) X.env=(false,eval e X.env)::starEach es X.env:=by rfl) (hpl:(backTo pos (starEach es X.env)).any (·.1)=false:=by rfl):
 DP X c k (.Call (.Name x p) (e::es) [] pos) (am (nF n P) fs):=by
 obtain⟨f,fd,F,hm,hk,hb⟩:=C.ex
 exact AF F hr hm hk hb ha hg hdb he hpl
theorem qf(i:Nat){y:Str}{py:Pos}{M:List D->List D->Option (D×List D)}{fs:GA}(C:Cl X.prog X.w X.K X.mg X.base j x ps (wM X.K k n M))(hr:Room j X.A)
 (ha:DG X c es fs) (hkb:k≠ .b:=by decide) (hN:X.N[i]? =some y:=by rfl) (hv:lR X.env.scope y:=by first|exact Or.inl rfl|exact Or.inr (Or.inl rfl)|exact Or.inr (Or.inr rfl)) (hd:(y==("__debug__":Str))=false:=by decide)
 (hcd:(y==("__classdict__":Str))=false:=by decide) (hs:starEach (.Name y py::es) X.env=(false,eval (.Name y py) X.env)::starEach es X.env:=by rfl) (hg:Gl X x:=by rfl) (hdb:(x==("__debug__":Str))=false:=by decide) (hpl:(backTo pos (starEach es X.env)).any (·.1)=false:=by rfl):
 DE X c k (.Call (.Name x p) (.Name y py::es) [] pos) (bN i n M fs):=by
 obtain⟨f,fd,F,hm,hk,hb⟩:=C.ex
 exact xQ i F hr hm hk hb ha hkb hN hv hd hcd hs hg hdb hpl
theorem BQ {M:List D->List D->Option (D×List D)}{g:FE}{fs:FA}(C:Cl X.prog X.w X.K X.mg X.base j x ps (wM X.K k n M))(hr:Room j X.A)
 (h1:DP X c .n e g) (ha:DA X c es fs) (hkb:k≠ .b:=by decide) (hs:starEach (e::es) X.env=(false,eval e X.env)::starEach es X.env:=by rfl) (hg:Gl X x:=by rfl) (hdb:(x==("__debug__":Str))=false:=by decide) (hpl:(backTo pos (starEach es X.env)).any (·.1)=false:=by rfl):
 DP X c k (.Call (.Name x p) (e::es) [] pos) (lD n M g fs):=by
 obtain⟨f,fd,F,hm,hk,hb⟩:=C.ex
 exact xm F hr hm hk hb h1 ha hkb hs hg hdb hpl
end
open PySem PySem.W PyProof.Rows
structure Od(b:Nat->Nat->Bool):Prop where
 tr: ∀ {i j k:Nat},b j i=false->b k j=false->b k i=false
 as: ∀ {i j:Nat},b i j=true->b j i=false
theorem Od.rf {b:Nat->Nat->Bool}(O:Od b)(i:Nat):b i i=false:=by
 cases h:b i i with
 |false=>rfl
 |true=>have:=O.as h;rw[h] at this;exact this
structure Pm(N:Nat)(p:Array Nat):Prop where
 perm:p.Perm (List.toArray (List.range N))
theorem Pm.size {N:Nat}{p:Array Nat}(h:Pm N p):p.size=N:=by rw[h.perm.size_eq];simp
theorem Pm.lt {N:Nat}{p:Array Nat}(h:Pm N p)(hN:0<N)(k:Nat):p.getD k 0<N:=by
 by_cases hk:k<p.size
 ·have e:p.getD k 0=p[k]:=by simp[Array.getD,hk]
  rw[e];have:p[k]∈(List.toArray (List.range N)):=h.perm.mem_iff.mp (Array.getElem_mem hk)
  simpa using this
 ·have e:p.getD k 0=0:=by simp[Array.getD,hk]
  rw[e];exact hN
theorem qM {p q:Array Nat}{i j:Nat}(h:p[i]? =q[j]?):p.getD i 0=q.getD j 0:=by
 rw[Array.getD_eq_getD_getElem?,Array.getD_eq_getD_getElem?,h]
section
variable {b:Nat->Nat->Bool}{N:Nat}{cmp:Nat->Nat->(Bool->Shared->Prop)->Shared->Prop}{s:Shared}
def Srt(b:Nat->Nat->Bool)(p:Array Nat)(n:Nat):Prop:= ∀i j,i<=j->j<n->b (p.getD j 0) (p.getD i 0)=false
def Fal(b:Nat->Nat->Bool)(p:Array Nat)(n:Nat):Prop:= ∀i j,i<=j->j<n->b (p.getD i 0) (p.getD j 0)=false
theorem Srt.succ(O:Od b){p:Array Nat}{n:Nat}(h:Srt b p n)(hn:1<=n)(e:b (p.getD n 0) (p.getD (n-1) 0)=false):Srt b p (n+1):=λi j hij hj=>by
 by_cases h1:j<n
 ·exact h i j hij h1
 ·have:j=n:=by omega
  subst this
  by_cases h2:i=j
  ·subst h2;exact O.rf _
  ·exact O.tr (h i (j-1) (by omega) (by omega)) e
theorem Fal.succ(O:Od b){p:Array Nat}{n:Nat}(h:Fal b p n)(hn:1<=n)(e:b (p.getD (n-1) 0) (p.getD n 0)=false):Fal b p (n+1):=λi j hij hj=>by
 by_cases h1:j<n
 ·exact h i j hij h1
 ·have:j=n:=by omega
  subst this
  by_cases h2:i=j
  ·subst h2;exact O.rf _
  ·exact O.tr e (h i (j-1) (by omega) (by omega))
theorem Fal.congr(O:Od b){p q:Array Nat}{n:Nat}(h:Fal b p n)(e: ∀k,k<n->b (p.getD k 0) (q.getD k 0)=false/\b (q.getD k 0) (p.getD k 0)=false):Fal b q n:=λi j hij hj=>
 O.tr (O.tr (e j hj).1 (h i j hij hj)) (e i (by omega)).2
theorem zR(O:Od b)(p:Array Nat):Srt b p 1:=λi j hij hj=>by
 have:i=j:=by omega
 subst this;exact O.rf _
theorem zC(O:Od b)(p:Array Nat):Fal b p 1:=λi j hij hj=>by
 have:i=j:=by omega
 subst this;exact O.rf _
theorem jG {p:Array Nat}{i j:Nat}(hj:j<=p.size)(k:Nat):(kas_rev p i j).getD k 0=if i<=k/\k<j then p.getD (i+j-1-k) 0 else p.getD k 0:=by
 have:=getElem?_mirror_all (i:=i) hj k
 unfold kas_rev;split
 ·rename_i h;rw[if_pos h] at this;exact qM this
 ·rename_i h;rw[if_neg h] at this;exact qM this
theorem Pm.rev {p:Array Nat}(h:Pm N p)(i j:Nat):Pm N (kas_rev p i j):=⟨(mirror_perm _ _ _ _).trans h.perm⟩
variable(O:Od b)(hN:0<N)(hc: ∀(i j:Nat) (C:Bool->Shared->Prop),i<N->j<N->C (b i j) s->cmp i j C s)
include O hN hc
theorem sG {p:Array Nat}(P:Pm N p){Q:Nat->Shared->Prop}: ∀(f n:Nat),1<=n->n+f<=N->Srt b p n->
 (∀m,n<=m->m<=n+f->Srt b p m->(m<n+f->b (p.getD m 0) (p.getD (m-1) 0)=true)->Q m s)->(kas_asc p f n).kasWp cmp Q s
 |0,n,h1,h2,hs,q=>q n (Nat.le_refl _) (Nat.le_refl _) hs λz=>absurd z (Nat.lt_irrefl _)
 |f+1,n,h1,h2,hs,q=>by
  unfold kas_asc;refine hc _ _ _ (P.lt hN _) (P.lt hN _) ?_
  cases e:b (p.getD n 0) (p.getD (n-1) 0) with
  |true=>simp only[if_true];exact q n (Nat.le_refl _) (by omega) hs λ_=>e
  |false=>
   simp only[Bool.false_eq_true,if_false];exact sG P f (n+1) (by omega) (by omega) (hs.succ O h1 e) λm a1 a2 a3 a4=>q m (by omega) (by omega) a3 λz=>a4 (by omega)
def Eqs(b:Nat->Nat->Bool)(p:Array Nat)(n q:Nat):Prop:= ∀i,n- (q+1)<=i->i<n->b (p.getD i 0) (p.getD (n-1) 0)=false/\b (p.getD (n-1) 0) (p.getD i 0)=false
omit hN hc in
theorem Eqs.rev {p:Array Nat}{n q:Nat}(hn:n<=p.size)(hq:q<n)(h:Eqs b p n q)(k:Nat):b (p.getD k 0) ((kas_rev p (n- (q+1)) n).getD k 0)=false/\b ((kas_rev p (n- (q+1)) n).getD k 0) (p.getD k 0)=false:=by
 rw[jG hn];split
 ·rename_i hk
  have h1:=h k hk.1 hk.2
  have h2:=h (n- (q+1)+n-1-k) (by omega) (by omega)
  exact⟨O.tr h2.2 h1.1,O.tr h1.2 h2.1⟩
 ·exact⟨O.rf _,O.rf _⟩
theorem k9 {Q:Array Nat×Nat×Nat->Shared->Prop}: ∀(f:Nat) (p:Array Nat) (n q:Nat),Pm N p->1<=n->n+f<=N->q<n->Fal b p n->Eqs b p n q->
 (∀p' n' q',Pm N p'->n<=n'->n'<=n+f->q'<n'->Fal b p' n'->Eqs b p' n' q'->Q (p',n',q') s)->(kas_desc f p n q).kasWp cmp Q s
 |0,p,n,q,P,h1,h2,hq,hf,he,k=>k p n q P (Nat.le_refl _) (Nat.le_refl _) hq hf he
 |f+1,p,n,q,P,h1,h2,hq,hf,he,k=>by
  have hz:=P.size
  have e0: ∀p':Array Nat,Eqs b p' (n+1) 0:=λp' i a1 a2=>by
   have:i=n:=by omega
   subst this;exact⟨O.rf _,O.rf _⟩
  unfold kas_desc;refine hc _ _ _ (P.lt hN _) (P.lt hN _) ?_
  cases e:b (p.getD n 0) (p.getD (n-1) 0) with
  |true=>
   simp only[if_true];split
   ·rename_i hq0
    have ev:=he.rev O (by omega) hq
    have hf':Fal b (kas_rev p (n- (q+1)) n) n:=hf.congr O λk _=>ev k
    refine k9 f _ (n+1) 0 (P.rev _ _) (by omega) (by omega) (by omega) (hf'.succ O h1 ?_) (e0 _) λp' n' q' a1 a2 a3=>k p' n' q' a1 (by omega) (by omega)
    have e1:(kas_rev p (n- (q+1)) n).getD n 0=p.getD n 0:=by rw[jG (by omega),if_neg (by omega)]
    rw[e1];exact O.tr (O.as e) (ev (n-1)).2
   ·exact k9 f p (n+1) 0 P (by omega) (by omega) (by omega) (hf.succ O h1 (O.as e)) (e0 _) λp' n' q' a1 a2 a3=>k p' n' q' a1 (by omega) (by omega)
  |false=>
   simp only[Bool.false_eq_true,if_false];refine hc _ _ _ (P.lt hN _) (P.lt hN _) ?_
   cases e2:b (p.getD (n-1) 0) (p.getD n 0) with
   |true=>simp only[if_true];exact k p n q P (Nat.le_refl _) (by omega) hq hf he
   |false=>
    simp only[Bool.false_eq_true,if_false];refine k9 f p (n+1) (q+1) P (by omega) (by omega) (by omega) (hf.succ O h1 e2) (λi a1 a2=>?_) λp' n' q' b1 b2 b3=>k p' n' q' b1 (by omega) (by omega)
    rw[show n+1-1=n by omega]
    by_cases hi:i=n
    ·subst hi;exact⟨O.rf _,O.rf _⟩
    ·have z:=he i (by omega) (by omega)
     exact⟨O.tr e2 z.1,O.tr z.2 e⟩
theorem rD {p:Array Nat}(P:Pm N p){n:Nat}(h1:1<=n)(hn:n<=N)(hf:Fal b p n){Q:Nat×Array Nat->Shared->Prop}(q: ∀m p',Pm N p'->1<=m->m<=N->Srt b p' m->Q (m,p') s):(kas_tail3 n N p).kasWp cmp Q s:=by
 unfold kas_tail3;rw[KasT.kasWp_bind];have hz:=P.size
 have hs:Srt b (kas_rev p 0 n) n:=λi j hij hj=>by
  rw[jG (by omega),jG (by omega),if_pos (by omega),if_pos (by omega)]
  exact hf _ _ (by omega) (by omega)
 exact sG O hN hc (P.rev _ _) (N-n) n h1 (by omega) hs λm a1 a2 a3 _=>q m _ (P.rev _ _) (by omega) (by omega) a3
theorem kC {p:Array Nat}(P:Pm N p){n:Nat}(h1:1<=n)(hn:n+1<=N)(hf:Fal b p (n+1)){Q:Nat×Array Nat->Shared->Prop}(q: ∀m p',Pm N p'->1<=m->m<=N->Srt b p' m->Q (m,p') s):(kas_descPart n N p).kasWp cmp Q s:=by
 unfold kas_descPart;rw[KasT.kasWp_bind];refine k9 O hN hc (N- (n+1)) p (n+1) 0 P (by omega) (by omega) (by omega) hf (λi a1 a2=>?_) λp' n' q' a1 a2 a3 a4 a5 a6=>?_
 ·have:i=n:=by omega
  subst this;exact⟨O.rf _,O.rf _⟩
 ·dsimp only
  have hz:=a1.size
  split
  ·exact rD O hN hc (a1.rev _ _) (by omega) (by omega) (a5.congr O λk _=>a6.rev O (by omega) a4 k) q
  ·exact rD O hN hc a1 (by omega) (by omega) a5 q
theorem yT {p:Array Nat}(P:Pm N p){Q:Nat×Array Nat->Shared->Prop}(q: ∀m p',Pm N p'->1<=m->m<=N->Srt b p' m->Q (m,p') s):(kas_count N p).kasWp cmp Q s:=by
 unfold kas_count;rw[KasT.kasWp_bind];have hz:=P.size
 refine sG O hN hc P (N-1) 1 (Nat.le_refl _) (by omega) (zR O p) λm a1 a2 a3 a4=>?_
 split
 ·exact q m p P a1 (by omega) a3
 ·rename_i hm
  have hm':m≠N:=by simpa using hm
  have lt:=a4 (by omega)
  split
  ·refine hc _ _ _ (P.lt hN _) (P.lt hN _) ?_
   cases e:b (p.getD 0 0) (p.getD (m-1) 0) with
   |true=>simp only[if_true];exact q m p P a1 (by omega) a3
   |false=>
    simp only[Bool.false_eq_true,if_false];have eq: ∀i j,i<m->j<m->b (p.getD i 0) (p.getD j 0)=false:=λi j hi hj=>O.tr (O.tr (a3 j (m-1) (by omega) (by omega)) e) (a3 0 i (by omega) hi)
    have hr: ∀i,i<m->(kas_rev p 0 m).getD i 0=p.getD (0+m-1-i) 0:=λi hi=>by rw[jG (by omega),if_pos (by omega)]
    refine kC O hN hc (P.rev _ _) a1 (by omega) (Fal.succ O (λi j hij hj=>?_) a1 ?_) q
    ·rw[hr i (by omega),hr j hj];exact eq _ _ (by omega) (by omega)
    ·have e1:(kas_rev p 0 m).getD m 0=p.getD m 0:=by rw[jG (by omega),if_neg (by omega)]
     rw[e1,hr (m-1) (by omega)]
     exact O.tr (O.as lt) (eq _ _ (by omega) (by omega))
  ·have:m=1:=by omega
   subst this;exact kC O hN hc P (Nat.le_refl _) (by omega) ((zC O p).succ O (Nat.le_refl _) (O.as lt)) q
theorem lh {p:Array Nat}(P:Pm N p){k:Nat}(hs:Srt b p k){Q:Nat->Shared->Prop}: ∀(f l r:Nat),l<=r->r<=k->r-l<=f->(∀i,i<l->b (p.getD k 0) (p.getD i 0)=false)->(∀i,r<=i->i<k->b (p.getD k 0) (p.getD i 0)=true)->
 (∀m,m<=k->(∀i,i<m->b (p.getD k 0) (p.getD i 0)=false)->(∀i,m<=i->i<k->b (p.getD k 0) (p.getD i 0)=true)->Q m s)->(kas_place p k f l r).kasWp cmp Q s
 |0,l,r,h1,h2,h3,a,c,q=>q l (by omega) a λi z=>c i (by omega)
 |f+1,l,r,h1,h2,h3,a,c,q=>by
  unfold kas_place;split
  ·exact q l (by omega) a λi z=>c i (by omega)
  ·rename_i hlr
   refine hc _ _ _ (P.lt hN _) (P.lt hN _) ?_
   cases e:b (p.getD k 0) (p.getD ((l+r) / 2) 0) with
   |true=>
    simp only[if_true];refine lh P hs f l _ (by omega) (by omega) (by omega) a (λi z1 z2=>?_) q
    cases e2:b (p.getD k 0) (p.getD i 0) with
    |true=>rfl
    |false=>
     have:=O.tr (hs ((l+r) / 2) i z1 z2) e2
     rw[e] at this;exact this.symm
   |false=>
    simp only[Bool.false_eq_true,if_false];exact lh P hs f _ r (by omega) (by omega) (by omega) (λi z=>O.tr (hs i ((l+r) / 2) (by omega) (by omega)) e) c q
omit hN hc in
theorem sW {p:Array Nat}{k m:Nat}(hk:k<p.size)(hs:Srt b p k)(hm:m<=k)(a: ∀i,i<m->b (p.getD k 0) (p.getD i 0)=false)(c: ∀i,m<=i->i<k->b (p.getD k 0) (p.getD i 0)=true):Srt b (bubble p k (k-m)) (k+1):=by
 have g: ∀j,(bubble p k (k-m)).getD j 0=if j=m then p.getD k 0 else if m<j/\j<=k then p.getD (j-1) 0 else p.getD j 0:=λj=>by
  have:=getElem?_bubble hk (k-m) (by omega) j
  rw[show k- (k-m)=m by omega] at this
  by_cases h:j=m
  ·rw[if_pos h] at this⊢;exact qM this
  ·rw[if_neg h] at this⊢
   by_cases h2:m<j/\j<=k
   ·rw[if_pos h2] at this⊢;exact qM this
   ·rw[if_neg h2] at this⊢;exact qM this
 intro i j hij hj;rw[g,g]
 by_cases ej:j=m
 ·rw[if_pos ej]
  by_cases ei:i=m
  ·rw[if_pos ei];exact O.rf _
  ·rw[if_neg ei,if_neg (by omega)];exact a i (by omega)
 ·rw[if_neg ej]
  by_cases ei:i=m
  ·rw[if_pos ei,if_pos (by omega)];exact O.as (c _ (by omega) (by omega))
  ·rw[if_neg ei]
   by_cases hj2:m<j/\j<=k
   ·rw[if_pos hj2]
    by_cases hi2:m<i/\i<=k
    ·rw[if_pos hi2];exact hs _ _ (by omega) (by omega)
    ·rw[if_neg hi2];exact hs _ _ (by omega) (by omega)
   ·rw[if_neg hj2,if_neg (by omega)];exact hs _ _ hij (by omega)
theorem yq {Q:Array Nat->Shared->Prop}: ∀(f:Nat) (p:Array Nat) (k:Nat),Pm N p->1<=k->k+f=N->Srt b p k->(∀p',Pm N p'->Srt b p' N->Q p' s)->(kas_bin f p k).kasWp cmp Q s
 |0,p,k,P,h1,h2,hs,q=>q p P (by rw[<-h2];exact hs)
 |f+1,p,k,P,h1,h2,hs,q=>by
  unfold kas_bin;rw[KasT.kasWp_bind];have hz:=P.size
  refine lh O hN hc P hs k 0 k (Nat.zero_le _) (Nat.le_refl _) (by omega) (λi z=>absurd z (by omega)) (λi z1 z2=>absurd z2 (by omega)) λm a1 a2 a3=>?_
  exact yq f _ (k+1) ⟨(bubble_perm _ _ _).trans P.perm⟩ (by omega) (by omega) (sW O (by omega) hs a1 a2 a3) q
theorem iZ {Q:Array Nat->Shared->Prop}(q: ∀p,Pm N p->Srt b p N->Q p s):(kas_sort N).kasWp cmp Q s:=by
 unfold kas_sort;rw[KasT.kasWp_bind];refine yT O hN hc ⟨Array.Perm.refl _⟩ λm p' P h1 h2 hs=>?_
 dsimp only;split
 ·exact yq O hN hc _ p' _ P (by omega) (by omega) (by rw[show max m 1=m by omega];exact hs) q
 ·have:m=N:=by omega
  subst this;exact q p' P hs
end
open PySem PySem.W PySem.Calls PyProof.Rows
section
variable {prog:Program}{w:World}{A:Around}{E:Value->Shared->Prop}{s:Shared}
theorem ml {a:Addr}{us:List Value}{n:Nat}{P:PySem.Fin->Shared->Prop}(ho:s.heap.get? a=some (seqObj "list" us.toArray n))(hz:us.length<64)
 (few:us.length<2->P (.done (.ret .none)) {s with heap:=sortedHeap s.heap a us us.toArray})
 (many:2<=us.length-> ∀g:Heap,(∀c o,c≠a->s.heap.get? c=some o->g.get? c=some o)->wpAny (model prog w) A (keyKind' us.toArray) (λκ t=>t={s with heap:=g}/\
   (kas_sort us.length).kasWp (kas_ask prog w A κ us) (λp t'=>t'=t/\P (.done (.ret .none)) {s with heap:=sortedHeap s.heap a us (List.toArray (p.toList.map λi=>us.getD i Value.none))}) t) (λ_ _=>False) {s with heap:=g}):
 wpAny (model prog w) A (Builtin.«list.sort» ⟨[.ref a],[]⟩) P E s:=by
 have la:a<s.heap.objs.size:=Heap.lt_size ho
 have z1:us.toArray.size<=sizeLine:=by rw[List.size_toArray,sizeLine_eq];omega
 obtain⟨c1,h1⟩: ∃c,(s.heap.update a (Obj.mapSeq λ_=> #[])).get? a=some (seqObj "list" #[] c):=⟨_,get?_update_seq ho (λ_=> #[])⟩
 have h2:(((s.heap.update a (Obj.mapSeq λ_=> #[])).push (seqObj "tuple" us.toArray 0)).push (seqObj "list" #[] 0)).get? a=some (seqObj "list" #[] c1):=Heap.get?_push_of_some _ (Heap.get?_push_of_some _ h1)
 have kp: ∀c o,c≠a->s.heap.get? c=some o->(((s.heap.update a (Obj.mapSeq λ_=> #[])).push (seqObj "tuple" us.toArray 0)).push (seqObj "list" #[] 0)).get? c=some o:=λc o nc e=>
  Heap.get?_push_of_some _ (Heap.get?_push_of_some _ (by rw[Heap.get?_update_ne _ _ _ _ nc];exact e))
 rw[list_sort_plain];refine wpAny_bind (listItems_at ho rfl (wpAny_bind (listUpdate_at ho rfl ?_ z1 (Nat.zero_le _))))
 refine wpAny_bind (seqEpoch_at h1 rfl (wpAny_bind (wpAny_newTuple ?_ (show us.length<=_ by rw[sizeLine_eq];omega))))
 refine wpAny_bind (wpAny_newList (wpAny_holding ?_) (Nat.zero_le _))
 show wpAny (model prog w) A _ P E {s with heap:=((s.heap.update a (Obj.mapSeq λ_=> #[])).push (seqObj "tuple" us.toArray 0)).push (seqObj "list" #[] 0)}
 dsimp only
 by_cases hs:us.toArray.size<2
 ·rw[if_pos hs,if_pos hs]
  refine wpAny_bind (wpAny_pure ?_)
  rw[StateT.run_pure];refine wpAny_bind (wpAny_pure ?_)
  dsimp only;have ea:Array.map (λx=>x.2) (us.toArray.zip us.toArray)=us.toArray:=by
   apply Array.toList_inj.mp
   simp[List.map_snd_zip]
  refine wpAny_bind (seqEpoch_at h2 rfl (wpAny_bind (listUpdate_at h2 rfl ?_ (Nat.zero_le _) ?_)))
  ·simp only[bne_self_eq_false,Bool.false_eq_true,if_false]
   refine wpAny_pure ?_
   have:=few (by simpa using hs)
   show P _ {s with heap:=sortedHeap s.heap a us (Array.map (λx=>x.2) (us.toArray.zip us.toArray))}
   rw[ea];exact this
  ·show(Array.map (λx=>x.2) (us.toArray.zip us.toArray)).size<=_
   rw[ea];exact Nat.le_succ_of_le z1
 ·rw[if_neg hs,if_neg hs]
  have h2':2<=us.length:=by simpa using hs
  refine wpAny_bind (wpAny_mono (many h2' _ kp) (λκ t ⟨et,ht⟩=>?_) λ_ _ x=>x.elim)
  subst et;refine wpAny_bind (wpAny_mono (kat_run (ks:=us) (vs:=us) (G:=λp t'=>t'=_/\P (.done (.ret .none)) {s with heap:=sortedHeap s.heap a us (List.toArray (p.toList.map λi=>us.getD i Value.none))})
   (Q:=λst t'=>t'=_/\failedOf st=none/\ ∃p:Array Nat,p.size=us.length/\(arrOf st).map (·.2)=List.toArray (p.toList.map λi=>us.getD i Value.none)/\P (.done (.ret .none)) {s with heap:=sortedHeap s.heap a us (List.toArray (p.toList.map λi=>us.getD i Value.none))})
   rfl h2' hz (λp st t' a1 a2 a3 a4=>⟨a4.1,a3,p,a1,kat_snds rfl a2,a4.2⟩) ht) (λr t' hr=>?_) λ_ _ x=>x)
  obtain⟨u,st⟩:=r
  obtain⟨e1,hf,p,hp,ho',hP⟩:=hr
  subst e1;dsimp only at hf ho'⊢;rw[ho',hf];have zz:(List.toArray (p.toList.map λi=>us.getD i Value.none)).size<=sizeLine:=by rw[List.size_toArray,List.length_map,Array.length_toList,hp,sizeLine_eq];omega
  refine wpAny_bind (seqEpoch_at h2 rfl (wpAny_bind (listUpdate_at h2 rfl ?_ (Nat.zero_le _) (Nat.le_succ_of_le zz))))
  simp only[bne_self_eq_false,Bool.false_eq_true,if_false];exact wpAny_pure hP
theorem r9 {l:Addr}{T:String}{o:Obj}{us:List Value}{n:Nat}{Q:List Value->Shared->Prop}(hT:T="list"\/T="tuple")(ho:s.heap.get? l=some o)(hc:o.cls=.type T)(hd:o.data=.seq us.toArray n)(hz:us.length<64)
 (q: ∀g:Heap,(∀b u,s.heap.get? b=some u->g.get? b=some u)->s.heap.objs.size<=g.objs.size->Q us {s with heap:=g}):wpAny (model prog w) A (collect (.ref l)) Q E s:=by
 have z:us.toArray.size<=sizeLine:=by rw[List.size_toArray,sizeLine_eq];omega
 have hN:(s.heap.push {cls:=.type "list",data:=.seq ([]:List Value).toArray}).get? s.heap.objs.size=some {cls:=.type "list",data:=.seq #[] 0}:=Heap.get?_push_size _ rfl
 have hU:=Heap.get?_update_self (Obj.mapSeq (·++us.toArray)) hN rfl
 have last:wpAny (model prog w) A (do
  match (<-load s.heap.objs.size).data with
   |Data.seq xs _=>pure xs.toList
   |_=>unsupported "internal:collect") Q E {s with heap:=(s.heap.push {cls:=.type "list",data:=.seq ([]:List Value).toArray}).update s.heap.objs.size (Obj.mapSeq (·++us.toArray))}:=by
  refine wpAny_bind (wpAny_load hU (wpAny_pure ?_))
  show Q ((#[]:Array Value)++us.toArray).toList _;rw[show((#[]:Array Value)++us.toArray).toList=us by simp]
  refine q _ (λb u e=>(Heap.get?_update_other _ _ (Nat.ne_of_gt (Heap.lt_size e))).trans (Heap.get?_push_of_some _ e)) ?_
  rw[Heap.size_update,Heap.size_push];exact Nat.le_succ _
 unfold collect;refine wpAny_bind (wpAny_runValue (codeAny_builtin F.entry_proto_collect ?_))
 rw[Around.under_plainId F.plain_proto_collect _];show wpAny _ A.in1 (newList []>>=λr=>again (.builtin "list.__iadd__" ⟨[r,.ref l],[]⟩)) _ _ s
 refine wpAny_bind (wpAny_newObj_type (wpAny_pure ⟨plainId_quiet F.plain_list_iadd _,codeAny_builtin F.entry_list_iadd ?_⟩))
 rw[Around.under_plainId F.plain_list_iadd _];show wpAny _ A.in1 (Builtin.List.listExtendWith (.ref s.heap.objs.size) (.ref l) (.ref s.heap.objs.size)) _ _ _;have ext:=wpAny_extend_seq (prog:=prog) (w:=w) (A:=A) (hsz:=z) (R:=λr t=>r=.ok (.ret (.ref s.heap.objs.size))/\t={s with heap:=(s.heap.push {cls:=.type "list",data:=.seq ([]:List Value).toArray}).update s.heap.objs.size (Obj.mapSeq (·++us.toArray))})
  (s:={s with heap:=s.heap.push {cls:=.type "list",data:=.seq ([]:List Value).toArray}}) _ l (.ref s.heap.objs.size) 0 hT hN (Heap.get?_push_of_some _ ho) hc hd ⟨rfl,rfl⟩
 refine wpAny_mono ext (λfin t h=>?_) (λe t h=>absurd h.1 (by simp))
 cases fin with
 |done f=>obtain⟨e,rfl⟩:=h;cases e;exact last
 |again c=>exact⟨h.1,codeAny_mono h.2 λr t' hr=>by obtain⟨rfl,rfl⟩:=hr;exact last⟩
theorem oe {l:Addr}{T:String}{o:Obj}{us:List Value}{n:Nat}{Q:Value->Shared->Prop}{G:List Nat->Prop}(hT:T="list"\/T="tuple")(ho:s.heap.get? l=some o)(hc:o.cls=.type T)(hd:o.data=.seq us.toArray n)(hz:us.length<64)
 (few:us.length<2->G (List.range us.length))
 (many:2<=us.length-> ∀g:Heap,(∀c o,s.heap.get? c=some o->g.get? c=some o)->wpAny (model prog w) A.in1.in1 (keyKind' us.toArray) (λκ t=>t={s with heap:=g}/\
   (kas_sort us.length).kasWp (kas_ask prog w A.in1.in1 κ us) (λp t'=>t'=t/\G p.toList) t) (λ_ _=>False) {s with heap:=g})
 (fin: ∀(g:Heap) (a e:Nat) (ix:List Nat),(∀c o,s.heap.get? c=some o->g.get? c=some o)->s.heap.objs.size<=a->G ix->g.get? a=some (seqObj "list" (List.toArray (ix.map λi=>us.getD i Value.none)) e)->Q (.ref a) {s with heap:=g}):
 wpAny (model prog w) A (call (.builtin "sorted") [.ref l]) Q E s:=by
 refine Calls.call_function_entry kind_sorted plain_sorted entry_sorted (args_sorted1 _) ?_
 unfold Builtin.«sorted»;refine wpAny_bind (m:=checkCount "sorted" 1 1 _) (wpAny_pure (wpAny_bind (r9 hT ho hc hd hz λg kg sg=>?_)))
 refine wpAny_bind (wpAny_newList ?_ (by rw[sizeLine_eq];omega))
 have hL:(g.push (seqObj "list" us.toArray 0)).get? g.objs.size=some (seqObj "list" us.toArray 0):=Heap.get?_push_size _ rfl
 show wpAny _ _ _ _ _ {s with heap:=g.push (seqObj "list" us.toArray 0)}
 have end_: ∀ix:List Nat,G ix->Q (.ref g.objs.size) {s with heap:=sortedHeap (g.push (seqObj "list" us.toArray 0)) g.objs.size us (List.toArray (ix.map λi=>us.getD i Value.none))}:=λix hG=>by
  obtain⟨e,he⟩:=sortedHeap_at (out:=List.toArray (ix.map λi=>us.getD i Value.none)) hL
  refine fin _ g.objs.size e ix (λc u hu=>?_) sg hG he
  have lt:=Heap.lt_size (kg c u hu)
  rw[sortedHeap_old (Nat.ne_of_lt lt) (by rw[size_push'];exact Nat.lt_succ_of_lt lt)]
  exact Heap.get?_push_of_some _ (kg c u hu)
 refine wpAny_bind (wpAny_holding (wpAny_call_entry slot_list_sort ⟨_,hL,rfl⟩ entry_list_sort (ml (P:=λf t=> ∃v,f=.done (.ret v)/\wpAny (model prog w) A.in1 (pure (PySem.Fin.done (.ret (Value.ref g.objs.size)))) (λf t=> ∃v,f=.done (.ret v)/\Q v t) E t) hL hz (λh=>?_) (λh g' kg'=>?_)) (args_list_sort _)))
 ·have e:=end_ (List.range us.length) (few h)
  rw[show(List.range us.length).map (λi=>us.getD i Value.none)=us from List.ext_getElem? λi=>by
   by_cases hi:i<us.length
   ·simp[hi]
   ·simp[hi]] at e
  exact⟨_,rfl,wpAny_pure ⟨_,rfl,e⟩⟩
 ·refine wpAny_mono (many h g' λc u hu=>kg' c u (Nat.ne_of_lt (Heap.lt_size (kg c u hu))) (Heap.get?_push_of_some _ (kg c u hu))) (λκ t ⟨et,ht⟩=>⟨et,?_⟩) λ_ _ x=>x
  rw[kat_ask_eq rfl] at ht⊢;exact kas_wp_mono ht λp t' ⟨e1,hG⟩=>⟨e1,_,rfl,wpAny_pure ⟨_,rfl,end_ _ hG⟩⟩
end
open PySem PySem.W PySem.Spec PyProof.Rows
def aY:List Int->List Int->Bool
 |_,[]=>false
 | [],_::_=>true
 |x::xs,y::ys=>if x=y then aY xs ys else decide (x<y)
def Du(x y:Int):Bool:=decide (x<y)
structure Lt {α:Type}(lt:α->α->Bool):Prop where
 tr: ∀ {a b c:α},lt b a=false->lt c b=false->lt c a=false
 as: ∀ {a b:α},lt a b=true->lt b a=false
 eq: ∀ {a b:α},lt a b=false->lt b a=false->a=b
theorem EQ:Lt Du:=⟨λh1 h2=>by simp only[Du,decide_eq_false_iff_not] at*;omega,λh=>by simp only[Du,decide_eq_false_iff_not,decide_eq_true_eq] at*;omega,λh1 h2=>by simp only[Du,decide_eq_false_iff_not] at*;omega⟩
theorem tV: ∀ {a b:List Int},aY a b=true->aY b a=false
 | [],[],h=>by simp[aY] at h
 |x::xs,[],h=>by simp[aY] at h
 | [],y::ys,h=>by simp[aY]
 |x::xs,y::ys,h=>by
  unfold aY at h⊢
  by_cases e:x=y
  ·subst e;simp only[if_true] at h⊢;exact tV h
  ·rw[if_neg e] at h;rw[if_neg (Ne.symm e)];simp only[decide_eq_true_eq,decide_eq_false_iff_not] at*;omega
theorem vf: ∀ {a b:List Int},aY a b=false->aY b a=false->a=b
 | [],[],_,_=>rfl
 |x::xs,[],_,h=>by simp[aY] at h
 | [],y::ys,h,_=>by simp[aY] at h
 |x::xs,y::ys,h,h'=>by
  unfold aY at h h'
  by_cases e:x=y
  ·subst e;simp only[if_true] at h h';rw[vf h h']
  ·rw[if_neg e] at h;rw[if_neg (Ne.symm e)] at h';simp only[decide_eq_false_iff_not] at*;omega
theorem uv: ∀ {a b c:List Int},aY b a=false->aY c b=false->aY c a=false
 | [],_,_,_,_=>by unfold aY;rfl
 |x::xs,[],_,h,_=>by simp[aY] at h
 |x::xs,y::ys,[],_,h=>by simp[aY] at h
 |x::xs,y::ys,z::zs,h1,h2=>by
  unfold aY at h1 h2⊢
  by_cases e1:y=x
  ·subst e1
   simp only[if_true] at h1
   by_cases e2:z=y
   ·subst e2;simp only[if_true] at h2⊢;exact uv h1 h2
   ·rw[if_neg e2] at h2⊢;exact h2
  ·rw[if_neg e1] at h1
   by_cases e2:z=y
   ·subst e2;rw[if_neg e1];exact h1
   ·rw[if_neg e2] at h2
    simp only[decide_eq_false_iff_not] at h1 h2;rw[if_neg (by omega)]
    simp only[decide_eq_false_iff_not];omega
theorem mX:Lt aY:=⟨uv,tV,vf⟩
def sX {α:Type}(lt:α->α->Bool)(x:α):List α->List α
 | []=>[x]
 |y::r=>if lt x y=true then x::y::r else y::sX lt x r
def aU {α:Type}(lt:α->α->Bool):List α->List α
 | []=>[]
 |x::r=>sX lt x (aU lt r)
section
variable {α:Type}{lt:α->α->Bool}
theorem jU(x:α): ∀l:List α,(sX lt x l).Perm (x::l)
 | []=>.refl _
 |y::r=>by
  unfold sX;split
  ·exact .refl _
  ·exact((jU x r).cons y).trans (.swap _ _ _)
theorem br: ∀l:List α,(aU lt l).Perm l
 | []=>.refl _
 |x::r=>(jU x _).trans ((br r).cons x)
theorem uV(O:Lt lt)(x:α): ∀ {l:List α},l.Pairwise (λa b=>lt b a=false)->(sX lt x l).Pairwise (λa b=>lt b a=false)
 | [],_=>by simp[sX]
 |y::r,h=>by
  obtain⟨h1,h2⟩:=List.pairwise_cons.mp h
  unfold sX;split
  ·rename_i e
   refine List.pairwise_cons.mpr ⟨λz hz=>?_,h⟩
   rcases List.mem_cons.mp hz with rfl|hz
   ·exact O.as e
   ·exact O.tr (O.as e) (h1 z hz)
  ·rename_i e
   refine List.pairwise_cons.mpr ⟨λz hz=>?_,uV O x h2⟩
   rcases List.mem_cons.mp ((jU x r).mem_iff.mp hz) with rfl|hz
   ·simpa using e
   ·exact h1 z hz
theorem jK(O:Lt lt): ∀l:List α,(aU lt l).Pairwise (λa b=>lt b a=false)
 | []=>.nil
 |x::r=>uV O x (jK O r)
theorem n6(O:Lt lt){l l':List α}(p:l'.Perm l)(s:l'.Pairwise (λa b=>lt b a=false)):l'=aU lt l:=
 List.Perm.eq_of_pairwise (λa b _ _ h1 h2=>O.eq h2 h1) s (jK O l) (p.trans (br l).symm)
theorem dG(ts:List α)(d:α):(List.range ts.length).map (λi=>ts.getD i d)=ts:=List.ext_getElem? λi=>by
 by_cases hi:i<ts.length
 ·simp[hi]
 ·simp[hi]
theorem cZ(O:Lt lt){ts:List α}{d:α}{p:Array Nat}(P:Pm ts.length p)(S:Srt (λi j=>lt (ts.getD i d) (ts.getD j d)) p ts.length):p.toList.map (λi=>ts.getD i d)=aU lt ts:=by
 refine n6 O ?_ ?_
 ·have h1:p.toList.Perm (List.range ts.length):=by simpa using (Array.perm_iff_toList_perm.mp P.perm)
  have h2:=h1.map (λi=>ts.getD i d)
  rw[dG] at h2;exact h2
 ·rw[List.pairwise_map,List.pairwise_iff_getElem]
  intro i j hi hj hij;have hz:=P.size
  have e:=S i j (by omega) (by simpa [hz] using hj)
  have g: ∀k (hk:k<p.toList.length),p.getD k 0=p.toList[k]:=λk hk=>by
   have:k<p.size:=by simpa using hk
   simp[Array.getD,this]
  rw[g i hi,g j hj] at e;exact e
theorem rj(O:Lt lt)(f:Nat->α):Od (λi j=>lt (f i) (f j)):=⟨λh1 h2=>O.tr h1 h2,λh=>O.as h⟩
end
def Ay:D->Option (List Int)
 | .tup ds=>match c5 ds with
   |some (x::r)=>some (x::r)
   |_=>none
 |_=>none
def lq:List D->Option (List (List Int))
 | []=>some []
 |d::r=>(Ay d).bind λk=>(lq r).map (k:: ·)
def nR(k:List Int):D:=.tup (k.map D.int)
def kE(ds:List D):Option (List D):=if ds.length<64 then match c5 ds with
 |some ns=>some ((aU Du ns).map D.int)
 |none=>(lq ds).map λks=>(aU aY ks).map nR else none
theorem Az {d:D}{k:List Int}(h:Ay d=some k):d=nR k/\k≠[]:=by
 unfold Ay at h;split at h
 ·split at h
  ·rename_i e;cases h;rw[cB e];exact⟨rfl,by simp⟩
  ·cases h
 ·cases h
theorem mw: ∀ {ds:List D} {ks:List (List Int)},lq ds=some ks->ds=ks.map nR/\ ∀k∈ks,k≠[]
 | [],_,h=>by cases h;exact⟨rfl,λ_ h=>nomatch h⟩
 |d::r,ks,h=>by
  unfold lq at h;cases e1:Ay d with
  |none=>rw[e1] at h;cases h
  |some k=>
   rw[e1] at h;cases e2:lq r with
   |none=>rw[e2] at h;cases h
   |some l=>
    rw[e2] at h;cases h;obtain⟨h1,h2⟩:=Az e1
    obtain⟨h3,h4⟩:=mw e2
    refine⟨by rw[h1,h3];rfl,λz hz=>?_⟩
    rcases List.mem_cons.mp hz with rfl|hz
    ·exact h2
    ·exact h4 z hz
theorem cD {α:Type}{lt:α->α->Bool}{l:List α}(h:l.length<2):aU lt l=l:=by
 match l,h with
 | [],_=>rfl
 | [_],_=>rfl
theorem dn {xs:List V}{us:List Value}(r:Vals xs us)(i:Nat):RelV (xs.getD i .non) (us.getD i Value.none):=by
 cases e:xs[i]? with
 |none=>
  have hl:=r.length
  have:us[i]? =none:=by simp at e⊢;omega
  simp[List.getD,e,this];rfl
 |some x=>
  obtain⟨u,h1,h2⟩:=r.get e
  simp[List.getD,e,h1];exact h2
theorem fu {xs:List V}{us:List Value}(r:Vals xs us): ∀ix:List Nat,Vals (ix.map λi=>xs.getD i .non) (ix.map λi=>us.getD i Value.none)
 | []=>.nil
 |i::l=>.cons (dn r i) (fu r l)
theorem nS {K:W.Frag}{F:Hp}{xs:List V}{ds:List D}(r:Reps K F xs ds)(i:Nat):Rep K F (xs.getD i .non) (ds.getD i .non):=by
 cases e:ds[i]? with
 |none=>
  have hl:=r.length
  have:xs[i]? =none:=by simp at e⊢;omega
  simp[List.getD,e,this];exact .non
 |some x=>
  obtain⟨u,h1,h2⟩:=r.get e
  simp[List.getD,e,h1];exact h2
theorem j8 {K:W.Frag}{F:Hp}{xs:List V}{ds:List D}(r:Reps K F xs ds): ∀ix:List Nat,Reps K F (ix.map λi=>xs.getD i .non) (ix.map λi=>ds.getD i .non)
 | []=>.nil
 |i::l=>.cons (nS r i) (j8 r l)
def i4:List Value->List Int->Prop:=Paired λu i=> ∃t,u=Value.int i t
theorem oJ {K:W.Frag}{F:Hp}: ∀ {xs:List V} {us:List Value} {ns:List Int},Vals xs us->Reps K F xs (ns.map D.int)->i4 us ns
 |_,_,[],r,p=>by cases p;cases r;exact .nil
 |_,_,n::ns,r,p=>by
  cases p with
  |cons p1 p2=>cases r with
   |cons r1 r2=>cases p1;exact .cons r1 (oJ r2 p2)
theorem rn: ∀ {us:List Value} {ns:List Int} {i:Nat} {u:Value},i4 us ns->us[i]? =some u-> ∃n,ns[i]? =some n/\ ∃t,u=Value.int n t
 |_,_,_,_,.nil,e=>by simp at e
 |_,_,0,_,.cons h _,e=>by simp at e;subst e;exact⟨_,rfl,h⟩
 |_,_,i+1,u,.cons _ r,e=>by
  obtain⟨n,h1,h2⟩:=rn (i:=i) (u:=u) r (by simpa using e)
  exact⟨n,by simpa using h1,h2⟩
section
variable {prog:Program}{w:World}{A:Around}{s:Shared}{b fin:Bool}{Q:Bool->Shared->Prop}
theorem jv: ∀ {us ws:List Value} {ns ms:List Int} (i:Nat),i4 us ns->i4 ws ms->fin=decide (ns.length<ms.length)->Q (aY ns ms) s->KatLex prog w A b fin Q (us.zip ws) i s
 |_,_,[],[],i,.nil,.nil,e,q=>by subst e;exact kat_nil q
 |_,_,[],m::ms,i,.nil,.cons _ _,e,q=>by subst e;simp only[List.zip_nil_left];refine kat_nil ?_;simpa [aY] using q
 |_,_,n::ns,[],i,.cons _ _,.nil,e,q=>by subst e;simp only[List.zip_nil_right];refine kat_nil ?_;simpa [aY] using q
 |_,_,n::ns,m::ms,i,.cons h1 r1,.cons h2 r2,e,q=>by
  obtain⟨t,rfl⟩:=h1
  obtain⟨t',rfl⟩:=h2
  rw[List.zip_cons_cons];refine kat_cons (wpAny_eqBool_int (kat_go (λhe=>?_) λhe=>?_))
  ·have:n=m:=by simpa using he
   subst this;refine kat_yes (jv (i+1) r1 r2 (by rw[e];simp) ?_)
   simpa [aY] using q
  ·have:n≠m:=by simpa using he
   have q':Q (decide (n<m)) s:=by simpa [aY,this] using q
   refine kat_no ?_
   cases (b&&i==0) with
   |true=>exact oneLt_int q'
   |false=>exact kat_one _ _ (lt_int q')
end
theorem rC {X:Cx}:bU X (.builtin "sorted") (λxs H Q=> ∃a ys ds es,xs=[.ref a]/\(SqL X.K H a ys\/SqT X.K H a ys)/\Reps X.K H ys ds/\kE ds=some es/\
 ∀(l:Addr) (ix:List Nat),H l=none->ix.length=ds.length->ix.map (λi=>ds.getD i .non)=es->Q (.ref l) (aV H l (.lst (ix.map λi=>ys.getD i .non)))):=by
 intro aa s σ H xs us Q I r h;obtain⟨a,ys,ds,es,rfl,hsq,rp,hs,q⟩:=h
 obtain⟨u,rfl,rx⟩:=dU r
 cases rx
 obtain⟨its,T,o,n,rv,hT,ho,hc,hd⟩: ∃(its:List Value) (T:String) (o:Obj) (n:Nat),Vals ys its/\(T="list"\/T="tuple")/\s.heap.get? a=some o/\o.cls=.type T/\o.data=.seq its.toArray n:=by
  rcases hsq with hq|hq
  ·obtain⟨its,r',pl,hz⟩:=I.list hq
   obtain⟨o,ho,hc,n,hd⟩:=pl.isList
   exact⟨its,"list",o,n,r',.inl rfl,ho,hc,hd⟩
  ·obtain⟨its,r',pl,hz⟩:=I.tuple hq
   obtain⟨o,ho,hc,n,hd⟩:=pl
   exact⟨its,"tuple",o,n,r',.inr rfl,ho,hc,hd⟩
 have l1:=rv.length
 have l2:=rp.length
 have h64:ds.length<64:=by
  unfold kE at hs;split at hs
  ·assumption
  ·cases hs
 unfold kE at hs;rw[if_pos h64] at hs;refine oe (G:=λix=>ix.length=ds.length/\ix.map (λi=>ds.getD i .non)=es) hT ho hc hd (by omega) (λfew=>⟨by simp;omega,?_⟩) (λh2 g kg=>?_) (λg p e ix kg hp hG hg=>?_)
 ·rw[show its.length=ds.length by omega,dG]
  cases e1:c5 ds with
  |some ns=>
   rw[e1] at hs;cases hs;have:=cB e1
   subst this;rw[cD (by simp at l2;omega)]
  |none=>
   rw[e1] at hs;cases e2:lq ds with
   |none=>rw[e2] at hs;cases hs
   |some ks=>
    rw[e2] at hs;cases hs;obtain⟨h3,_⟩:=mw e2
    subst h3;dsimp only;rw[cD (by simp at l2;omega)]
 ·cases e1:c5 ds with
  |some ns=>
   rw[e1] at hs;cases hs;have e0:=cB e1
   subst e0;have hv:=oJ rv rp
   have hl:its.length=ns.length:=by simp at l2;omega
   have gi: ∀i,i<ns.length-> ∃t,its.getD i Value.none=Value.int (ns.getD i 0) t:=λi hi=>by
    have e2:its[i]? =some its[i]:=List.getElem?_eq_getElem (by omega)
    obtain⟨m,e3,t,e4⟩:=rn hv e2
    refine⟨t,?_⟩
    simp[List.getD,e2,e3,e4]
   refine kas_kind (T:=.type "int") h2 (λv hv'=>?_) (by rfl) (by rfl) ⟨rfl,?_⟩
   ·obtain⟨i,hi,rfl⟩:=List.getElem_of_mem hv'
    obtain⟨t,e⟩:=gi i (by omega)
    have:its[i]=its.getD i Value.none:=by simp[List.getD,List.getElem?_eq_getElem hi]
    rw[this,e];exact Looks.now
   ·rw[hl]
    refine iZ (b:=λi j=>Du (ns.getD i 0) (ns.getD j 0)) (rj EQ _) (by omega) (λi j C hi hj hC=>?_) λp P S=>⟨rfl,?_,?_⟩
    ·obtain⟨t,e⟩:=gi i hi
     obtain⟨t',e'⟩:=gi j hj
     unfold kas_ask;rw[e,e'];exact kat_lt_int hC
    ·rw[Array.length_toList,P.size];simp
    ·have:=congrArg (List.map D.int) (cZ EQ P S)
     rw[<-this,List.map_map];refine List.map_congr_left λi hi=>?_
     have:i<ns.length:=by
      have:=P.perm.mem_iff.mp (Array.mem_toList_iff.mp hi)
      simpa using this
     simp[List.getD,List.getElem?_eq_getElem this]
  |none=>
   rw[e1] at hs;cases e2:lq ds with
   |none=>rw[e2] at hs;cases hs
   |some ks=>
    rw[e2] at hs;cases hs;obtain⟨h3,h4⟩:=mw e2
    subst h3;have hl:its.length=ks.length:=by simp at l2;omega
    have gi: ∀i,i<ks.length-> ∃(b:Addr) (o:Obj) (ts:List Value) (n:Nat),its.getD i Value.none=.ref b/\s.heap.get? b=some o/\o.cls=.type "tuple"/\o.data=.seq ts.toArray n/\i4 ts (ks.getD i []):=λi hi=>by
     have r1:=dn rv i
     have r2:=nS rp i
     have e3:(ks.map nR).getD i .non=.tup ((ks.getD i []).map D.int):=by simp[List.getD,List.getElem?_eq_getElem hi,nR]
     rw[e3] at r2
     generalize hx:ys.getD i .non=x at r1 r2
     cases r2 with
     |tup q1 q2=>
      obtain⟨ts,r',⟨o,ho,hc,n,hd⟩,_⟩:=I.tuple (SqT.of q1)
      exact⟨_,o,ts,n,r1,ho,hc,hd,oJ r' q2⟩
    have kt: ∀(l:List Value) (ms:List (List Int)),l.length=ms.length->(∀i,i<ms.length-> ∃(b:Addr) (o:Obj) (ts:List Value) (n:Nat),l.getD i Value.none=.ref b/\s.heap.get? b=some o/\o.cls=.type "tuple"/\o.data=.seq ts.toArray n/\i4 ts (ms.getD i []))->(∀k∈ms,k≠[])->
     ∃fs,KatTups g l fs/\fs.length=l.length/\ ∀v∈fs,∃i t,v=Value.int i t:=by
     intro l
     induction l with
     |nil=>intro ms _ _ _;exact⟨[],.nil,rfl,λ_ h=>nomatch h⟩
     |cons v l ih=>
      intro ms hl hg hk;cases ms with
      |nil=>cases hl
      |cons m ms=>
       obtain⟨fs,f1,f2,f3⟩:=ih ms (by simpa using hl) (λi hi=>by simpa using hg (i+1) (by simpa using hi)) λk hk'=>hk k (by simp[hk'])
       obtain⟨b,o,ts,n,g1,g2,g3,g4,g5⟩:=hg 0 (by simp)
       simp[List.getD] at g1 g5;subst g1;cases m with
       |nil=>exact absurd rfl (hk [] (by simp))
       |cons x xs=>
        cases g5 with
        |cons y1 y2=>
         obtain⟨t,rfl⟩:=y1
         refine⟨_,KatTups.cons (kg _ _ g2) g3 g4 (by simp;rfl) f1,by simp[f2],λv hv=>?_⟩
         rcases List.mem_cons.mp hv with rfl|hv
         ·exact⟨_,_,rfl⟩
         ·exact f3 v hv
    obtain⟨fs,f1,f2,f3⟩:=kt its ks hl gi h4
    refine kat_kind (T:=.type "int") f1 (by omega) (λv hv=>?_) (by rfl) ⟨rfl,?_⟩
    ·obtain⟨i,t,rfl⟩:=f3 v hv;exact Looks.now
    ·rw[hl]
     refine iZ (b:=λi j=>aY (ks.getD i []) (ks.getD j [])) (rj mX _) (by omega) (λi j C hi hj hC=>?_) λp P S=>⟨rfl,?_,?_⟩
     ·obtain⟨b1,o1,ts1,n1,x1,x2,x3,x4,x5⟩:=gi i hi
      obtain⟨b2,o2,ts2,n2,y1,y2,y3,y4,y5⟩:=gi j hj
      unfold kas_ask;rw[x1,y1];refine kat_lt (kg _ _ x2) x4 (kg _ _ y2) y4 ?_
      refine jv 0 x5 y5 ?_ hC
      have z1:=Paired.length x5
      have z2:=Paired.length y5
      simp[z1,z2]
     ·rw[Array.length_toList,P.size];simp
     ·have:=congrArg (List.map nR) (cZ mX P S)
      dsimp only;rw[<-this,List.map_map];refine List.map_congr_left λi hi=>?_
      have:i<ks.length:=by
       have:=P.perm.mem_iff.mp (Array.mem_toList_iff.mp hi)
       simpa using this
      simp[List.getD,List.getElem?_eq_getElem this]
 ·refine⟨.ref p,_,I.laid (t':=s.toks) kg hp (show ObjOk X.prog X.w _ g _ (.lst (ix.map λi=>ys.getD i .non)) from⟨?_,_,e,fu rv ix,hg⟩),rfl,q _ ix (I.hok.fresh hp) hG.1 hG.2⟩
  rw[List.length_map,hG.1,sizeLine_eq];omega
def oF:List D->Option D
 | [.lst ds]=>(kE ds).map D.lst
 | [.tup ds]=>(kE ds).map D.lst
 |_=>none
theorem vt {K:W.Frag}:ga K .n (λxs H Q=> ∃a ys ds es,xs=[.ref a]/\(SqL K H a ys\/SqT K H a ys)/\Reps K H ys ds/\kE ds=some es/\
 ∀(l:Addr) (ix:List Nat),H l=none->ix.length=ds.length->ix.map (λi=>ds.getD i .non)=es->Q (.ref l) (aV H l (.lst (ix.map λi=>ys.getD i .non)))) oF:=by
 intro H hid vs ds d Q hf h r q;unfold oF at h;split at h
 ·rename_i zs
  cases e:kE zs with
  |none=>rw[e] at h;cases h
  |some es=>
   rw[e] at h;cases h;obtain⟨x,rfl,r1⟩:=Reps1.one r
   obtain⟨a,xs,rfl,h1,h2⟩:=r1.lst
   refine⟨a,xs,zs,es,rfl,.inl h1,h2.mono (bt _ _),e,λl ix hl _ he=>q _ _ (aC hl _) (c8 hl (Same.refl _) ?_)⟩
   rw[<-he];exact j8 h2 ix
 ·rename_i zs
  cases e:kE zs with
  |none=>rw[e] at h;cases h
  |some es=>
   rw[e] at h;cases h;obtain⟨x,rfl,r1⟩:=Reps1.one r
   obtain⟨a,xs,rfl,_,h1,h2⟩:=r1.tup
   refine⟨a,xs,zs,es,rfl,.inr h1,h2.mono (bt _ _),e,λl ix hl _ he=>q _ _ (aC hl _) (c8 hl (Same.refl _) ?_)⟩
   rw[<-he];exact j8 h2 ix
 ·cases h
section
variable {X:Cx}{c:Ct}{e a b:Expr}{es rest:List Expr}{f g:GE}{fs:GA}{k:Kd}{pos p:Pos}{x:Str}{id T:String}{r:List V->Hp->VK->Prop}{F:List D->Option D}{ps:List Str}{j n:Nat}
theorem D5 {r:R2}{F:D->D->Option D}(hr:IxR X r)(hF:mL X.K k r F)(ha:DE X c .s a f)(hb:DE X c .s b g)(hs:oC b)(hk:k≠ .b:=by decide):DE X c k (.Subscript a b pos) (eX F f g):=λhid ρ=>
 PE.imp (BE hr (ha hid ρ) (iH λρ1=>hb hid ρ1) hs) λσ H Q h=>Ei hF hk h
def qu(fs:GA):GE:=λρ=>(fs ρ).bind λq=>if q.1.length<=sizeLine then some (.tup q.1,q.2) else none
theorem wB {ρ ρ':ay}{d:D}(h:qu fs ρ=some (d,ρ')): ∃ds,fs ρ=some (ds,ρ')/\ds.length<=sizeLine/\d=.tup ds:=by
 unfold qu at h;cases e:fs ρ with
 |none=>rw[e] at h;cases h
 |some q=>
  rw[e] at h;dsimp only[Option.bind] at h;split at h
  ·cases h;exact⟨q.1,rfl, ‹_›,rfl⟩
  ·cases h
theorem Cu {x1}(h:DG X c es fs):DE X c .s (.Tuple es x1 pos) (qu fs):=λhid ρ=>PE.imp (o6 (h hid ρ)) λσ H Q hq_=>by
 obtain⟨sr,d,ρ',hd,q⟩:=hq_
 obtain⟨ds,e1,hz,rfl⟩:=wB hd
 exact⟨sr,ds,ρ',e1,λvs H1 k1 s1 r1=>⟨by rw[r1.length];exact hz,λp hp=>q _ _ (PostE.left k1 (s1.post (k:=.s) (aC hp _) (gP hp (s1.fresh hp) r1) (by decide)))⟩⟩
end
section
variable {prog:Program}{w:World}{A:Around}{R:Result->Shared->Prop}{s:Shared}{elt t1 t2 i1 i2:Expr}{ifs1 ifs2:List Expr}{scope:Scope}{pos:Pos}{it acc:Value}{env:Env}
theorem Bj:compTurn (.ListComp elt [⟨t1,i1,ifs1,0⟩,⟨t2,i2,ifs2,0⟩] scope pos) 1 it acc env=(do
 standAt i2.pos
 match <-pyNext it with
 |none=>pure (.done .next)
 |some v=>
  letOwnedTupleGo t2 it v
  assign t2 env v
  let ok <-g8 ifs2 env
  if ok=true then do(do let _ <-call (.builtin "list.append") [acc,<-eval elt env]);again (.compLoop (.ListComp elt [⟨t1,i1,ifs1,0⟩,⟨t2,i2,ifs2,0⟩] scope pos) 1 it acc env)
  else again (.compLoop (.ListComp elt [⟨t1,i1,ifs1,0⟩,⟨t2,i2,ifs2,0⟩] scope pos) 1 it acc env)):=by rfl
theorem x8:compTurn (.ListComp elt [⟨t1,i1,ifs1,0⟩,⟨t2,i2,ifs2,0⟩] scope pos) 0 it acc env=(do
 standAt i1.pos
 match <-pyNext it with
 |none=>pure (.done .next)
 |some v=>
  letOwnedTupleGo t1 it v
  assign t1 env v
  let ok <-g8 ifs1 env
  if ok=true then do
   let x <-eval i2 env
   standAt i2.pos
   let x <-foldedSetIterable i2 env x
   let _ <-runOwn (.compStart (.ListComp elt [⟨t1,i1,ifs1,0⟩,⟨t2,i2,ifs2,0⟩] scope pos) 1 (<-holding [x] (pyIter x)) acc env) env
   again (.compLoop (.ListComp elt [⟨t1,i1,ifs1,0⟩,⟨t2,i2,ifs2,0⟩] scope pos) 0 it acc env)
  else again (.compLoop (.ListComp elt [⟨t1,i1,ifs1,0⟩,⟨t2,i2,ifs2,0⟩] scope pos) 0 it acc env)):=by rfl
abbrev pr:=(Shared->Prop)->Shared->Prop
def um(prog:Program)(w:World)(A:Around)(elt:Expr)(acc:Value)(env:Env):pr:=λQ s=>
 wpAny (model prog w) A (eval elt env) (λx s₄=>wpAny (model prog w) A (call (.builtin "list.append") [acc,x]) (λ_ s₅=>Q s₅) (λ_ _=>False) s₄) (λ_ _=>False) s
def pL(prog:Program)(w:World)(A:Around)(e iter:Expr)(acc:Value)(env:Env):pr:=λQ s=>
 wpAny (model prog w) A (eval iter env) (λx s₄=>wpAny (model prog w) A (pyIter x) (λit s₅=>codeAny (model prog w) A (.compStart e 1 it acc env) (λr s'=>match r with
  | .ok _=>Q s'
  | .error _=>False) s₅) (λ_ _=>False) s₄) (λ_ _=>False) s
def lQ(prog:Program)(w:World)(A:Around)(code:Code)(tg:Expr)(ifs:List Expr)(it:Value)(env:Env)(TA:pr)(R:Result->Shared->Prop):Prop:= ∀(I:Nat->Shared->Prop),
 (∀n s,I n s->wpAny (model prog w) A (pyNext it) (λr s₁=>match r with
   |none=>R (.ok .next) s₁
   |some v=>wpAny (model prog w) A (letOwnedTupleGo tg it v) (λ_ s₁=>wpAny (model prog w) A (assign tg env v) (λ_ s₂=>
     wpAny (model prog w) A (g8 ifs env) (λok s₃=>
      if ok=true then TA (λs₅=> ∃m,m<n/\I m s₅) s₃
      else∃m,m<n/\I m s₃) (λ_ _=>False) s₂) (λ_ _=>False) s₁) (λ_ _=>False) s₁) (λ_ _=>False) s)->
 ∀(n:Nat) (s:Shared),I n s->codeAny (model prog w) A code R s
theorem yX:lQ prog w A (.compLoop (.ListComp elt [⟨t1,i1,ifs1,0⟩,⟨t2,i2,ifs2,0⟩] scope pos) 1 it acc env) t2 ifs2 it env (um prog w A elt acc env) R:=by
 intro I turn n s h;have no: ∀ {E':Value->Shared->Prop} (x:Value) (s:Shared),False->E' x s:=λ_ _ z=>z.elim
 refine codeAny_loop rfl I (λn s hI=>?_) n h
 show wpAny _ A ((compTurn (.ListComp elt [⟨t1,i1,ifs1,0⟩,⟨t2,i2,ifs2,0⟩] scope pos) 1 it acc env).onRaise (λx=>do noteFrame x env;theTreesLotGoes x)) _ _ s
 refine wpAny_noted ?_
 rw[Bj];refine wpAny_bind (wpAny_standAt (wpAny_bind (wpAny_mono (turn n s hI) (λr s₁ h₁=>?_) no)))
 cases r with
 |none=>exact wpAny_pure h₁
 |some v=>
  refine wpAny_bind (wpAny_mono h₁ (λ_ s₁ h₁=>wpAny_bind (wpAny_mono h₁ (λ_ s₂ h₂=>wpAny_bind (wpAny_mono h₂ (λok s₃ h₃=>?_) no)) no)) no)
  cases ok with
  |false=>exact wpAny_pure ⟨rfl,h₃⟩
  |true=>exact wpAny_bind (wpAny_bind (wpAny_mono h₃ (λx s₄ h₄=>wpAny_bind (wpAny_mono h₄ (λ_ s₅ h₅=>wpAny_pure (wpAny_pure ⟨rfl,h₅⟩)) no)) no))
theorem vK(hset: ∀x,foldedSetIterable i2 env x=pure x):lQ prog w A (.compLoop (.ListComp elt [⟨t1,i1,ifs1,0⟩,⟨t2,i2,ifs2,0⟩] scope pos) 0 it acc env) t1 ifs1 it env (pL prog w A (.ListComp elt [⟨t1,i1,ifs1,0⟩,⟨t2,i2,ifs2,0⟩] scope pos) i2 acc env) R:=by
 intro I turn n s h;have no: ∀ {E':Value->Shared->Prop} (x:Value) (s:Shared),False->E' x s:=λ_ _ z=>z.elim
 refine codeAny_loop rfl I (λn s hI=>?_) n h
 show wpAny _ A ((compTurn (.ListComp elt [⟨t1,i1,ifs1,0⟩,⟨t2,i2,ifs2,0⟩] scope pos) 0 it acc env).onRaise (λx=>do noteFrame x env;theTreesLotGoes x)) _ _ s
 refine wpAny_noted ?_
 rw[x8];refine wpAny_bind (wpAny_standAt (wpAny_bind (wpAny_mono (turn n s hI) (λr s₁ h₁=>?_) no)))
 cases r with
 |none=>exact wpAny_pure h₁
 |some v=>
  refine wpAny_bind (wpAny_mono h₁ (λ_ s₁ h₁=>wpAny_bind (wpAny_mono h₁ (λ_ s₂ h₂=>wpAny_bind (wpAny_mono h₂ (λok s₃ h₃=>?_) no)) no)) no)
  cases ok with
  |false=>exact wpAny_pure ⟨rfl,h₃⟩
  |true=>
   refine wpAny_bind (wpAny_mono h₃ (λx s₄ h₄=>wpAny_bind (wpAny_standAt (wpAny_bind (wpAny_of_eq (hset x) (wpAny_bind (wpAny_holding (wpAny_mono h₄ (λit2 s₅ h₅=>?_) no))))))) no)
   refine wpAny_bind (wpAny_runOwn (codeAny_mono h₅ λr s' hr=>?_))
   cases r with
   |ok f=>exact wpAny_pure ⟨rfl,hr⟩
   |error e=>exact hr.elim
end
def ka(g:FG)(p:FT)(A:FA)(ρ0:ay):List D->Option (List D)
 | []=>some []
 |d::r=>(g d ρ0).bind λρ1=>(p ρ1).bind λb=>if b=true then(A ρ1).bind λys=>(ka g p A ρ0 r).map (ys++ ·) else ka g p A ρ0 r
def Cg(n:Nat)(ρ:ay):Prop:= ∀(i:Nat) (s:Sl),n<=i->ρ[i]? =some s->s=.no
def xO(Y:Cx)(c:Ct)(hid:aX)(D0:Addr)(L W:Hp)(A:FA)(TA:pr)(ρ1:ay):Prop:= ∀(aa:List (Addr×Obj)) (s:Shared) (σ:St) (H:Hp) (xs:List V) (ad zs:List D) (Q:Shared->Prop),Inv Y aa σ H s->SR Y.K c hid ρ1 σ H->
 H D0=some (.lst xs)->Reps Y.K (vw H hid) xs ad->xs.length+zs.length<=sizeLine->Same L H->Same W (vw H hid)->(∀i:Nat,Ow ρ1[i]? ->σ[i]? ≠some (some (.ref D0)))->A ρ1=some zs->
 (∀(s':Shared) (σ':St) (H':Hp) (xs':List V),Inv Y aa σ' H' s'->SR Y.K c hid ρ1 σ' H'->H' D0=some (.lst xs')->Reps Y.K (vw H' hid) xs' (ad++zs)->Same L H'->Same (vw H hid) (vw H' hid)->(∀i:Nat,Ow ρ1[i]? ->σ'[i]? ≠some (some (.ref D0)))->Q s')->TA Q s
section
variable {Y:Cx}{c:Ct}{tg:Expr}{ifs:List Expr}{g:FG}{p:FT}{A:FA}{TA:pr}{code:Code}
structure CLG(Y:Cx)(aa:List (Addr×Obj))(c:Ct)(hid:aX)(ρ0:ay)(L W H3:Hp)(D0:Addr)(fp:List Addr)(tn:Nat->Heap->Prop)(g:FG)(p:FT)(A:FA)(ds ys ad0:List D)(n i:Nat)(xs:List V)(ad:List D)(σ':St)(H':Hp)(s':Shared):Prop where
 e:n=ds.length-i
 hi:i<=ds.length
 I:Inv Y aa σ' H' s'
 st:tn i s'.heap
 fr: ∀b∈fp,H' b=none
 sr:SR Y.K c hid ρ0 σ' H'
 sm:Same L H'
 ac:H' D0=some (.lst xs)
 rp:Reps Y.K (vw H' hid) xs ad
 w:Same W (vw H' hid)
 v:Same (vw H3 hid) (vw H' hid)
 na: ∀i:Nat,Ow ρ0[i]? ->σ'[i]? ≠some (some (.ref D0))
 go: ∃rest,ka g p A ρ0 (ds.drop i)=some rest/\ad++rest=ad0++ys
theorem qc(hcalm:Y.calm=true)(hxe:Y.xe=λ_ _=>False){n0:Nat}(hT:dO n0 g)(hg:lv Y c tg g)(hp:mM Y c ifs p)
 {aa:List (Addr×Obj)} {σ3:St} {H3 L W:Hp} {s4:Shared} {hid:aX} {ρ0:ay} {J:It} {it D0:Addr} {fp:List Addr} {tn:Nat->Heap->Prop} {ds ys ad0:List D} {xs0:List V} {R:Result->Shared->Prop}
 (hA: ∀d ρ1,g d ρ0=some ρ1->xO Y c hid D0 L W A TA ρ1)
 (hN:Cg n0 ρ0) (I:Inv Y aa σ3 H3 s4) (sr:SR Y.K c hid ρ0 σ3 H3) (hh:hid D0=true) (na: ∀i:Nat,Ow ρ0[i]? ->σ3[i]? ≠some (some (.ref D0))) (hacc:H3 D0=some (.lst xs0)) (rp0:Reps Y.K (vw H3 hid) xs0 ad0) (sm:Same L H3) (wv:Same W (vw H3 hid)) (T:Turn Y.prog Y.w Y.K tg J fp it tn) (st:tn 0 s4.heap) (hF: ∀b∈fp,eW Y aa H3 b)
 (io:AJ Y.K L W J ds) (hz:ad0.length+ys.length<=sizeLine) (hc:ka g p A ρ0 ds=some ys)
 (hTP:lQ Y.prog Y.w Y.A code tg ifs (.ref it) Y.env TA R)
 (hR: ∀(s':Shared) (σ':St) (H':Hp) (xs:List V),Inv Y aa σ' H' s'->SR Y.K c hid ρ0 σ' H'->Same L H'->H' D0=some (.lst xs)->Reps Y.K (vw H' hid) xs (ad0++ys)->Same (vw H3 hid) (vw H' hid)->(∀i:Nat,Ow ρ0[i]? ->σ'[i]? ≠some (some (.ref D0)))->R (.ok .next) s'):
 codeAny (model Y.prog Y.w) Y.A code R s4:=by
 have stat: ∀ {H':Hp},(∀b∈fp,H' b=none)-> ∀b∈fp,eW Y aa H' b:=λ{H'} hn b hb=>⟨hn b hb,(hF b hb).2⟩
 refine hTP (λn s'=> ∃(i:Nat) (xs:List V) (ad:List D) (σ':St) (H':Hp),CLG Y aa c hid ρ0 L W H3 D0 fp tn g p A ds ys ad0 n i xs ad σ' H' s') ?_ ds.length s4
  ⟨0,xs0,ad0,σ3,H3,by simp,Nat.zero_le _,I,st,λb hb=>(hF b hb).1,sr,sm,hacc,rp0,wv,Same.refl _,na,ys,by simpa using hc,rfl⟩
 rintro n s5 ⟨i,xs,ad,σ5,H5,rfl,hi,I5,st5,f5,sr5,sm5,ac5,rp5,w5,v5,na5,rest,hc5,hy5⟩
 have wH:Same W H5:=w5.trans (bt _ _)
 by_cases hlt:i<ds.length
 ·have hd:ds[i]? =some ds[i]:=List.getElem?_eq_getElem hlt
  have e2:ds.drop i=ds[i]::ds.drop (i+1):=List.drop_eq_getElem_cons hlt
  rw[e2] at hc5;unfold ka at hc5;obtain⟨go,yl⟩:=io.1 i ds[i] H5 hd sm5 wH
  refine aZ (T.item Y rfl rfl rfl hcalm i aa s5 σ5 H5 (λ_ _=>False) I5 (stat f5) st5 go) λr s6 hq_=>?_
  obtain⟨u,hr,h6⟩:=hq_
  subst hr;refine aZ h6 λ_ s7 hq_=>?_
  obtain⟨x,H7,I7,r7,y7,st7,f7⟩:=hq_
  obtain⟨s7',rp⟩:=yl x H7 y7
  have rx:=rp hid sr5.tr w5
  have I7':=I7.pinned (stat f7) (T.obj _ _ st7)
  cases e3:g ds[i] ρ0 with
  |none=>rw[e3] at hc5;cases hc5
  |some ρ1=>
   rw[e3] at hc5;have hc5:(p ρ1).bind (λb=>if b=true then(A ρ1).bind λys=>(ka g p A ρ0 (ds.drop (i+1))).map (ys++ ·) else ka g p A ρ0 (ds.drop (i+1)))=some rest:=hc5
   obtain⟨tl1,tl2⟩:=hT _ _ _ e3
   have fg: ∀ {σ':St} {H':Hp},SR Y.K c hid ρ1 σ' H'->SR Y.K c hid ρ0 σ' H':=λ{σ' H'} z=>z.forget tl1 λj s e=>by
    by_cases hj:j<n0
    ·exact .inr ((tl2 j hj).trans e)
    ·exact .inl (hN j s (by omega) e)
   have ow01: ∀j:Nat,Ow ρ0[j]? ->Ow ρ1[j]? :=λj o=>by
    by_cases hj:j<n0
    ·rw[tl2 j hj];exact o
    ·exfalso
     cases e:ρ0[j]? with
     |none=>rw[e] at o;exact o
     |some s=>have:=hN j s (by omega) e;subst this;rw[e] at o;exact o
   have keepT: ∀ {σ':St} {H':Hp} {s':Shared},Inv Y (aa++iC fp s7.heap) σ' H' s'->tn (i+1) s'.heap/\ ∀b∈fp,H' b=none:=λ{σ' H' s'} J'=>by
    refine⟨T.keep _ _ _ st7 λb hb o e=>(J'.pin (b,o) (List.mem_append_right _ (List.mem_append_right _ (bL hb e)))).1,λb hb=>?_⟩
    obtain⟨o,e,_⟩:=T.obj _ _ st7 b hb
    exact(J'.pin (b,o) (List.mem_append_right _ (List.mem_append_right _ (bL hb e)))).2.1
   refine aZ (hxe▸hg hid ρ0 ds[i] _ s7 σ5 H7 x u (λσ' H'=>H'=H7/\SR Y.K c hid ρ1 σ' H7/\OwK ρ0 ρ1 σ5 σ') I7' r7 ⟨sr5.ext s7',rx,ρ1,e3,λσ' z o=>⟨rfl,z,o⟩⟩) λ_ s8 hq_=>?_
   obtain⟨σ8,H8,I8,e8,q8,o8⟩:=hq_
   subst e8;have na1: ∀j:Nat,Ow ρ1[j]? ->σ8[j]? ≠some (some (.ref D0)):=λj o=>by
    rw[(o8 j o).2];exact na5 j (o8 j o).1
   cases e4:p ρ1 with
   |none=>rw[e4] at hc5;cases hc5
   |some b=>
    rw[e4] at hc5;have hc5:(if b=true then(A ρ1).bind λys=>(ka g p A ρ0 (ds.drop (i+1))).map (ys++ ·) else ka g p A ρ0 (ds.drop (i+1)))=some rest:=hc5
    refine aZ (hxe▸hp hid ρ1 _ s8 σ8 H8 (λb' H'=>b'=b/\Same H8 H') I8 ⟨q8,b,e4,λH' s'=>⟨rfl,s'⟩⟩) λok s9 hq_=>?_
    obtain⟨H9,I9,e9,sm9⟩:=hq_
    subst e9;have w9:Same (vw H5 hid) (vw H9 hid):=aw (s7'.trans sm9)
    cases ok with
    |false=>
     have hc5:ka g p A ρ0 (ds.drop (i+1))=some rest:=hc5
     obtain⟨k1,k2⟩:=keepT I9
     exact⟨ds.length- (i+1),by omega,i+1,xs,ad,σ8,H9,rfl,hlt,I9.unpinned,k1,k2,fg (q8.ext sm9),sm5.trans (s7'.trans sm9),sm9 _ _ (s7' _ _ ac5),rp5.mono w9,w5.trans w9,v5.trans w9,λj o=>na1 j (ow01 j o),rest,hc5,hy5⟩
    |true=>
     have hc5:((A ρ1).bind λys=>(ka g p A ρ0 (ds.drop (i+1))).map (ys++ ·))=some rest:=hc5
     cases e5:A ρ1 with
     |none=>rw[e5] at hc5;cases hc5
     |some zs=>
      rw[e5] at hc5;have hc5:(ka g p A ρ0 (ds.drop (i+1))).map (zs++ ·)=some rest:=hc5
      cases e6:ka g p A ρ0 (ds.drop (i+1)) with
      |none=>rw[e6] at hc5;cases hc5
      |some rest'=>
       rw[e6] at hc5;cases hc5
       have l1:=rp5.length
       have l2:=congrArg List.length hy5
       simp only[List.length_append] at l2;refine hA ds[i] ρ1 e3 _ s9 σ8 H9 xs ad zs _ I9 (q8.ext sm9) (sm9 _ _ (s7' _ _ ac5)) (rp5.mono w9) (by omega) (sm5.trans (s7'.trans sm9)) (w5.trans w9) na1 e5 λs10 σ10 H10 xs' I10 q10 a10 rp10 smL v10 na10=>?_
       obtain⟨k1,k2⟩:=keepT I10
       exact⟨ds.length- (i+1),by omega,i+1,xs',ad++zs,σ10,H10,rfl,hlt,I10.unpinned,k1,k2,fg q10,smL,a10,rp10,(w5.trans w9).trans v10,(v5.trans w9).trans v10,λj o=>na10 j (ow01 j o),rest',e6,by rw[<-hy5];simp⟩
 ·have e:i=ds.length:=by omega
  subst e;rw[List.drop_eq_nil_of_le (Nat.le_refl _)] at hc5;cases hc5
  rw[List.append_nil] at hy5;subst hy5;refine aZ (T.done Y rfl rfl rfl hcalm ds.length aa s5 σ5 H5 (λ_ _=>False) I5 (stat f5) st5 (io.2 H5 sm5 wH)) λr s6 hq_=>?_
  obtain⟨hr,I6⟩:=hq_
  subst hr;exact hR s6 σ5 H5 xs I6 sr5 sm5 ac5 rp5 v5 na5
end
def xY(f:FE):FA:=λρ=>(f ρ).map λd=>[d]
def Cm(gi:FA)(g:FG)(p:FT)(f:FE):FA:=λρ1=>(gi ρ1).bind λds=>ka g p (xY f) ρ1 ds
def mE(m:Nat)(gi1:FA)(g1:FG)(p1:FT)(gi2:FA)(g2:FG)(p2:FT)(f:FE):FE:=λρ=>(gi1 ρ).bind λds=>(ka g1 p1 (Cm gi2 g2 p2 f) (ρ++List.replicate m .no) ds).bind λys=>if ys.length<=sizeLine then some (.lst ys) else none
theorem nT {m:Nat}{gi1 gi2:FA}{g1 g2:FG}{p1 p2:FT}{f:FE}{ρ:ay}{d:D}(h:mE m gi1 g1 p1 gi2 g2 p2 f ρ=some d): ∃ds ys,gi1 ρ=some ds/\ka g1 p1 (Cm gi2 g2 p2 f) (ρ++List.replicate m .no) ds=some ys/\ys.length<=sizeLine/\d=.lst ys:=by
 unfold mE at h;cases e1:gi1 ρ with
 |none=>rw[e1] at h;cases h
 |some ds=>
  rw[e1] at h;dsimp only[Option.bind] at h;cases e2:ka g1 p1 (Cm gi2 g2 p2 f) (ρ++List.replicate m .no) ds with
  |none=>rw[e2] at h;cases h
  |some ys=>
   rw[e2] at h;dsimp only at h;split at h
   ·cases h;exact⟨ds,ys,rfl,e2, ‹_›,rfl⟩
   ·cases h
def sh(n:Nat)(g:FG):Prop:= ∀d (ρ0 ρ1:ay),g d ρ0=some ρ1-> ∀i:Nat,n<=i->ρ1[i]? =ρ0[i]?
def ud(n:Nat)(g:pW):Prop:= ∀d (ρ0 ρ1:ay),g d ρ0=some ρ1-> ∀i:Nat,n<=i->ρ1[i]? =ρ0[i]?
theorem vX {n i:Nat}(h:i<n):sh n (gN i):=λd ρ0 ρ1 e=>by
 cases e
 exact λj hj=>List.getElem?_set_ne (by omega)
theorem zy {n:Nat}:ud n kT:=λd ρ0 ρ1 e=>by
 unfold kT at e;split at e
 ·cases e;exact λ_ _=>rfl
 ·cases e
theorem rO {n:Nat}{g:FG}{gs:pW}(h1:sh n g)(h2:ud n gs):ud n (fW g gs):=λd ρ0 ρ1 e=>by
 cases d with
 |nil=>cases e
 |cons d ds=>
  have e:(g d ρ0).bind (λρ'=>gs ds ρ')=some ρ1:=e
  cases e1:g d ρ0 with
  |none=>rw[e1] at e;cases e
  |some ρ2=>
   rw[e1] at e;exact λi hi=>(h2 ds ρ2 ρ1 e i hi).trans (h1 d ρ0 ρ2 e1 i hi)
theorem Fl {n m:Nat}{gs:pW}(h:ud n gs):sh n (gT m gs):=λd ρ0 ρ1 e=>by
 unfold gT at e;split at e
 ·split at e
  ·exact h _ _ _ e
  ·cases e
 ·cases e
section
variable {prog:Program}{w:World}{A:Around}{R:Result->Shared->Prop}{s:Shared}{elt t1 t2 i1 i2:Expr}{ifs1 ifs2:List Expr}{scope:Scope}{pos:Pos}{it acc:Value}{env:Env}
theorem xh
 (h0:codeAny (model prog w) A (.compLoop (.ListComp elt [⟨t1,i1,ifs1,0⟩,⟨t2,i2,ifs2,0⟩] scope pos) 1 it acc env) R s)
 (h:wpAny (model prog w) A (pyIter it) (λit' s'=>codeAny (model prog w) A (.compLoop (.ListComp elt [⟨t1,i1,ifs1,0⟩,⟨t2,i2,ifs2,0⟩] scope pos) 1 it' acc env) R s')
   (notedBy (model prog w) A env λx s'=>R (.error x) s') s):
 codeAny (model prog w) A (.compStart (.ListComp elt [⟨t1,i1,ifs1,0⟩,⟨t2,i2,ifs2,0⟩] scope pos) 1 it acc env) R s:=by
 refine codeAny_of_tree (show wpAny _ _ ((compStart (.ListComp elt [⟨t1,i1,ifs1,0⟩,⟨t2,i2,ifs2,0⟩] scope pos) 1 it acc env).onRaise (λx=>do noteFrame x env;standAt theWindowsPlace)) _ _ s from wpAny_notedAt ?_)
 unfold compStart;show wpAny _ _ (ask>>=_) _ _ s;refine wpAny_bind (wpAny_askSetting (wpAny_ite ?_))
 split
 ·first
   |exact wpAny_bind (wpAny_pure (wpAny_pure (And.intro rfl h0)))
   |exact wpAny_pure (And.intro rfl h0)
 ·first
   |exact wpAny_bind (wpAny_rule (wpAny_bind (wpAny_standAt (wpAny_bind (wpAny_mono h (λit' s' h'=>wpAny_pure (And.intro rfl h')) λ_ _ x=>x)))))
   |(refine wpAny_bind (wpAny_rule ?_);show wpAny _ _ (standAt i2.pos>>=_) _ _ s;exact wpAny_bind (wpAny_standAt (wpAny_bind (wpAny_mono h (λit' s' h'=>wpAny_pure (And.intro rfl h')) λ_ _ x=>x))))
end
section
variable {Y:Cx}{c:Ct}{elt t1 t2 i1 i2:Expr}{ifs1 ifs2:List Expr}{scope:Scope}{pos:Pos}{f:FE}{g2:FG}{p2:FT}{gi2:FA}{hid:aX}{D0:Addr}{L W:Hp}{ρ1:ay}
theorem zg(hxe:Y.xe=λ_ _=>False)(he:DP Y c .s elt f)(hh:hid D0=true)(h00:c.H₀ D0=none)(nD:L D0=none):xO Y c hid D0 L W (xY f) (um Y.prog Y.w Y.A elt (.ref D0) Y.env) ρ1:=by
 intro aa s σ H xs ad zs Q I sr ac rp hz smL wv na hA hQ;unfold xY at hA;cases e5:f ρ1 with
 |none=>rw[e5] at hA;cases hA
 |some y=>
  rw[e5] at hA;cases hA;unfold um;refine aZ (hxe▸he hid ρ1 _ s σ H (λv H'=>Same H H'/\Rep Y.K (vw H' hid) v y) I ⟨sr,y,e5,λv H' s' r=>⟨s',r⟩⟩) λv s10 hq_=>?_
  obtain⟨z,H10,I10,rz,sm10,rp10⟩:=hq_
  have a10:H10 D0=some (.lst xs):=sm10 _ _ ac
  refine aZ (hxe▸gY (X:=Y) _ s10 σ H10 (.ref D0) [z] (.ref D0) [v] (λ_ H'=>H'=aV H10 D0 (.lst (xs++[z]))) I10 rfl (.cons rz .nil) ⟨D0,xs,z,rfl,rfl,a10,by simp at hz;omega,rfl⟩) λ_ s11 ⟨_,H11,I11,_,e11⟩=>?_
  subst e11;have vv:vw (aV H10 D0 (.lst (xs++[z]))) hid=vw H10 hid:=bS hh
  have w10:Same (vw H hid) (vw H10 hid):=aw sm10
  refine hQ s11 σ _ (xs++[z]) I11 ((sr.ext sm10).write hh h00 na a10) aA ?_ (λb o e=>?_) ?_ na
  ·rw[vv];exact(rp.mono w10).append (.cons rp10 .nil)
  ·rw[ax (aM e nD)];exact sm10 _ _ (smL _ _ e)
  ·rw[vv];exact w10
theorem vR(hcalm:Y.calm=true)(hxe:Y.xe=λ_ _=>False){n1:Nat}(hT:dO n1 g2)(hN:Cg n1 ρ1)(hi:DIp Y c t2 i2 gi2)(hg:lv Y c t2 g2)(hp:mM Y c ifs2 p2)(he:DP Y c .s elt f)(hh:hid D0=true)(h00:c.H₀ D0=none)(nD:L D0=none):
 xO Y c hid D0 L W (Cm gi2 g2 p2 f) (pL Y.prog Y.w Y.A (.ListComp elt [⟨t1,i1,ifs1,0⟩,⟨t2,i2,ifs2,0⟩] scope pos) i2 (.ref D0) Y.env) ρ1:=by
 intro aa s σ H xs ad zs Q I sr ac rp hz smL wv na hA hQ;unfold Cm at hA;cases e5:gi2 ρ1 with
 |none=>rw[e5] at hA;cases hA
 |some ds=>
  rw[e5] at hA;have hA:ka g2 p2 (xY f) ρ1 ds=some zs:=hA
  unfold pL;refine aZ (hxe▸hi hid ρ1 aa s σ H (λJ H'=>Same H H'/\ItOk Y.K (vw H' hid) J ds) I ⟨sr,ds,e5,λJ H' s1 io=>⟨s1,io⟩⟩) λv s1 h1=>aZ h1 λitv s2 h2=>?_
  obtain⟨it,fp,tn,J,H2,rfl,I2,T,st2,f2,sm,io⟩:=h2
  have l1:=rp.length
  have loop:codeAny (model Y.prog Y.w) Y.A (.compLoop (.ListComp elt [⟨t1,i1,ifs1,0⟩,⟨t2,i2,ifs2,0⟩] scope pos) 1 (.ref it) (.ref D0) Y.env) (λr s'=>match r with
   | .ok _=>Q s'
   | .error _=>False) s2:=by
   refine qc (L:=L) (W:=vw H2 hid) (ad0:=ad) (xs0:=xs) (A:=xY f) (TA:=um Y.prog Y.w Y.A elt (.ref D0) Y.env) hcalm hxe hT hg hp (λd ρ2 _=>zg hxe he hh h00 nD) hN I2 (sr.ext sm) hh na (sm _ _ ac) (rp.mono (aw sm)) (smL.trans sm) (Same.refl _) T st2 f2 io.b (by omega) hA yX ?_
   intro s' σ' H' xs' I' sr' smL' ac' rp' v' na';exact hQ s' σ' H' xs' I' sr' ac' rp' smL' ((aw sm).trans v') na'
  exact xh loop (T.self Y.A 0 _ _ _ st2 loop)
end
section
variable {X:Cx}{c:Ct}{elt t1 t2 i1 i2:Expr}{ifs1 ifs2:List Expr}{scope:Scope}{pos:Pos}{N':List Str}{m n1:Nat}{gi1 gi2:FA}{g1 g2:FG}{p1 p2:FT}{f:FE}
theorem kz(hcalm:X.calm=true)(hk:scope.kind=.function)(hs:pY scope X.env.scope=true)(hn:qr X.N N' scope=true)(hm:N'.length-X.N.length=m)(hT1:dO X.N.length g1)(hU1:sh n1 g1)(hn1:X.N.length<=n1)(hT2:dO n1 g2)
 (hset: ∀C s₀ H₀ ex,∀x,foldedSetIterable i2 (ar X N' scope C s₀ H₀ ex).env x=pure x)
 (hg1: ∀C s₀ H₀ ex,lv (ar X N' scope C s₀ H₀ ex) c t1 g1) (hp1: ∀C s₀ H₀ ex,mM (ar X N' scope C s₀ H₀ ex) c ifs1 p1) (hi2: ∀C s₀ H₀ ex,DIp (ar X N' scope C s₀ H₀ ex) c t2 i2 gi2)
 (hg2: ∀C s₀ H₀ ex,lv (ar X N' scope C s₀ H₀ ex) c t2 g2) (hp2: ∀C s₀ H₀ ex,mM (ar X N' scope C s₀ H₀ ex) c ifs2 p2) (he: ∀C s₀ H₀ ex,DP (ar X N' scope C s₀ H₀ ex) c .s elt f)
 {E:Value->Shared->Prop} {aa:List (Addr×Obj)} {σ:St} {H:Hp} {s:Shared} {hid:aX} {ρ:ay} {J:It} {it:Addr} {fp:List Addr} {tn:Nat->Heap->Prop} {ds ys:List D} {RR:Value->Addr->Result->Shared->Prop}
 (I:Inv X aa σ H s) (sr:SR X.K c hid ρ σ H) (T:Turn X.prog X.w X.K t1 J fp it tn) (st:tn 0 s.heap) (hF: ∀b∈fp,eW X aa H b) (io:AJ X.K H (vw H hid) J ds) (hz:ys.length<=sizeLine) (hc:ka g1 p1 (Cm gi2 g2 p2 f) (ρ++List.replicate m .no) ds=some ys)
 (hR: ∀(D C:Addr) (s':Shared) (H':Hp) (xs:List V),s.heap.objs.size<=D->s.heap.objs.size<=C->D≠C->H D=none->Same H H'->H' D=some (.lst xs)->Reps X.K (vw H' (a7 hid D)) xs ys->(∃m,s'.heap.Ns C m)->H' C=none->s'.os=s.os->AllBare s'.gens->HOk X.prog X.w H' s'.heap->Un (frs X.stack) fp H H' s.heap s'.heap->RR (.ref D) C (.ok .next) s'):
 wpAny (model X.prog X.w) X.A (newList []) (λacc s₃=>wpAny (model X.prog X.w) X.A (newFunctionEnv scope X.env.globals (oK X.env.cells scope.names []) [] X.env.qual none .none (some X.env)) (λcenv s₄=>
  codeAny (model X.prog X.w) X.A (.compStart (.ListComp elt [⟨t1,i1,ifs1,0⟩,⟨t2,i2,ifs2,0⟩] scope pos) 0 (.ref it) acc {cenv with scope:=relabel scope X.env}) (RR acc cenv.locals) s₄) E s₃) E s:=by
 refine wpAny_newObj_type (oP λh₁ hns₁ kp1 oc₁=>?_)
 dsimp only at hns₁ kp1 oc₁⊢
 generalize hH2:s.heap.push {cls:=.type "list",dict:=none,data:=.seq ([]:List Value).toArray}=H2 at hns₁ kp1 oc₁⊢
 have hC:H2.objs.size=s.heap.objs.size+1:=by rw[<-hH2,Heap.size_push]
 have hD:H s.heap.objs.size=none:=I.hok.fresh (Nat.le_refl _)
 have I2:Inv X aa σ (aV H s.heap.objs.size (.lst [])) {s with heap:=H2}:=by
  rw[<-hH2];exact I.laid (t':=s.toks) (λb o e=>Heap.get?_push_of_some _ e) (Nat.le_refl _) ⟨Nat.zero_le _,[],0,.nil,Heap.get?_push_size _ rfl⟩
 have fpLt: ∀b∈fp,b<s.heap.objs.size:=λb hb=>let⟨o,e,_⟩:=T.obj 0 s.heap st b hb;Heap.lt_size e
 have hF2: ∀b∈fp,eW X aa (aV H s.heap.objs.size (.lst [])) b:=λb hb=>⟨by rw[ax (Nat.ne_of_lt (fpLt b hb))];exact(hF b hb).1,(hF b hb).2⟩
 have kp0: ∀b o,s.heap.get? b=some o->H2.get? b=some o:=λb o e=>by rw[<-hH2];exact Heap.get?_push_of_some _ e
 have IY:=lI (tk:=s.toks) (N':=N') (fp:=fp) I2 hF2 (λb hb=>let⟨o,e,_⟩:=T.obj 0 s.heap st b hb;⟨o,kp0 b o e⟩) hk hs hn hns₁ kp1 oc₁
 rw[hm] at IY;dsimp only at IY;have sr0:SR X.K c (a7 hid s.heap.objs.size) (ρ++List.replicate m .no) (σ++List.replicate m none) (aV H s.heap.objs.size (.lst [])):=(sr.hide (aC hD _) hD aA).more m
 have hρ:ρ.length=X.N.length:=by rw[<-sr.len];exact I.len
 have nf:hid s.heap.objs.size=false:=sr.fresh hD
 have st1:tn 0 h₁:=T.keep _ _ _ st λb hb o e=>kp1 b o (kp0 b o e)
 have na0: ∀i:Nat,Ow (ρ++List.replicate m Sl.no)[i]? ->(σ++List.replicate m none)[i]? ≠some (some (V.ref s.heap.objs.size)):=(sr.more m).notOw nf
 have wv:Same (vw H hid) (vw (aV H s.heap.objs.size (.lst [])) (a7 hid s.heap.objs.size)):=by rw[pI hD];exact Same.refl _
 have nos:Cg X.N.length (ρ++List.replicate m Sl.no):=λi s hi e=>by
  rw[List.getElem?_append_right (by omega),List.getElem?_replicate] at e
  split at e
  ·cases e;rfl
  ·cases e
 have loop: ∀s4:Shared,s4={s with heap:=h₁,toks:=s.toks}->
  codeAny (model X.prog X.w) X.A (.compLoop (.ListComp elt [⟨t1,i1,ifs1,0⟩,⟨t2,i2,ifs2,0⟩] scope pos) 0 (.ref it) (.ref s.heap.objs.size) (compEnvC scope (jY X.env.cells scope H2.objs.size) H2.objs.size X.env)) (RR (.ref s.heap.objs.size) H2.objs.size) s4:=by
  rintro s4 rfl
  have fpY: ∀b∈fp,eW (ar X N' scope H2.objs.size {s with heap:=H2} (aV H s.heap.objs.size (.lst [])) fp) [] (aV H s.heap.objs.size (.lst [])) b:=λb hb=>
   ⟨(hF2 b hb).1,(IY.ok.exf b hb).1,IY.ok.exfs b hb,.inl hb,(IY.ok.exf b hb).2,λq hq=>by have hq':q∈([]:List (Addr×Obj))++[]:=hq;simp at hq'⟩
  refine qc (Y:=ar X N' scope H2.objs.size {s with heap:=H2} (aV H s.heap.objs.size (.lst [])) fp) (L:=H) (hid:=a7 hid s.heap.objs.size) (W:=vw H hid) (ad0:=[]) (xs0:=[]) (A:=Cm gi2 g2 p2 f) (TA:=pL X.prog X.w X.A (.ListComp elt [⟨t1,i1,ifs1,0⟩,⟨t2,i2,ifs2,0⟩] scope pos) i2 (.ref s.heap.objs.size) (compEnvC scope (jY X.env.cells scope H2.objs.size) H2.objs.size X.env))
   hcalm rfl hT1 (hg1 _ _ _ _) (hp1 _ _ _ _) (λd ρ1 e=>vR (Y:=ar X N' scope H2.objs.size {s with heap:=H2} (aV H s.heap.objs.size (.lst [])) fp) hcalm rfl hT2 (λi s hi e'=>?_) (hi2 _ _ _ _) (hg2 _ _ _ _) (hp2 _ _ _ _) (he _ _ _ _) bC (sr.fresh0 hD) hD) nos IY sr0 bC na0 aA .nil (aC hD _) wv T st1 fpY io (by simpa using hz) hc (vK (hset H2.objs.size {s with heap:=H2} (aV H s.heap.objs.size (.lst [])) fp)) ?_
  ·rw[hU1 _ _ _ e i hi] at e'
   exact nos i s (by omega) e'
  ·intro s' σ' H' xs I' _ sm' hx' rp' _ _
   have un1:Un (frs X.stack) fp H (aV H s.heap.objs.size (.lst [])) s.heap H2:=Un.laid (λb o e=>kp0 b o e) (Nat.le_refl _) hD
   exact hR s.heap.objs.size H2.objs.size s' H' xs (Nat.le_refl _) (by rw[hC];exact Nat.le_succ _) (by rw[hC];exact Nat.ne_of_lt (Nat.lt_succ_self _)) hD sm' hx' rp' (let⟨m,hm,_⟩:=I'.loc;⟨m,hm⟩) I'.free I'.os I'.bare I'.hok (un1.trans I'.base)
 exact codeAny_compStart_list (loop _ rfl) (T.self X.A 0 _ _ _ st1 (loop _ rfl))
theorem jo(hcalm:X.calm=true)(n1:Nat)(hT1:dO X.N.length g1)(hU1:sh n1 g1)(hT2:dO n1 g2)(hi:zo X c t1 i1 gi1)
 (hg1: ∀C s₀ H₀ ex,lv (ar X N' scope C s₀ H₀ ex) c t1 g1) (hp1: ∀C s₀ H₀ ex,mM (ar X N' scope C s₀ H₀ ex) c ifs1 p1) (hi2: ∀C s₀ H₀ ex,DIp (ar X N' scope C s₀ H₀ ex) c t2 i2 gi2)
 (hg2: ∀C s₀ H₀ ex,lv (ar X N' scope C s₀ H₀ ex) c t2 g2) (hp2: ∀C s₀ H₀ ex,mM (ar X N' scope C s₀ H₀ ex) c ifs2 p2) (he: ∀C s₀ H₀ ex,DP (ar X N' scope C s₀ H₀ ex) c .s elt f)
 (hk:scope.kind=.function:=by rfl) (hs:pY scope X.env.scope=true:=by kernel_rfl) (hn:qr X.N N' scope=true:=by kernel_rfl) (hm:N'.length-X.N.length=m:=by rfl) (hn1:X.N.length<=n1:=by exact Nat.le_of_ble_eq_true rfl) (hset: ∀x,foldedSetIterable i1 X.env x=pure x:=by intro _;rfl)
 (hset2: ∀C s₀ H₀ ex,∀x,foldedSetIterable i2 (ar X N' scope C s₀ H₀ ex).env x=pure x:=by intros;rfl):
 DP X c .n (.ListComp elt [⟨t1,i1,ifs1,0⟩,⟨t2,i2,ifs2,0⟩] scope pos) (mE m gi1 g1 p1 gi2 g2 p2 f):=by
 intro hid ρ aa s σ H Q I hq;obtain⟨sr,d,hd,q⟩:=hq
 obtain⟨ds,ys,e1,hc,hz,rfl⟩:=nT hd
 rw[eval_ListComp];refine wpAny_comprehension_free (use:=none) rfl hset (bM λx hx=>I.ok.has x (dB hs x hx)) hk (fF hs) ?_
 refine aZ (hi hid ρ aa s σ H (λJ H'=>Same H H'/\AJ X.K H' (vw H' hid) J ds) I ⟨sr,ds,e1,λJ H' s1 io=>⟨s1,io⟩⟩) λv s1 h1=>aZ h1 λitv s2 h2=>?_
 obtain⟨it,fp,tn,J,H2,rfl,I2,T,st2,f2,sm,io⟩:=h2
 refine kz (RR:=λacc C=>compPost (model X.prog X.w) X.A X.xe none (EP X aa σ Q) acc C) hcalm hk hs hn hm hT1 hU1 hn1 hT2 hset2 hg1 hp1 hi2 hg2 hp2 he I2 (sr.ext sm) T st2 f2 io hz hc ?_
 intro D C s' H' xs hDge hCge hDC hD sm' hx rp ⟨mm,hns⟩ hC' hos hbare hok hun;refine⟨mm,hns,λh' hsb=>⟨.ref D,H',?_,rfl,q _ H' (sm.trans sm') ⟨D,xs,ys,rfl,rfl,sm.free hD,hx,rp⟩⟩⟩
 have neC: ∀b o,s2.heap.get? b=some o->b≠C:=λb o e z=>by subst z;exact absurd (Heap.lt_size e) (Nat.not_lt.mpr hCge)
 have hun':Un (frs X.stack) fp H2 H' s2.heap h':=⟨λb o e n h1 h2=>(hsb.2 b (neC b o e)).trans (hun.keep b o e n h1 h2),λb o e n h1 h2=>let⟨sl,z⟩:=hun.slot b o e n h1 h2;⟨sl,(hsb.2 b (neC b o e)).trans z⟩,hun.free,λb o e h2=>let⟨o',z⟩:=hun.there b o e h2;⟨o',(hsb.2 b (neC b o e)).trans z⟩,hun.tups,hun.frzs,hun.tbls⟩
 have hok':HOk X.prog X.w H' h':=λb o e=>by
  have nb: ∀b' o',H' b'=some o'->b'≠C:=λb' o' e' z=>by subst z;rw[hC'] at e';cases e'
  refine(hok b o e).stay (λc' u hc' z=>(hsb.2 c' ?_).trans z) (λ_ z=>z) λ_ _ z=>z
  rcases hc' with z'|z'
  ·rw[z'];exact nb b o e
  ·exact nb c' _ z'
 exact I2.call' (s':={s' with heap:=h'}) (ch:=fp) hos hun' hok' hbare λb hb=>⟨(f2 b hb).2.2.2.1,(f2 b hb).2.1,(f2 b hb).2.2.2.2.1,(f2 b hb).2.2.2.2.2⟩
end
def AO(ds:List D)(lo hi:Option Int):List D:=(ds.drop (HT.sIx ds.length 0 lo)).take (HT.sIx ds.length ds.length hi-HT.sIx ds.length 0 lo)
theorem yv {K:W.Frag}{F:Hp}{xs:List V}{ds:List D}(r:Reps K F xs ds)(lo hi:Option Int):Reps K F (v0 xs lo hi) (AO ds lo hi):=by
 unfold v0 AO;rw[r.length];exact(r.drop _).take _
abbrev FO:=ay->Option (Option Int)
def GK(K:W.Frag)(c:Ct)(hid:aX)(f:FO)(ρ:ay):TO:=λσ H Q=>SR K c hid ρ σ H/\ ∃o,f ρ=some o/\ ∀H',Same H H'->Q o H'
def DO(X:Cx)(c:Ct)(e:Option Expr)(f:FO):Prop:= ∀hid ρ,PO X e (GK X.K c hid f ρ)
theorem PO.imp {X:Cx}{e:Option Expr}{t t':TO}(h:PO X e t)(i: ∀σ H Q,t' σ H Q->t σ H Q):PO X e t':=λaa s σ H Q I q=>h aa s σ H Q I (i σ H Q q)
section
variable {X:Cx}{c:Ct}{e a b:Expr}{f g:FE}{k:Kd}{pos p2:Pos}{lo hi:Option Expr}{l u:FO}
def F3:FO:=λ_=>some none
def Fg(f:FE):FO:=λρ=>(f ρ).bind λd=>match d with
 | .int i=>some (some i)
 |_=>none
theorem tY:DO X c none F3:=λhid ρ=>PO.imp A6 λσ H Q ⟨sr,o,e,q⟩=>by cases e;exact q H (Same.refl _)
theorem uh(h:DP X c k e f):DO X c (some e) (Fg f):=λhid ρ=>PO.imp (zI (h hid ρ)) λσ H Q hq_=>by
 obtain⟨sr,o,e,q⟩:=hq_
 unfold Fg at e;cases e1:f ρ with
 |none=>rw[e1] at e;cases e
 |some d=>
  rw[e1] at e;cases d with
  |int i=>
   cases e
   refine⟨sr,_,e1,λv H' s r=>⟨i,?_,q H' s⟩⟩
   exact(RK.b k r λa n=>sr.fresh n).int
  |_=>cases e
def Bb(f:FE)(l u:FO):FE:=λρ=>(f ρ).bind λd=>match d with
 | .lst ds=>(l ρ).bind λlo=>(u ρ).map λhi=>.lst (AO ds lo hi)
 |_=>none
theorem xb(he:DP X c k e f)(hl:DO X c lo l)(hu:DO X c hi u):DP X c .n (.Subscript e (.Slice lo hi none p2) pos) (Bb f l u):=λhid ρ=>
 PE.imp (wX zW (he hid ρ) (hl hid ρ) (hu hid ρ)) λσ H Q hq_=>by
  obtain⟨sr,d,hd,q⟩:=hq_
  unfold Bb at hd;cases e1:f ρ with
  |none=>rw[e1] at hd;cases hd
  |some z=>
   rw[e1] at hd;cases z with
   |lst ds=>
    have hd:((l ρ).bind λlo=>(u ρ).map λhi=>D.lst (AO ds lo hi))=some d:=hd
    cases e2:l ρ with
    |none=>rw[e2] at hd;cases hd
    |some o1=>
     rw[e2] at hd;cases e3:u ρ with
     |none=>rw[e3] at hd;cases hd
     |some o2=>
      rw[e3] at hd;cases hd;refine⟨sr,_,e1,λv H1 s1 r1=>⟨sr.ext s1,o1,e2,λH2 s2=>⟨(sr.ext s1).ext s2,o2,e3,λH3 s3=>?_⟩⟩⟩
      obtain⟨a,xs,rfl,h1,h2⟩:=((RK.b k r1 λa n=>sr.fresh n).ext (s2.trans s3)).lst
      exact⟨a,xs,rfl,h1,λp hp=>q _ _ ((s1.trans (s2.trans s3)).trans (aC hp _)) (c8 hp (s1.trans (s2.trans s3)) (yv h2 o1 o2))⟩
   |_=>cases hd
end
end L2
namespace PySem
open Sem (wp)
open AutoSeq1 (wpAny_loadPart')
section
variable {prog:Program}{w:World}{A:Around}{E:Value->Shared->Prop}{s:Shared}
theorem lW {it t:Addr}{i:Nat}{us}{x:Value}{Q:Value->Shared->Prop}(hit:s.heap.IsTupleIter it t i)(ht:s.heap.IsTuple t us)(hx:us[i]? =some x)
 (hQ: ∀g,g.IsTupleIter it t (i+1)->Heap.SameBut it s.heap g->Q x {s with heap:=g}):wpAny (model prog w) A (Builtin.SmallTypes.nextOf (.ref it)) Q E s:=by
 obtain⟨o,ho,hc,hd⟩:=id hit
 obtain⟨ot,hot,_,nt,hdt⟩:=ht
 unfold Builtin.SmallTypes.nextOf;refine wpAny_bind (wpAny_callSpecial?_slot (name:=Str.ofString "__next__") hit.typeIs F.slot_tuple_iterator_next (wpAny_call_entry F.slot_tuple_iterator_next hit.typeIs F.entry_tuple_iterator_next (show wpAny _ _ (field (.ref it) 0>>=_) _ _ s from wpAny_bind (wpAny_field ho hd (x:=.ref t) rfl ?_)) (F.args_tuple_iterator_next_1 _)))
 show wpAny _ _ (if(Value.ref t==Value.none)=true then _ else _) _ _ s
 rw[if_neg (show¬((Value.ref t==Value.none)=true) from Bool.false_ne_true)];refine(show wpAny _ _ (field (.ref it) 1>>=_) _ _ s from wpAny_bind (wpAny_field ho hd (x:=.int i 0) rfl (show wpAny _ _ (seqItems? (.ref t)>>=_) _ _ s from wpAny_bind (wpAny_seqItems hot hdt ?_))))
 simp only[Int.toNat_natCast,hx];exact wpAny_bind (wpAny_setField ho hd (by simp) (wpAny_pure ⟨x,rfl,wpAny_pure (hQ _ ⟨_,Heap.get?_update_self _ ho (Obj.isFreed_of_fields (Obj.data_mapFields hd _)),(Obj.cls_mapFields ..).trans hc,by rw[Obj.data_mapFields hd];simp[rawInt]⟩ (Heap.SameBut.update ..))⟩))
theorem mW {it t:Addr}{i:Nat}{us}{Q:Value->Shared->Prop}(hh:A.handled=none)(hit:s.heap.IsTupleIter it t i)(ht:s.heap.IsTuple t us)(hx:us[i]? =none)
 (hE: ∀g e,Heap.ExtBut it s.heap g->(∃o,g.get? e=some o/\o.cls=.type "StopIteration")->E (.ref e) {s with heap:=g}):wpAny (model prog w) A (Builtin.SmallTypes.nextOf (.ref it)) Q E s:=by
 obtain⟨o,ho,hc,hd⟩:=id hit
 obtain⟨ot,hot,_,nt,hdt⟩:=ht
 unfold Builtin.SmallTypes.nextOf;refine wpAny_bind (wpAny_callSpecial?_slot (name:=Str.ofString "__next__") hit.typeIs F.slot_tuple_iterator_next (wpAny_call_entry F.slot_tuple_iterator_next hit.typeIs F.entry_tuple_iterator_next (show wpAny _ _ (field (.ref it) 0>>=_) _ _ s from wpAny_bind (wpAny_field ho hd (x:=.ref t) rfl ?_)) (F.args_tuple_iterator_next_1 _)))
 show wpAny _ _ (if(Value.ref t==Value.none)=true then _ else _) _ _ s
 rw[if_neg (show¬((Value.ref t==Value.none)=true) from Bool.false_ne_true)];refine(show wpAny _ _ (field (.ref it) 1>>=_) _ _ s from wpAny_bind (wpAny_field ho hd (x:=.int i 0) rfl (show wpAny _ _ (seqItems? (.ref t)>>=_) _ _ s from wpAny_bind (wpAny_seqItems hot hdt ?_))))
 simp only[Int.toNat_natCast,hx];refine wpAny_bind (wpAny_rule (wpAny_bind (wpAny_setField ho hd (by simp) (show wpAny _ _ (newExc (.type "StopIteration") []>>=_) _ _ _ from wpAny_bind ?_))))
 simp only[newExc,newTuple];refine wpAny_bind (wpAny_newObj_type ?_ (by size_fits))
 refine wpAny_bind (m:=firstArgMember _ _) (wpAny_of_eq (a:=Value.none) (by first|rfl|(simp only[firstArgMember];rfl)) (wpAny_newObj_type ?_ (by size_fits)))
 simp only[raiseNew];refine wpAny_bind (wpAny_handled ?_)
 first|rw[show A.in1.handled=none from hh]|rw[hh]
 exact wpAny_bind (wpAny_pure (wpAny_throw (hE _ _ (((Heap.SameBut.update ..).extBut.push _).push _) ⟨_,Heap.get?_push_size _ rfl,rfl⟩)))
theorem ph {e it:Addr}{i:Nat}{x old:Value}{N:Heap->Prop}{Q:Option Value->Shared->Prop}(he:IsEnum s.heap e it i old)(hne:e≠it)(hNk: ∀g g',N g->(∀o,g.get? it=some o->g'.get? it=some o)->N g')
 (nx: ∀(A':Around) (Q':Value->Shared->Prop) (E':Value->Shared->Prop),(∀g,N g->Heap.SameBut it s.heap g->Q' x {s with heap:=g})->wpAny (model prog w) A' (Builtin.SmallTypes.nextOf (.ref it)) Q' E' s)
 (hQ: ∀g,IsEnumOut g e it ((i:Int)+1) x s.heap.objs.size->N g->g.get? s.heap.objs.size=some {cls:=.type "tuple",data:=.seq #[.int i s.toks,x]}->g.objs.size=s.heap.objs.size+1->
   (∀b o,b≠e->b≠it->s.heap.get? b=some o->g.get? b=some o)->Q (some (.ref s.heap.objs.size)) {s with heap:=g,toks:=s.toks+1}):wpAny (model prog w) A (pyNext (.ref e)) Q E s:=by
 have hT:s.TypeIs (.ref e) "enumerate":=⟨_,he,rfl⟩
 unfold pyNext;refine wpAny_bind (wpAny_attempt (wpAny_callSpecial?_slot (name:=Str.ofString "__next__") hT F.slot_enumerate_next (wpAny_call_entry F.slot_enumerate_next hT F.entry_enumerate_next ?_ (F.args_enumerate_next_1 _))))
 obtain⟨hp,gn,dr,tk,os⟩:=s
 refine(show wpAny _ _ (field (.ref e) 2>>=_) _ _ _ from wpAny_bind (wpAny_field he rfl (x:=.ref it) rfl (wpAny_bind (nx _ _ _ λg₁ n₁ b₁=>?_))))
 replace b₁:Heap.SameBut it hp g₁:=b₁
 have e₁:IsEnum g₁ e it i old:=(b₁.2 e hne).trans he
 refine(show wpAny _ _ (field (.ref e) 3>>=_) _ _ ⟨g₁,gn,dr,tk,os⟩ from wpAny_bind (wpAny_field e₁ rfl (x:=rawInt i) rfl ?_))
 refine(show wpAny _ _ (field (.ref e) 4>>=_) _ _ ⟨g₁,gn,dr,tk,os⟩ from wpAny_bind (wpAny_field e₁ rfl (x:=.none) rfl ?_))
 refine(show wpAny _ _ (mkInt i>>=_) _ _ ⟨g₁,gn,dr,tk,os⟩ from wpAny_bind (wpAny_mkInt ?_))
 refine(show wpAny _ _ (setField (.ref e) 3 (rawInt ((i:Int)+1))>>=_) _ _ ⟨g₁,gn,dr,tk+1,os⟩ from wpAny_bind (wpAny_setField_rec e₁ (by simp) λg₂ e₂ b₂=>?_))
 replace b₂:Heap.SameBut e g₁ g₂:=b₂
 replace e₂:IsEnum g₂ e it ((i:Int)+1) old:=e₂
 refine(show wpAny _ _ (setField (.ref e) 4 .none>>=_) _ _ ⟨g₂,gn,dr,tk+1,os⟩ from wpAny_bind (wpAny_setField_rec e₂ (by simp) λg₃ e₃ b₃=>?_))
 replace b₃:Heap.SameBut e g₂ g₃:=b₃
 replace e₃:IsEnum g₃ e it ((i:Int)+1) old:=e₃
 refine(show wpAny _ _ (newTuple [.int i tk,x]>>=_) _ _ ⟨g₃,gn,dr,tk+1,os⟩ from wpAny_bind (wpAny_newTuple ?_))
 have z₃:g₃.objs.size=hp.objs.size:=by rw[b₃.1,b₂.1,b₁.1]
 have le:e<hp.objs.size:=Heap.lt_size he
 have e₄:IsEnum (g₃.push {cls:=.type "tuple",data:=.seq #[.int i tk,x]}) e it ((i:Int)+1) old:=Heap.get?_push_of_some _ e₃
 have n₄:N (g₃.push {cls:=.type "tuple",data:=.seq #[.int i tk,x]}):=hNk _ _ n₁ λo ho=>Heap.get?_push_of_some _ (b₃.extBut _ _ (Ne.symm hne) (b₂.extBut _ _ (Ne.symm hne) ho))
 have t₄:(g₃.push {cls:=.type "tuple",data:=.seq #[.int i tk,x]}).get? hp.objs.size=some {cls:=.type "tuple",data:=.seq #[.int i tk,x]}:=by rw[<-z₃];exact Heap.get?_push_size _ rfl
 have s₄:(g₃.push {cls:=.type "tuple",data:=.seq #[.int i tk,x]}).objs.size=hp.objs.size+1:=by rw[Heap.size_push,z₃]
 have k₄: ∀b o,b≠e->b≠it->hp.get? b=some o->(g₃.push {cls:=.type "tuple",data:=.seq #[.int i tk,x]}).get? b=some o:=λb o h1 h2 h3=>Heap.get?_push_of_some _ (b₃.extBut b o h1 (b₂.extBut b o h1 (b₁.extBut b o h2 h3)))
 generalize g₃.push {cls:=.type "tuple",data:=.seq #[.int i tk,x]}=g₄ at e₄ n₄ t₄ s₄ k₄
 rw[z₃];refine(show wpAny _ _ (Builtin.SmallTypes.ownedTupleIsFree (.ref e)>>=_) _ _ ⟨g₄,gn,dr,tk+1,os⟩ from wpAny_bind ?_)
 unfold Builtin.SmallTypes.ownedTupleIsFree;refine wpAny_bind (wpAny_field e₄ rfl (x:=.none) rfl (wpAny_pure ?_))
 simp only[if_true];refine wpAny_bind (wpAny_rule (wpAny_bind (wpAny_field e₄ rfl (x:=old) rfl (wpAny_bind (wpAny_setField_rec e₄ (by simp) λg₅ e₅ b₅=>?_)))))
 replace b₅:Heap.SameBut e g₄ g₅:=b₅
 replace e₅:IsEnum g₅ e it ((i:Int)+1) x:=e₅
 refine(show wpAny _ _ (Builtin.SmallTypes.ownedTupleHandOut (.ref e) (.ref hp.objs.size)>>=_) _ _ ⟨g₅,gn,dr,tk+1,os⟩ from wpAny_bind ?_)
 unfold Builtin.SmallTypes.ownedTupleHandOut;refine wpAny_bind (wpAny_setField_rec e₅ (by simp) λg₆ e₆ b₆=>?_)
 replace b₆:Heap.SameBut e g₅ g₆:=b₆
 replace e₆:IsEnumOut g₆ e it ((i:Int)+1) x hp.objs.size:=e₆
 refine wpAny_setField_rec e₆ (by simp) λg₇ e₇ b₇=>?_
 replace b₇:Heap.SameBut e g₆ g₇:=b₇
 replace e₇:IsEnumOut g₇ e it ((i:Int)+1) x hp.objs.size:=e₇
 refine wpAny_bind (wpAny_letGo (wpAny_pure ⟨_,rfl,wpAny_pure (hQ g₇ e₇ (hNk _ _ n₄ λo ho=>?_) ?_ ?_ λb o h1 h2 h3=>?_)⟩))
 ·exact b₇.extBut _ _ (Ne.symm hne) (b₆.extBut _ _ (Ne.symm hne) (b₅.extBut _ _ (Ne.symm hne) ho))
 ·exact b₇.extBut _ _ (Nat.ne_of_gt le) (b₆.extBut _ _ (Nat.ne_of_gt le) (b₅.extBut _ _ (Nat.ne_of_gt le) t₄))
 ·rw[b₇.1,b₆.1,b₅.1,s₄]
 ·exact b₇.extBut b o h1 (b₆.extBut b o h1 (b₅.extBut b o h1 (k₄ b o h1 h2 h3)))
theorem qa {e it:Addr}{i:Nat}{old:Value}{Q:Option Value->Shared->Prop}(he:IsEnum s.heap e it i old)
 (nx: ∀(A':Around),A'.handled=A.handled-> ∀(Q':Value->Shared->Prop) (E':Value->Shared->Prop),(∀g x,Heap.ExtBut it s.heap g->(∃o,g.get? x=some o/\o.cls=.type "StopIteration")->E' (.ref x) {s with heap:=g})->wpAny (model prog w) A' (Builtin.SmallTypes.nextOf (.ref it)) Q' E' s)
 (hQ: ∀g,Heap.ExtBut it s.heap g->Q none {s with heap:=g}):wpAny (model prog w) A (pyNext (.ref e)) Q E s:=by
 have hT:s.TypeIs (.ref e) "enumerate":=⟨_,he,rfl⟩
 unfold pyNext;refine wpAny_bind (wpAny_attempt (wpAny_callSpecial?_slot (name:=Str.ofString "__next__") hT F.slot_enumerate_next (wpAny_call_entry F.slot_enumerate_next hT F.entry_enumerate_next (show wpAny _ _ (field (.ref e) 2>>=_) _ _ _ from wpAny_bind (wpAny_field he rfl (x:=.ref it) rfl (wpAny_bind (nx A.in1 rfl _ _ λg x k hx=>?_)))) (F.args_enumerate_next_1 _))))
 obtain⟨o,ho,hc⟩:=hx
 exact wpAny_bind (wpAny_isInstance (T:="StopIteration") (b:=true) ⟨o,ho,hc⟩ isSubtype_stop (wpAny_pure (hQ _ k)))
end
set_option maxHeartbeats 1000000 in
theorem pj(l:Addr)(us:Array Value)(n:Nat)(dct:Option Addr)(sl:Array (Option Value)):
 Meets (Builtin.«enumerate.__new__» ⟨[.type "enumerate",.ref l],[]⟩) (λ_ R s=>s.heap.get? l=some {cls:=.type "tuple",dict:=dct,data:=.seq us n,slots:=sl}/\
  R (.ok (.ret (.ref (s.heap.push {cls:=.type "tuple_iterator",data:=.fields #[.ref l,.int 0 0]}).objs.size)))
   {s with heap:=(s.heap.push {cls:=.type "tuple_iterator",data:=.fields #[.ref l,.int 0 0]}).push {cls:=.type "enumerate",data:=.fields #[.none,.bool false,.ref s.heap.objs.size,rawInt 0,.none,.none]}}):=
 .of_wp λprog w A R s h=>by
  obtain⟨hp,g,d,tk,os⟩:=s;obtain⟨hl,h⟩:=h
  have hsub:=sub_enumerate
  have hL:Heap.IsTuple (Shared.heap ⟨hp,g,d,tk,os⟩) l us:=⟨_,hl,rfl,n,rfl⟩
  wp_walk using wpAny_loadPart' hl
  refine wpAny_stack_any λst=>wpAny_pure ?_
  split
  ·rename_i c _ _ _ _ _
   cases (c==Value.type "enumerate")
   ·wp_walk using wpAny_loadPart' hl,wpAny_pyIter_tuple hL
    exact⟨_,rfl,h⟩
   ·wp_walk using wpAny_loadPart' hl,wpAny_pyIter_tuple hL
    exact⟨_,rfl,h⟩
  ·wp_walk using wpAny_loadPart' hl,wpAny_pyIter_tuple hL
   exact⟨_,rfl,h⟩
section
variable {prog:Program}{w:World}{A:Around}{E:Value->Shared->Prop}{s:Shared}
theorem m7 {l:Addr}{us:Array Value}{Q:Value->Shared->Prop}(hL:s.heap.IsTuple l us)
 (h: ∀g,IsEnum g (s.heap.objs.size+1) s.heap.objs.size 0 .none->g.IsTupleIter s.heap.objs.size l 0->g.objs.size=s.heap.objs.size+2->(∀b o,s.heap.get? b=some o->g.get? b=some o)->Q (.ref (s.heap.objs.size+1)) {s with heap:=g}):
 wpAny (model prog w) A (call (.type "enumerate") [.ref l]) Q E s:=by
 obtain⟨⟨cls,dct,dat,sl⟩,ho,hc,n,hd⟩:=hL
 have hc:cls=.type "tuple":=hc
 have hd:dat=.seq us n:=hd
 subst hc hd;refine callType_new F.called_enumerate (by decide) (F.typeCall_enumerate_1 _) (F.newCall_enumerate_1 _) (λobj=>F.args_object_init_2 obj _) F.entry_enumerate_new (pj l us n dct sl) ⟨ho,?_⟩
 have hz:(s.heap.push {cls:=.type "tuple_iterator",data:=.fields #[.ref l,.int 0 0]}).objs.size=s.heap.objs.size+1:=Heap.size_push ..
 show _/\_;rw[hz];have he:IsEnum ((s.heap.push {cls:=.type "tuple_iterator",data:=.fields #[.ref l,.int 0 0]}).push {cls:=.type "enumerate",data:=.fields #[.none,.bool false,.ref s.heap.objs.size,rawInt 0,.none,.none]}) (s.heap.objs.size+1) s.heap.objs.size 0 .none:=by
  have:=Heap.get?_push_size (s.heap.push {cls:=.type "tuple_iterator",data:=.fields #[.ref l,.int 0 0]}) (o:={cls:=.type "enumerate",data:=.fields #[.none,.bool false,.ref s.heap.objs.size,rawInt 0,.none,.none]}) rfl
  rw[hz] at this;exact this
 exact⟨⟨_,he,rfl⟩,h _ he ⟨_,Heap.get?_push_of_some _ (Heap.get?_push_size _ rfl),rfl,rfl⟩ (by rw[Heap.size_push,hz]) λb o x=>Heap.get?_push_of_some _ (Heap.get?_push_of_some _ x)⟩
end
end PySem
namespace L2
open PySem PySem.Spec PyProof.Rows
def Gz(K:W.Frag)(a:Addr):It:=
 ⟨λi H=> ∃xs x,SqT K H a xs/\xs[i]? =some x,λi H x H'=> ∃T,x=.ref T/\H T=none/\ ∀xs,SqT K H a xs-> ∃y,xs[i]? =some y/\H'=aV H T (.tup [.int i,y]),λi H=> ∃xs,SqT K H a xs/\xs.length<=i⟩
theorem tN {P:Program}{w:World}{K:W.Frag}{es:List Expr}{x1}{pos:Pos}(a it e:Addr)(hei:e≠it):Turn P w K (.Tuple es x1 pos) (Gz K a) [e,it] e (λi h=>(∃old,IsEnum h e it i old)/\h.IsTupleIter it a i) where
 mem:=by simp
 obj:=λi h st b hb=>by
  obtain⟨⟨old,he⟩,o,ho,hc,hd⟩:=st
  rcases List.mem_cons.mp hb with rfl|hb
  ·exact⟨_,he,λv z=>by cases z⟩
  ·have:b=it:=by simpa using hb
   subst this;exact⟨o,ho,λv z=>by rw[hd] at z;cases z⟩
 keep:=λi h h' st k=>by
  obtain⟨⟨old,he⟩,hit⟩:=st
  exact⟨⟨old,k e (by simp) _ he⟩,hit.at λo x=>k it (by simp) o x⟩
 item:=by
  intro X hP hw hK hc i aa s σ H E I hf st hg;subst hP hw hK;obtain⟨xs,x,hq,hx⟩:=hg
  obtain⟨its,rv,p,hz⟩:=I.tuple hq
  obtain⟨u,hu,ru⟩:=rv.get hx
  obtain⟨⟨old,he⟩,hit⟩:=st
  obtain⟨e0,e1,e2,e3,e4,e5⟩:=hf e (by simp)
  obtain⟨f0,f1,f2,f3,f4,f5⟩:=hf it (by simp)
  have ht:s.heap.IsTuple a its.toArray:=p
  refine ph (x:=u) (N:=λg=>g.IsTupleIter it a (i+1)) he hei (λg g' n k=>n.at k) (λA' Q' E' hq'=>lW hit ht (by simpa using hu) λg n b=>hq' g n b) λg hout hit' hT hsz hk=>⟨_,rfl,?_⟩
  refine wpAny_letOwnedTupleGo_enum hout λg' he' hs'=>?_
  have elt:e<s.heap.objs.size:=Heap.lt_size he
  have k2: ∀b o,b≠e->b≠it->s.heap.get? b=some o->g'.get? b=some o:=λb o h1 h2 h3=>(hs'.2 b h1).trans (hk b o h1 h2 h3)
  have hT':g'.get? s.heap.objs.size=some {cls:=.type "tuple",data:=.seq #[.int i s.toks,u]}:=(hs'.2 _ (Nat.ne_of_gt elt)).trans hT
  have hn:H s.heap.objs.size=none:=I.hok.fresh (Nat.le_refl _)
  have I1:Inv X aa σ (aV H s.heap.objs.size (.tup [.int i,x])) {s with heap:=g',toks:=s.toks+1}:=by
   obtain⟨oi,hoi,hci,hdi⟩:=id (show g'.IsTupleIter it a (i+1) from hit'.at λo y=>(hs'.2 it (Ne.symm hei)).trans y)
   obtain⟨os0,hos0,_⟩:=id hit
   have ilt:it<s.heap.objs.size:=Heap.lt_size hos0
   have I0:Inv X aa σ (aV H s.heap.objs.size (.tup [.int i,x])) {s with heap:=s.heap.push {cls:=.type "tuple",data:=.seq #[.int i s.toks,u]},toks:=s.toks+1}:=
    I.laid (t':=s.toks+1) (λb o q=>Heap.get?_push_of_some _ q) (Nat.le_refl _) (show ObjOk X.prog X.w _ _ _ (.tup [.int i,x]) from
     ⟨Nat.le_of_lt (nN (by simp)),[.int i s.toks,u],.cons ⟨_,rfl⟩ (.cons ru .nil),⟨_,Heap.get?_push_size _ rfl,rfl,_,rfl⟩,_,Heap.get?_push_size _ rfl,rfl⟩)
   have u1:((s.heap.push {cls:=.type "tuple",data:=.seq #[.int i s.toks,u]}).update it λ_=>oi).get? it=some oi:=Heap.get?_update_self (λ_=>oi) (Heap.get?_push_of_some _ hos0) (Obj.isFreed_of_fields hdi)
   have I1:Inv X aa σ (aV H s.heap.objs.size (.tup [.int i,x])) {s with heap:=(s.heap.push {cls:=.type "tuple",data:=.seq #[.int i s.toks,u]}).update it λ_=>oi,toks:=s.toks+1}:=
    I0.turned (t':=s.toks+1) (λb o hb q=>(Heap.get?_update_other _ _ (Ne.symm hb)).trans q) (by rw[ax (Nat.ne_of_lt ilt)];exact f0) f1 f3 f4 f5
   refine I1.turned (t':=s.toks+1) (λb o hb q=>?_) (by rw[ax (Nat.ne_of_lt elt)];exact e0) e1 e3 e4 e5
   by_cases hbi:b=it
   ·subst hbi
    have q':((s.heap.push {cls:=.type "tuple",data:=.seq #[.int i s.toks,u]}).update b λ_=>oi).get? b=some o:=q
    rw[u1] at q';cases q';exact hoi
   ·have q':((s.heap.push {cls:=.type "tuple",data:=.seq #[.int i s.toks,u]}).update it λ_=>oi).get? b=some o:=q
    rw[Heap.get?_update_other _ _ (Ne.symm hbi)] at q'
    by_cases hbT:b=s.heap.objs.size
    ·subst hbT
     rw[Heap.get?_push_size _ rfl] at q';cases q'
     exact hT'
    ·rw[Heap.get?_push_ne _ _ _ hbT] at q'
     exact k2 b o hb hbi q'
  refine⟨.ref s.heap.objs.size,aV H s.heap.objs.size (.tup [.int i,x]),I1,rfl,⟨_,rfl,hn,λys hy=>⟨x,by rw[I.tuple_inj hy hq];exact hx,rfl⟩⟩,⟨⟨u,by simpa using he'⟩,hit'.at λo y=>(hs'.2 it (Ne.symm hei)).trans y⟩,λb hb=>?_⟩
  rcases List.mem_cons.mp hb with rfl|hb
  ·rw[ax (Nat.ne_of_lt elt)];exact e0
  ·have:b=it:=by simpa using hb
   subst this;obtain⟨o,ho,_⟩:=hit
   rw[ax (Nat.ne_of_lt (Heap.lt_size ho))];exact f0
 done:=by
  intro X hP hw hK hc i aa s σ H E I hf st hg;subst hP hw hK;obtain⟨xs,hq,hx⟩:=hg
  obtain⟨its,rv,p,hz⟩:=I.tuple hq
  obtain⟨⟨old,he⟩,hit⟩:=st
  obtain⟨f0,f1,f2,f3,f4,f5⟩:=hf it (by simp)
  have hl:=rv.length
  have hh:=I.ok.hd hc
  refine qa he (λA' hA' Q' E' hq'=>mW (hA'.trans hh) hit (show s.heap.IsTuple a its.toArray from p) (by simp;omega) hq') λg k=>⟨rfl,I.turned (t':=s.toks) (λb o hb z=>k b o hb z) f0 f1 f3 f4 f5⟩
 self:=λ_ _ _ _ _ st h=>let⟨⟨_,he⟩,_⟩:=st;wpAny_pyIter_enum he h
section
variable {X:Cx}{c:Ct}{k:Kd}{es:List Expr}{x1:Nat}{tp pos p:Pos}
def yN(ds:List D):List D:=(List.range ds.length).map λ(i:Nat)=>D.tup [.int i,ds.getD i .non]
def BR(f:FE):FA:=λρ=>(f ρ).bind λd=>match d with
 | .tup ds=>some (yN ds)
 |_=>none
theorem vm {K:W.Frag}{W:Hp}{a:Addr}{xs:List V}{ds:List D}(h1:SqT K W a xs)(h2:Reps K W xs ds):ItOk K W (Gz K a) (yN ds):=by
 have l:=h2.length
 have el:(yN ds).length=ds.length:=by simp[yN]
 refine⟨λi d H e s=>?_,λH s=>⟨_,Same.seqT s h1,by rw[el,<-l];exact Nat.le_refl _⟩⟩
 have hi:i<ds.length:=by rw[<-el];exact(List.getElem?_eq_some_iff.mp e).1
 have ex:xs[i]? =some xs[i]:=List.getElem?_eq_getElem (by omega)
 refine⟨⟨_,xs[i],Same.seqT s h1,ex⟩,λy H' ⟨T,e2,hT,e3⟩=>?_⟩
 subst e2;obtain⟨z,e4,e5⟩:=e3 _ (Same.seqT s h1)
 subst e5;refine⟨aC hT _,λhid tr sw=>?_⟩
 have hf:hid T=false:=by
  cases eh:hid T with
  |false=>rfl
  |true=>obtain⟨o,ho⟩:=tr T eh;rw[hT] at ho;cases ho
 obtain⟨d',e6,r6⟩:=h2.get' e4
 have ed:d=.tup [.int i,d']:=by
  unfold yN at e;rw[List.getElem?_map,List.getElem?_range hi] at e;have:ds.getD i .non=d':=by simp[List.getD,e6]
  rw[Option.map_some,this] at e;exact(Option.some.inj e).symm
 rw[ed];exact gP hT hf (.cons .int (.cons (r6.mono sw) .nil))
theorem yK {iter:Expr}{f:FE}(h:DP X c .s iter f)(hm:X.mg "enumerate"=none)(hg:Gl X "enumerate":=by rfl)(hs:starEach [iter] X.env=[(false,eval iter X.env)]:=by rfl):DIp X c (.Tuple es x1 tp) (.Call (.Name "enumerate" p) [iter] [] pos) (BR f):=by
 intro hid ρ aa s σ H R I hq;obtain⟨sr,ds,hd,q⟩:=hq
 unfold BR at hd;cases e1:f ρ with
 |none=>rw[e1] at hd;cases hd
 |some z=>
  rw[e1] at hd;cases z with
  |tup us=>
   cases hd
   refine Call_ (iD (u:=.type "enumerate") I hg hm (by kernel_rfl) (PyProof.Rows.callWith_type1 (aZ (a8 (h hid ρ) bJ hs pos aa s σ H (λvs H'=> ∃v,vs=[v]/\Same H H'/\Rep X.K (vw H' hid) v (.tup us)) I ⟨sr,_,e1,λv H' s' r=>⟨v,rfl,s',r⟩⟩) λvs s1 ⟨ws,H1,I1,r1,w,e,s',r⟩=>?_) hs rfl))
   subst e;cases r1 with
   |cons ra rb=>
    cases rb
    cases r with
    |tup t1 t2=>
     cases ra
     obtain⟨its,rv,pt,hz⟩:=I1.tuple (SqT.of (bt _ _ _ _ t1))
     refine m7 (show s1.heap.IsTuple _ its.toArray from pt) λg he hit hsz hk=>?_
     refine wpAny_pyIter_enum he ⟨_,[s1.heap.objs.size+1,s1.heap.objs.size],_,_,H1,rfl,I1.kept (t':=s1.toks) λb o e=>hk b o e,tN _ _ _ (Nat.ne_of_gt (Nat.lt_succ_self _)),⟨⟨_,he⟩,hit⟩,λb hb=>?_,q _ H1 s' (vm (SqT.of t1) t2)⟩
     rcases List.mem_cons.mp hb with rfl|hb
     ·exact I1.fpOk (Nat.le_succ _) (I1.hok.fresh (Nat.le_succ _))
     ·have:b=s1.heap.objs.size:=by simpa using hb
      subst this;exact I1.fpOk (Nat.le_refl _) (I1.hok.fresh (Nat.le_refl _))
  |_=>cases hd
end
open PySem PySem.W PySem.Calls PyProof.Rows
def ES {α:Type}(d:α)(n:Nat):Option α:=if n<=sizeLine then some d else none
theorem fx {α:Type}{d:α}{n:Nat}(h:n<=1000):ES d n=some d:=if_pos (Nat.le_of_lt (nN h))
theorem A8(fs:FA)(ρ:ay):bW fs ρ=(fs ρ).bind λds=>ES (.tup ds) ds.length:=rfl
theorem pR(fs:FA)(ρ:ay):eS fs ρ=(fs ρ).bind λds=>ES (.lst ds) ds.length:=rfl
theorem xw(m:Nat)(gi:FA)(g:FG)(p:FT)(f:FE)(ρ:ay):bz m gi g p f ρ=(gi ρ).bind λds=>(ES () ds.length).bind λ_=>(bZ g p f (ρ++List.replicate m .no) ds).map D.lst:=by
 unfold bz ES;congr 1;funext ds
 split<;>rfl
def EG(ds:List D):Option (List D):=match ds with
 | [.int j]=>if j.natAbs<4000000000 then some (wl 0 j.toNat) else none
 |_=>none
theorem qj(f:FA)(ρ:ay):du f ρ=(f ρ).bind EG:=rfl
theorem qp {j:Int}(h:j.natAbs<=1000):EG [.int j]=some (wl 0 j.toNat):=by
 show(if j.natAbs<4000000000 then some (wl 0 j.toNat) else none)=_
 rw[if_pos (by omega)]
theorem jd(i j:Int):bI (.int i) (.int j)=some (.int (i+j)):=rfl
theorem mq(i j:Int):gg (.int i) (.int j)=some (.int (i-j)):=rfl
theorem je(i j:Int):zm (.int i) (.int j)=some (.bl (decide (i<j))):=rfl
theorem lg(i j:Int):BB (.int i) (.int j)=some (.bl (decide (j<i))):=rfl
theorem uz(i j:Int):Fh (.int i) (.int j)=some (.bl (decide (j<=i))):=rfl
theorem cv {i j:Int}(h:0<j):bj (.int i) (.int j)=some (.int (i % j)):=by
 unfold bj i2;dsimp only;rw[if_pos (by simpa using h)]
theorem sK {n:Nat}(h:n<10^200):n<2^1000:=Nat.lt_of_lt_of_le h (by decide)
theorem fy {i j:Int}(h1:i.natAbs<10^200)(h2:j.natAbs<10^200):ck (.int i) (.int j)=some (.int (i*j)):=by
 unfold ck i2;dsimp only;rw[if_pos (by rw[decide_eq_true (sK h1),decide_eq_true (sK h2)];rfl)]
theorem hV {i j:Int}(h1:0<j)(h2:j.natAbs<10^200):cn (.int i) (.int j)=some (.int (i / j)):=by
 unfold cn i2;dsimp only;rw[if_pos (by rw[decide_eq_true h1,decide_eq_true (sK h2)];rfl)]
theorem iS {i j:Int}(h0:0<=j)(h1:j<=1000000)(h2:i.natAbs<2^64):cy (.int i) (.int j)=some (.int (i^j.toNat)):=by
 unfold cy i2;dsimp only;rw[if_pos (by rw[decide_eq_true h0,decide_eq_true h1,decide_eq_true h2];rfl)]
theorem tR {x y:D}(h:cM x<=32):wQ x y=some (.bl (b6 x y)):=if_pos h
theorem ur(i j:Int):b6 (.int i) (.int j)=decide (i=j):=by
 unfold b6;rw[Bool.eq_iff_iff];simp
theorem jp(i:Int):cM (.int i)=0:=by unfold cM;rfl
structure Bag(N:Nat)(a b:Int):Prop where
 a0:0<=a
 a1:a.natAbs<10^180
 b0:0<=b
 b1:b<=N
 lo:b≠0->a.natAbs<2147483647
abbrev bY(a b:Int):List D:=[.int a,.int b]
def pO:FS:=
 aD (iR (cR (au zm (ak 1) (am cI (ab (ak 0) (aj))))) (aT (au df (ak 0) (ak 1))) (skip))
 (aT (av (.int 0)))
def en:List D->Option D:=dX .s 2 pO
def yb:FS:=
 aD (bc 2 (au bj (am qT (ab (am (nF 2 en) (ab (ak 0) (ab (ak 1) (aj)))) (aj))) (au ck (au ck (au cy (av (.int 10)) (av (.int 60))) (au cy (av (.int 10)) (av (.int 60)))) (au cy (av (.int 10)) (av (.int 60))))))
 (aD (iR (cR (au Fh (ak 2) (au cy (av (.int 10)) (av (.int 18))))) (aT (eS (ab (ak 2) (ab (av (.int 0)) (aj))))) (skip))
 (aD (bc 3 (au bj (au bI (au bI (ak 2) (au ck (av (.int 7919)) (ak 1))) (av (.int 17))) (av (.int 2147483647))))
 (aD (fz (fG (du (ab (am jc (ab (am cI (ab (ak 0) (aj))) (ab (av (.int 9)) (aj)))) (aj)))) (gN 4) (bc 3 (au bj (au bI (au bI (au cy (ak 3) (av (.int 5))) (au bj (au df (ak 0) (ak 4)) (av (.int 2147483629)))) (au ck (av (.int 31)) (ak 4))) (av (.int 2147483647)))))
 (aT (eS (ab (ak 3) (ab (av (.int 1)) (aj))))))))
def ya:List D->Option D:=dX .n 5 yb
def ou:FS:=
 aD (iR (cR (au wQ (au df (mK 0) (av (.int 1))) (av (.int 0)))) (aD (bc 2 (au bj (au df (mK 0) (av (.int 0))) (ak 1)))
 (aD (gk (fw 0 (av (.int 0))) (pu (au cn (au df (mK 0) (av (.int 0))) (ak 1))))
 (aT (ak 2)))) (skip))
 (aD (gk (fw 0 (av (.int 0))) (pu (au bj (au bI (au bI (au cy (au df (mK 0) (av (.int 0))) (av (.int 5))) (au ck (av (.int 48271)) (au df (mK 0) (av (.int 1))))) (av (.int 11))) (av (.int 2147483647)))))
 (aD (gk (fw 0 (av (.int 1))) (pu (au bI (au df (mK 0) (av (.int 1))) (av (.int 1)))))
 (aT (au bj (au cn (au bj (au ck (au df (mK 0) (av (.int 0))) (av (.int 69621))) (av (.int 2147483629))) (av (.int 8))) (ak 1)))))
def pB:List D->List D->Option (D×List D):=AU .s 3 ou
theorem cP {i m:Int}(h:0<m):0<=i % m/\i % m<m:=⟨Int.emod_nonneg _ (by omega),Int.emod_lt_of_pos _ h⟩
theorem i9 {N:Nat}{a b m:Int}(B:Bag N a b)(hN:N<=1000000000)(hm:0<m)(hm2:m.natAbs<10^20): ∃d a' b',pB (bY a b) [.int m]=some (.int d,bY a' b')/\Bag (N+1) a' b'/\0<=d/\d<m:=by
 have hm3:m.natAbs<10^200:=Nat.lt_of_lt_of_le hm2 (by decide)
 by_cases hb:b=0
 ·subst hb
  refine⟨a % m,a / m,0,?_,⟨Int.ediv_nonneg B.a0 (by omega),?_,by omega,by omega,λz=>absurd rfl z⟩,cP hm⟩
  ·simp[pB,AU,ou,qw,bY,aD,iR,cR,au,df,mK,ak,av,tR,ur,jp,AA,qP,wP,bc,cv hm,gk,pu,hV hm hm3,fw,iu,gq,C6,aT,o9]
  ·have h1:=B.a1
   have:a / m<=a:=Int.ediv_le_self _ B.a0
   have:0<=a / m:=Int.ediv_nonneg B.a0 (by omega)
   omega
 ·have lo:=B.lo hb
  have p1:a.natAbs<2^64:=Nat.lt_trans lo (by decide)
  have p2:b.natAbs<10^200:=Nat.lt_of_lt_of_le (show b.natAbs<10^10 by have:=B.b1;have:=B.b0;omega) (by decide)
  generalize hA:(a^5+48271*b+11) % 2147483647=A
  have hA':0<=A/\A<2147483647:=by rw[<-hA];exact cP (by decide)
  have p3:A.natAbs<10^200:=Nat.lt_of_lt_of_le (show A.natAbs<10^10 by omega) (by decide)
  refine⟨A*69621 % 2147483629 / 8 % m,A,b+1,?_,⟨hA'.1,?_,by have:=B.b0;omega,by have:=B.b1;omega,λ_=>by omega⟩,cP hm⟩
  ·have c1:(48271:Int).natAbs<10^200:=Nat.lt_of_lt_of_le (show(48271:Int).natAbs<10^10 by decide) (by decide)
   have c2:(69621:Int).natAbs<10^200:=Nat.lt_of_lt_of_le (show(69621:Int).natAbs<10^10 by decide) (by decide)
   have c3:(8:Int).natAbs<10^200:=Nat.lt_of_lt_of_le (show(8:Int).natAbs<10^10 by decide) (by decide)
   have e1:cy (.int a) (.int 5)=some (.int (a^5)):=iS (by decide) (by decide) p1
   have e2:ck (.int 48271) (.int b)=some (.int (48271*b)):=fy c1 p2
   have e3: ∀i:Int,bj (.int i) (.int 2147483647)=some (.int (i % 2147483647)):=λi=>cv (by decide)
   have e4: ∀i:Int,bj (.int i) (.int 2147483629)=some (.int (i % 2147483629)):=λi=>cv (by decide)
   have e5:ck (.int A) (.int 69621)=some (.int (A*69621)):=fy p3 c2
   have e6: ∀i:Int,cn (.int i) (.int 8)=some (.int (i / 8)):=λi=>hV (by decide) c3
   simp[pB,AU,ou,qw,bY,aD,iR,cR,au,df,mK,ak,av,tR,ur,jp,AA,qP,wP,hb,skip,e1,e2,e3,e4,jd,gk,pu,fw,iu,gq,C6,aT,o9,hA,e5,e6,cv hm]
  ·exact Nat.lt_of_lt_of_le (show A.natAbs<10^10 by omega) (by decide)
theorem bv {t u:FS}{ρ ρ':ay}(h:t ρ=.nx ρ'):aD t u ρ=u ρ':=by unfold aD;rw[h]
theorem Ch {t u:FS}{ρ ρ':ay}{d:D}(h:t ρ=.rt d ρ'):aD t u ρ=.rt d ρ':=by unfold aD;rw[h]
abbrev nI(i:Nat):D:=.int (i:Int)
abbrev jA(ns:List Int):D:=.scr (ns.map D.int)
theorem BF(n:Nat):wl 0 n=(List.range n).map nI:=by
 unfold wl;simp
theorem kS {n j:Nat}(h:j<n):wP n (j:Int)=some j:=by
 unfold wP;rw[if_pos (by omega),if_pos (by omega)];simp
theorem zG(ns:List Int)(k:Nat): ∃c,en [jA ns,nI k]=some (.int c):=by
 by_cases h:k<ns.length
 ·refine⟨ns[k],?_⟩
  simp[en,dX,pO,gp,aD,iR,cR,au,ak,am,ab,aj,cI,je,AA,h,aT,df,qP,kS (show k<(ns.map D.int).length by simpa using h)]
  simp[kS h,h]
 ·refine⟨0,?_⟩
  simp[en,dX,pO,gp,aD,iR,cR,au,ak,am,ab,aj,cI,je,AA,h,aT,skip,av]
theorem qd(ns:List Int)(k:D)(c:D): ∀(l:List Nat),(∀i∈l,i<ns.length/\i<1000)-> ∀(x:Int) (s4:Sl),0<=x->x<2147483647-> ∃(x':Int) (s4':Sl),0<=x'/\x'<2147483647/\
 gC (gN 4) (bc 3 (au bj (au bI (au bI (au cy (ak 3) (av (.int 5))) (au bj (au df (ak 0) (ak 4)) (av (.int 2147483629)))) (au ck (av (.int 31)) (ak 4))) (av (.int 2147483647)))) (l.map nI) [.v (jA ns),.v k,.v c,.v (.int x),s4]=.nx [.v (jA ns),.v k,.v c,.v (.int x'),s4']
 | [],_,x,s4,h1,h2=>⟨x,s4,h1,h2,rfl⟩
 |i::l,hl,x,s4,h1,h2=>by
  obtain⟨hi,hi2⟩:=hl i (by simp)
  have e1:cy (.int x) (.int 5)=some (.int (x^5)):=iS (by decide) (by decide) (Nat.lt_of_lt_of_le (show x.natAbs<10^10 by omega) (by decide))
  have e2:ck (.int 31) (nI i)=some (.int (31*i)):=fy (Nat.lt_of_lt_of_le (show(31:Int).natAbs<10^10 by decide) (by decide)) (Nat.lt_of_lt_of_le (show(i:Int).natAbs<10^10 by omega) (by decide))
  have e3: ∀i:Int,bj (.int i) (.int 2147483647)=some (.int (i % 2147483647)):=λi=>cv (by decide)
  have e4: ∀i:Int,bj (.int i) (.int 2147483629)=some (.int (i % 2147483629)):=λi=>cv (by decide)
  obtain⟨y1,y2⟩:=cP (i:=x^5+ns[i] % 2147483629+31*i) (m:=2147483647) (by decide)
  obtain⟨x',s4',g1,g2,g3⟩:=qd ns k c l (λj hj=>hl j (by simp[hj])) _ (.v (nI i)) y1 y2
  refine⟨x',s4',g1,g2,?_⟩
  rw[<-g3];simp[gC,gN,bc,au,ak,av,e1,e2,e3,e4,df,qP,kS (show i<(ns.map D.int).length by simpa using hi),kS hi,hi,jd]
theorem CZ(ns:List Int)(k:Nat)(hk:k<=1000)(hn:ns.length<=63): ∃a b,ya [jA ns,nI k]=some (.lst (bY a b))/\Bag 1 a b:=by
 obtain⟨c,hc⟩:=zG ns k
 have p1:cy (.int 10) (.int 60)=some (.int (10^60)):=iS (by decide) (by decide) (by decide)
 have p2:cy (.int 10) (.int 18)=some (.int (10^18)):=iS (by decide) (by decide) (by decide)
 have q60:((10:Int)^60).natAbs<10^200:=by decide
 have q120:((10:Int)^60*10^60).natAbs<10^200:=by decide
 have m1:ck (.int (10^60)) (.int (10^60))=some (.int (10^60*10^60)):=fy q60 q60
 have m2:ck (.int (10^60*10^60)) (.int (10^60))=some (.int (10^60*10^60*10^60)):=fy q120 q60
 have m3:ck (.int 7919) (nI k)=some (.int (7919*k)):=fy (Nat.lt_of_lt_of_le (show(7919:Int).natAbs<10^10 by decide) (by decide)) (Nat.lt_of_lt_of_le (show(k:Int).natAbs<10^10 by omega) (by decide))
 generalize hA:(if c<0 then -c else c) % (10^60*10^60*10^60)=A
 have hA':0<=A/\A<10^60*10^60*10^60:=by rw[<-hA];exact cP (by decide)
 have s1:bc 2 (au bj (am qT (ab (am (nF 2 en) (ab (ak 0) (ab (ak 1) (aj)))) (aj))) (au ck (au ck (au cy (av (.int 10)) (av (.int 60))) (au cy (av (.int 10)) (av (.int 60)))) (au cy (av (.int 10)) (av (.int 60))))) [.v (jA ns),.v (nI k),.no,.no,.no]=.nx [.v (jA ns),.v (nI k),.v (.int A),.no,.no]:=by
  have m4: ∀i:Int,bj (.int i) (.int (10^60*10^60*10^60))=some (.int (i % (10^60*10^60*10^60))):=λi=>cv (by decide)
  unfold bc;have:au bj (am qT (ab (am (nF 2 en) (ab (ak 0) (ab (ak 1) (aj)))) (aj))) (au ck (au ck (au cy (av (.int 10)) (av (.int 60))) (au cy (av (.int 10)) (av (.int 60)))) (au cy (av (.int 10)) (av (.int 60)))) [.v (jA ns),.v (nI k),.no,.no,.no]=some (.int A):=by
   have ec:am (nF 2 en) (ab (ak 0) (ab (ak 1) aj)) [.v (jA ns),.v (nI k),.no,.no,.no]=some (.int c):=hc
   simp only[au,am,ab,aj,av,Option.bind_some,p1,m1,m2,qT];have ec':((ak 0 [.v (jA ns),.v (nI k),.no,.no,.no]).bind λd=>((ak 1 [.v (jA ns),.v (nI k),.no,.no,.no]).bind λd=>(some []).map λr=>d::r).map λr=>d::r).bind (nF 2 en)=some (.int c):=hc
   rw[ec'];simp only[Option.bind_some,Option.map_some,m4,qT,hA]
  rw[this];rfl
 have r0:gp 5 [jA ns,nI k]=[.v (jA ns),.v (nI k),.no,.no,.no]:=rfl
 unfold ya dX yb;rw[r0,bv s1];have hA180:A.natAbs<10^180:=by
  have:(10:Int)^60*10^60*10^60=((10^180:Nat):Int):=by decide
  rw[this] at hA';omega
 by_cases hb:(10:Int)^18<=A
 ·refine⟨A,0,?_,⟨hA'.1,hA180,by decide,by decide,λz=>absurd rfl z⟩⟩
  simp only[aD,iR,cR,au,ak,List.getElem?_cons_succ,List.getElem?_cons_zero,Option.bind_some,av,p2,uz,AA,decide_eq_true hb,aT,pR,ab,aj,Option.map_some];rw[fx (by simp)]
 ·generalize hx:(A+7919*(k:Int)+17) % 2147483647=x
  have hx':0<=x/\x<2147483647:=by rw[<-hx];exact cP (by decide)
  have m4:bj (.int (A+7919*(k:Int)+17)) (.int 2147483647)=some (.int x):=by rw[cv (by decide),hx]
  have hr:du (ab (am jc (ab (am cI (ab (ak 0) (aj))) (ab (av (.int 9)) (aj)))) (aj)) [.v (jA ns),.v (nI k),.v (.int A),.v (.int x),.no]=some ((List.range (min ns.length 9)).map nI):=by
   rw[qj];simp only[am,ab,aj,ak,av,List.getElem?_cons_zero,Option.bind_some,Option.map_some,cI,jc,List.length_map];have:(if(9:Int)<(ns.length:Int) then(9:Int) else(ns.length:Int))=((min ns.length 9:Nat):Int):=by split<;>omega
   rw[this,qp (by omega),BF,Int.toNat_natCast]
  obtain⟨x',s4',g1,g2,g3⟩:=qd ns (nI k) (.int A) (List.range (min ns.length 9)) (λi hi=>by have:=List.mem_range.mp hi;omega) x .no hx'.1 hx'.2
  refine⟨x',1,?_,⟨g1,Nat.lt_of_lt_of_le (show x'.natAbs<10^10 by omega) (by decide),by decide,by decide,λ_=>by omega⟩⟩
  have f1:fz (fG (du (ab (am jc (ab (am cI (ab (ak 0) (aj))) (ab (av (.int 9)) (aj)))) (aj)))) (gN 4) (bc 3 (au bj (au bI (au bI (au cy (ak 3) (av (.int 5))) (au bj (au df (ak 0) (ak 4)) (av (.int 2147483629)))) (au ck (av (.int 31)) (ak 4))) (av (.int 2147483647)))) [.v (jA ns),.v (nI k),.v (.int A),.v (.int x),.no]=.nx [.v (jA ns),.v (nI k),.v (.int A),.v (.int x'),s4']:=by
   unfold fz fG;rw[hr];exact g3
  have i1:iR (cR (au Fh (ak 2) (au cy (av (.int 10)) (av (.int 18))))) (aT (eS (ab (ak 2) (ab (av (.int 0)) (aj))))) (skip) [.v (jA ns),.v (nI k),.v (.int A),.no,.no]=.nx [.v (jA ns),.v (nI k),.v (.int A),.no,.no]:=by
   simp only[iR,cR,au,ak,List.getElem?_cons_succ,List.getElem?_cons_zero,Option.bind_some,av,p2,uz,AA,decide_eq_false hb,skip]
  have i2:bc 3 (au bj (au bI (au bI (ak 2) (au ck (av (.int 7919)) (ak 1))) (av (.int 17))) (av (.int 2147483647))) [.v (jA ns),.v (nI k),.v (.int A),.no,.no]=.nx [.v (jA ns),.v (nI k),.v (.int A),.v (.int x),.no]:=by
   simp only[bc,au,ak,List.getElem?_cons_succ,List.getElem?_cons_zero,Option.bind_some,av,m3,jd,m4,List.set_cons_succ,List.set_cons_zero]
  rw[bv i1,bv i2,bv f1];simp only[aT,pR,ab,aj,ak,av,List.getElem?_cons_succ,List.getElem?_cons_zero,Option.bind_some,Option.map_some];rw[fx (by simp)]
theorem gV {i n:Nat}{M:List D->List D->Option (D×List D)}{fs:GA}{ρ ρ1:ay}{b0 bs ds bs':List D}{d:D}(h0:iu i ρ=some b0)(h1:fs ρ=some (ds,ρ1))(h2:iu i ρ1=some bs)(h3:ds.length=n)(h4:M bs ds=some (d,bs')):bN i n M fs ρ=some (d,gq i bs' ρ1):=by
 unfold bN;rw[h0];dsimp only;rw[h1];dsimp only;rw[h2];dsimp only;rw[if_pos h3,h4]
theorem qH {f:GE}{fs:GA}{ρ ρ1 ρ2:ay}{d:D}{ds:List D}(h1:f ρ=some (d,ρ1))(h2:fs ρ1=some (ds,ρ2)):iY f fs ρ=some (d::ds,ρ2):=by
 unfold iY bE;rw[h1];dsimp only[Option.bind];rw[h2];rfl
theorem gv {f:FA}{ρ:ay}{ds:List D}(h:f ρ=some ds):fG f ρ=some (ds,ρ):=by unfold fG;rw[h];rfl
theorem vd {f:FE}{ρ:ay}{d:D}(h:f ρ=some d):pu f ρ=some (d,ρ):=by unfold pu;rw[h];rfl
theorem bo {F:D->D->Option D}{f g:FE}{ρ:ay}{x y:D}(h1:f ρ=some x)(h2:g ρ=some y):au F f g ρ=F x y:=by unfold au;rw[h1,Option.bind_some,h2,Option.bind_some]
theorem k5 {F:D->D->Option D}{f g:GE}{ρ ρ1 ρ2:ay}{x y d:D}(h1:f ρ=some (x,ρ1))(h2:g ρ1=some (y,ρ2))(h3:F x y=some d):eX F f g ρ=some (d,ρ2):=by
 unfold eX bE;rw[h1];dsimp only[Option.bind];rw[h2];dsimp only[Option.bind];rw[h3];rfl
theorem fL {i:Nat}{f:FE}{ρ:ay}{d:D}(h:f ρ=some d):bc i f ρ=.nx (ρ.set i (.v d)):=by unfold bc;rw[h]
theorem po {i:Nat}{f:GE}{ρ ρ1:ay}{d:D}(h:f ρ=some (d,ρ1)):mB i f ρ=.nx (ρ1.set i (.v d)):=by unfold mB;rw[h]
theorem AG {f:FA}{ρ:ay}{ds:List D}(h:f ρ=some ds)(h2:ds.length<=1000):bW f ρ=some (.tup ds):=by
 rw[A8,h,Option.bind_some,fx h2]
theorem A2 {f:FA}{ρ:ay}{ds:List D}(h:f ρ=some ds)(h2:ds.length<=1000):eS f ρ=some (.lst ds):=by
 rw[pR,h,Option.bind_some,fx h2]
theorem aW {f:FE}{fs:FA}{ρ:ay}{d:D}{ds:List D}(h1:f ρ=some d)(h2:fs ρ=some ds):ab f fs ρ=some (d::ds):=by unfold ab;rw[h1,h2];rfl
theorem dq {F:List D->Option D}{f:FA}{ρ:ay}{ds:List D}(h:f ρ=some ds):am F f ρ=F ds:=by unfold am;rw[h];rfl
theorem Gi {a n:Nat}(h:0<n):bj (nI a) (nI n)=some (nI (a % n)):=by rw[cv (by omega)];rfl
theorem fA {α:Type}{g:FG}{f:FE}{ρ0:ay}{h o:α->D}: ∀(l:List α),(∀i∈l,∃ρ1,g (h i) ρ0=some ρ1/\f ρ1=some (o i))->bZ g cY f ρ0 (l.map h)=some (l.map o)
 | [],_=>rfl
 |a::l,H=>by
  obtain⟨ρ1,h1,h2⟩:=H a (by simp)
  have ih:=fA l λi hi=>H i (by simp[hi])
  rw[List.map_cons];unfold bZ;rw[h1,Option.bind_some];simp only[cY,Option.bind_some,if_true,h2,ih];rfl
theorem iX {m:Nat}{gi:FA}{g:FG}{p:FT}{f:FE}{ρ:ay}{ds ys:List D}(h1:gi ρ=some ds)(h2:ds.length<=1000)(h3:bZ g p f (ρ++List.replicate m .no) ds=some ys):bz m gi g p f ρ=some (.lst ys):=by
 rw[xw,h1,Option.bind_some,fx h2,Option.bind_some,h3];rfl
theorem rK {f:FA}{ρ:ay}{n:Nat}(h:f ρ=some [nI n])(hn:n<=1000):du f ρ=some ((List.range n).map nI):=by
 rw[qj,h,Option.bind_some,qp (by omega),BF];rfl
theorem E4 {n:Nat}{P:List D->Option D}{ds:List D}(h:ds.length=n):nF n P ds=P ds:=if_pos h
theorem gy {n:Nat}{P:List D->Option D}{fs:FA}{ρ:ay}{ds:List D}(h:fs ρ=some ds)(hl:ds.length=n):am (nF n P) fs ρ=P ds:=(dq h).trans (E4 hl)
theorem vb {kd:Kd}{n:Nat}{t:FS}{ds:List D}{ρ:ay}{d:D}(h:t (gp n ds)=.rt d ρ):dX kd n t ds=some d:=by unfold dX;rw[h]
theorem fY {f:FE}{ρ:ay}{d:D}(h:f ρ=some d):aT f ρ=.rt d ρ:=by unfold aT;rw[h]
theorem qh {p:FT}{t u:FS}{ρ:ay}(h:p ρ=some false):iR p t u ρ=u ρ:=by unfold iR;rw[h]
theorem BC {p:FT}{t u:FS}{ρ:ay}(h:p ρ=some true):iR p t u ρ=t ρ:=by unfold iR;rw[h]
theorem Cn {p q:FT}{ρ:ay}{b:Bool}(h1:p ρ=some false)(h2:q ρ=some b):EU p q ρ=some b:=by unfold EU;rw[h1];exact h2
theorem n9 {p q:FT}{ρ:ay}{b:Bool}(h1:p ρ=some true)(h2:q ρ=some b):jM p q ρ=some b:=by unfold jM;rw[h1];exact h2
theorem ss {p:FT}{ρ:ay}{b:Bool}(h:p ρ=some b):wN p ρ=some (.bl b):=by unfold wN;rw[h];rfl
theorem cN {f:FE}{ρ:ay}{b:Bool}(h:f ρ=some (.bl b)):cR f ρ=some b:=by unfold cR;rw[h];rfl
theorem su {f:FE}{ρ:ay}{b:Bool}(h:f ρ=some (.bl b)):kI f ρ=some b:=by unfold kI;rw[h];rfl
theorem tG {p:FT}{ρ:ay}{b:Bool}(h:p ρ=some b):mh p ρ=some (!b):=by unfold mh;rw[h];rfl
theorem oZ {x:D}(h:cM x<=32):wQ x x=some (.bl true):=by rw[tR h,lU]
theorem n5 {g:FG}{b:FS}{d:D}{r:List D}{ρ ρ1 ρ2:ay}(h1:g d ρ=some ρ1)(h2:b ρ1=.nx ρ2):gC g b (d::r) ρ=gC g b r ρ2:=by
 show(match g d ρ with
  |none=>Out.no
  |some ρ1=>match b ρ1 with
   | .nx ρ2=>gC g b r ρ2
   | .ct ρ2=>gC g b r ρ2
   | .bk ρ2=>.nx ρ2
   | .rt d ρ2=>.rt d ρ2
   | .no=>.no)=_
 rw[h1];dsimp only;rw[h2]
theorem uW {f:GA}{g:FG}{b:FS}{ρ ρ1:ay}{ds:List D}(h:f ρ=some (ds,ρ1)):fz f g b ρ=gC g b ds ρ1:=by unfold fz;rw[h]
theorem pJ {kd:Kd}{n:Nat}{t:FS}{ds:List D}{d:D}(h: ∃ρ,t (gp n ds)=.rt d ρ):dX kd n t ds=some d:=let⟨_,h⟩:=h;vb h
theorem xq {t u:FS}{ρ:ay}{d:D}(P:ay->Prop)(h: ∃ρ',t ρ=.nx ρ'/\P ρ')(hu: ∀ρ',P ρ'-> ∃ρ'',u ρ'=.rt d ρ''): ∃ρ'',aD t u ρ=.rt d ρ'':=by
 obtain⟨ρ',h1,h2⟩:=h
 obtain⟨ρ'',h3⟩:=hu ρ' h2
 exact⟨ρ'',(bv h1).trans h3⟩
theorem t8 {f:GA}{g:FG}{b:FS}{ρ ρ1:ay}{ds:List D}{P:ay->Prop}(h:f ρ=some (ds,ρ1))(hl: ∃ρ',gC g b ds ρ1=.nx ρ'/\P ρ'): ∃ρ',fz f g b ρ=.nx ρ'/\P ρ':=by
 obtain⟨ρ',h1,h2⟩:=hl
 exact⟨ρ',(uW h).trans h1,h2⟩
theorem pE {g:FG}{b:FS}{P:ay->Prop}: ∀(l:List D),(∀d∈l,∀ρ,P ρ-> ∃ρ1 ρ2,g d ρ=some ρ1/\b ρ1=.nx ρ2/\P ρ2)-> ∀ρ,P ρ-> ∃ρ',gC g b l ρ=.nx ρ'/\P ρ'
 | [],_,ρ,p=>⟨ρ,rfl,p⟩
 |d::l,h,ρ,p=>by
  obtain⟨ρ1,ρ2,h1,h2,p2⟩:=h d (by simp) ρ p
  obtain⟨ρ',e,p'⟩:=pE l (λd' hd=>h d' (by simp[hd])) ρ2 p2
  exact⟨ρ',(n5 h1 h2).trans e,p'⟩
theorem mC {m:Nat}: ∀ {l:List D},(∀d∈l,cM d<=m)->cE l<=m
 | [],_=>by simp[cE]
 |d::l,h=>by
  unfold cE;have h1:=h d (by simp)
  have h2:=mC (l:=l) λx hx=>h x (by simp[hx])
  omega
section
variable {X:Cx}{c:Ct}{k:Kd}{pos:Pos}
def A7(i j:Nat)(fs:FA):FS:=λρ=>match fs ρ with
 |some [d1,d2]=>.nx ((ρ.set i (.v d1)).set j (.v d2))
 |_=>.no
theorem xy(i j:Nat){x y:Str}{a b:Expr}{fs:FA}{px py pt:Pos}{kt k2 pt2}(hc:X.calm=true)(hN:X.N.Nodup)(ha:DA X c [a,b] fs)(hi:X.N[i]? =some x:=by rfl)(hj:X.N[j]? =some y:=by rfl)(hij:i≠j:=by decide)
 (hx:X.env.scope.names.lookup x=some .local:=by rfl) (hy:X.env.scope.names.lookup y=some .local:=by rfl)
 (hw:swappedStores [.Tuple [.Name x px,.Name y py] kt pt] (.Tuple [a,b] k2 pt2) X.env=pure (some [x,y]):=by rfl)
 (hs:swapsWithSole [.Tuple [.Name x px,.Name y py] kt pt] (.Tuple [a,b] k2 pt2) pos.line X.env=pure false:=by rfl):
 DS X c k (.Assign [.Tuple [.Name x px,.Name y py] kt pt] (.Tuple [a,b] k2 pt2) pos) (A7 i j fs):=λρ=>
 PS.imp (Dn hc hN hi hj hij hx hy (Aa λhid=>ha hid ρ) hw hs) λD σ H hq_=>by
  obtain⟨hid,sr,q⟩:=hq_
  unfold A7 at q;cases e1:fs ρ with
  |none=>rw[e1] at q;exact q.elim
  |some ds=>
   rw[e1] at q
   match ds,e1,q with
   | [],_,q=>exact q.elim
   | [_],_,q=>exact q.elim
   |_::_::_::_,_,q=>exact q.elim
   | [d1,d2],e1,q=>
     refine⟨hid,sr,[d1,d2],e1,λvs H1 s1 r1=>?_⟩
     cases r1 with
     |cons r1 t=>
      cases t with
      |cons r2 t=>
       cases t
       exact⟨_,_,rfl,q _ H1 hid (((sr.ext s1).setV r1 i).setV r2 j) (aw s1)⟩
end
open PySem PySem.W PySem.Spec PyProof.Rows
section
variable {X:Cx}{c:Ct}{e:Expr}{es:List Expr}{k:Kd}{pos p:Pos}{x:Str}{ps:List Str}{j n:Nat}
def c9(f:FE):FA:=λρ=>(f ρ).bind λd=>match d with
 | .lst ds=>some ds
 | .tup ds=>some ds
 |_=>none
theorem bH {tg iter:Expr}{f:FE}(h:DP X c .s iter f):DIp X c tg iter (c9 f):=λhid ρ aa s σ H R I hq_=>by
 obtain⟨sr,ds,e1,q⟩:=hq_
 unfold c9 at e1;cases e2:f ρ with
 |none=>rw[e2] at e1;cases e1
 |some d=>
  rw[e2,Option.bind_some] at e1;cases d with
  |lst xs=>cases e1;exact cx h hid ρ aa s σ H R I ⟨sr,ds,by unfold jr;rw[e2];rfl,q⟩
  |tup xs=>cases e1;exact vi h hid ρ aa s σ H R I ⟨sr,ds,by unfold yf;rw[e2];rfl,q⟩
  |_=>cases e1
end
theorem db {es rest:List Expr}{x1}{pos:Pos}{env:Env}:starEach (.Tuple es x1 pos::rest) env=(false,eval (.Tuple es x1 pos) env)::starEach rest env:=by rfl
@[elab_as_elim] theorem ar0 {motive:List Value->Prop} (us:List Value) (hl:us.length=0) (h:motive []):motive us:=by
 cases us with
 |nil=>exact h
 |cons a r=>exact absurd hl (Nat.succ_ne_zero _)
@[elab_as_elim] theorem ar1 {motive:List Value->Prop} (us:List Value) (hl:us.length=1) (h: ∀a0,motive [a0]):motive us:=by
 cases us with
 |nil=>exact absurd hl (by decide)
 |cons a0 r=>exact ar0 (motive:=λr=>motive (a0::r)) r (Nat.succ.inj hl) (h a0)
@[elab_as_elim] theorem ar2 {motive:List Value->Prop} (us:List Value) (hl:us.length=2) (h: ∀a0 a1,motive [a0,a1]):motive us:=by
 cases us with
 |nil=>exact absurd hl (by decide)
 |cons a0 r=>exact ar1 (motive:=λr=>motive (a0::r)) r (Nat.succ.inj hl) (h a0)
@[elab_as_elim] theorem ar3 {motive:List Value->Prop} (us:List Value) (hl:us.length=3) (h: ∀a0 a1 a2,motive [a0,a1,a2]):motive us:=by
 cases us with
 |nil=>exact absurd hl (by decide)
 |cons a0 r=>exact ar2 (motive:=λr=>motive (a0::r)) r (Nat.succ.inj hl) (h a0)
@[elab_as_elim] theorem ar4 {motive:List Value->Prop} (us:List Value) (hl:us.length=4) (h: ∀a0 a1 a2 a3,motive [a0,a1,a2,a3]):motive us:=by
 cases us with
 |nil=>exact absurd hl (by decide)
 |cons a0 r=>exact ar3 (motive:=λr=>motive (a0::r)) r (Nat.succ.inj hl) (h a0)
@[elab_as_elim] theorem ar5 {motive:List Value->Prop} (us:List Value) (hl:us.length=5) (h: ∀a0 a1 a2 a3 a4,motive [a0,a1,a2,a3,a4]):motive us:=by
 cases us with
 |nil=>exact absurd hl (by decide)
 |cons a0 r=>exact ar4 (motive:=λr=>motive (a0::r)) r (Nat.succ.inj hl) (h a0)
@[elab_as_elim] theorem ar6 {motive:List Value->Prop} (us:List Value) (hl:us.length=6) (h: ∀a0 a1 a2 a3 a4 a5,motive [a0,a1,a2,a3,a4,a5]):motive us:=by
 cases us with
 |nil=>exact absurd hl (by decide)
 |cons a0 r=>exact ar5 (motive:=λr=>motive (a0::r)) r (Nat.succ.inj hl) (h a0)
@[irreducible] def QP (X:Cx) (c:Ct) (e:Expr) (f:FE):Prop:=DP X c .s e f
@[irreducible] def QA (X:Cx) (c:Ct) (es:List Expr) (f:FA):Prop:=DA X c es f
@[irreducible] def QS (X:Cx) (c:Ct) (k:Kd) (st:Stmt) (t:FS):Prop:=DS X c k st t
@[irreducible] def QSs (X:Cx) (c:Ct) (k:Kd) (st:List Stmt) (t:FS):Prop:=rY X c k st t
section
variable {X:Cx}{c:Ct}{k:Kd}{e a b:Expr}{es:List Expr}{f g:FE}{fs:FA}{pos pos':Pos}{st:Stmt}{rest:List Stmt}{t u:FS}{x:Str}
theorem QP.of(h:DP X c .s e f):QP X c e f:=by unfold QP;exact h
theorem QP.dp(h:QP X c e f):DP X c .s e f:=by unfold QP at h;exact h
theorem QA.da(h:QA X c es fs):DA X c es fs:=by unfold QA at h;exact h
theorem QS.of(h:DS X c k st t):QS X c k st t:=by unfold QS;exact h
theorem QS.ds(h:QS X c k st t):DS X c k st t:=by unfold QS at h;exact h
theorem QSs.to(h:QSs X c k rest t):rY X c k rest t:=by unfold QSs at h;exact h
theorem cT:QA X c [] aj:=by unfold QA;exact ah
theorem aG(h:QP X c e f)(hr:QA X c es fs)(hs:starEach (e::es) X.env=(false,eval e X.env)::starEach es X.env:=by rfl):QA X c (e::es) (ab f fs):=by unfold QA;exact ae h.dp hr.da hs
theorem dM {x1}(h:QA X c es fs):QP X c (.Tuple es x1 pos) (bW fs):=.of (cm h.da)
theorem xA(h:QA X c es fs):QP X c (.List es pos) (eS fs):=.of (DP.toS (eG h.da))
theorem qD(h1:QS X c k st t)(h2:QSs X c k rest u):QSs X c k (st::rest) (aD t u):=by unfold QSs;exact ai h1.ds h2.to
theorem A3(h:QS X c k st t):QSs X c k [st] t:=by unfold QSs;exact aq h.ds
end
section
variable {κ:Type} [DecidableEq κ]
def eI(kvs:List (κ×V))(k:κ):Option V:=(kvs.find? λkv=>decide (kv.1=k)).map (·.2)
def hZ(kvs:List (κ×V))(k:κ)(v:V):List (κ×V):=
 if(kvs.any λkv=>decide (kv.1=k))=true then kvs.map (λkv=>if kv.1=k then(kv.1,v) else kv) else kvs++[(k,v)]
theorem i7 {p:κ×V}{r:List (κ×V)}{k:κ}(e:p.1=k):eI (p::r) k=some p.2:=by simp[eI,List.find?_cons,e]
theorem jx {p:κ×V}{r:List (κ×V)}{k:κ}(e: ¬p.1=k):eI (p::r) k=eI r k:=by simp[eI,List.find?_cons,e]
theorem qR(k:κ): ∀kvs:List (κ×V),(kvs.any λkv=>decide (kv.1=k))=(eI kvs k).isSome
 | []=>rfl
 |p::r=>by
  rw[List.any_cons]
  by_cases e:p.1=k
  ·simp only[i7 e,decide_eq_true e,Bool.true_or,Option.isSome_some]
  ·rw[jx e,decide_eq_false e,Bool.false_or];exact qR k r
theorem gQ(kvs:List (κ×V))(k:κ)(v:V):(hZ kvs k v).length<=kvs.length+1:=by
 unfold hZ;split
 ·rw[List.length_map];omega
 ·rw[List.length_append,List.length_cons,List.length_nil];omega
theorem RelO.isSome_eq {o:Option V}{u:Option Value}(r:RelO o u):o.isSome=u.isSome:=by
 cases o with
 |none=>cases u with
  |none=>rfl
  |some _=>exact(show False from r).elim
 |some _=>cases u with
  |none=>exact(show False from r).elim
  |some _=>rfl
theorem RelO.getD {o:Option V}{u:Option Value}{d:V}{d':Value}(r:RelO o u)(rd:RelV d d'):RelV (o.getD d) (u.getD d'):=by
 cases o with
 |none=>cases u with
  |none=>exact rd
  |some _=>exact(show False from r).elim
 |some _=>cases u with
  |none=>exact(show False from r).elim
  |some _=>exact r
theorem KV.val {kvs:List (κ×V)}{vs:List (κ×Value)}(r:KV kvs vs)(k:κ):RelO (eI kvs k) (valueAt vs k):=by
 unfold KV at r
 induction r with
 |nil=>exact True.intro
 | @cons p q ps qs h t ih=>
   obtain⟨h1,h2⟩:=h
   by_cases e:p.1=k
   ·have e':q.1=k:=h1.symm.trans e
    have b:valueAt (q::qs) k=some q.2:=by simp[valueAt,List.find?_cons,e']
    rw[i7 e,b];exact h2
   ·have e': ¬q.1=k:=λz=>e (h1.trans z)
    have b:valueAt (q::qs) k=valueAt qs k:=by simp[valueAt,List.find?_cons,e']
    rw[jx e,b];exact ih
theorem KV.any {kvs:List (κ×V)}{vs:List (κ×Value)}(r:KV kvs vs)(k:κ):(kvs.any λkv=>decide (kv.1=k))=vs.any λkv=>decide (kv.1=k):=by
 unfold KV at r
 induction r with
 |nil=>rfl
 |cons h t ih=>rw[List.any_cons,List.any_cons,ih,h.1]
theorem KV.repl {kvs:List (κ×V)}{vs:List (κ×Value)}(r:KV kvs vs)(k:κ){y:V}{u:Value}(ry:RelV y u):
 KV (kvs.map λkv=>if kv.1=k then(kv.1,y) else kv) (vs.map λkv=>if kv.1=k then(kv.1,u) else kv):=by
 unfold KV at r⊢
 induction r with
 |nil=>exact .nil
 | @cons p q ps qs h t ih=>
   rw[List.map_cons,List.map_cons];refine .cons ?_ ih
   obtain⟨h1,h2⟩:=h
   by_cases e:p.1=k
   ·rw[if_pos e,if_pos (h1.symm.trans e)];exact⟨h1,ry⟩
   ·rw[if_neg e,if_neg (λz=>e (h1.trans z))];exact⟨h1,h2⟩
theorem KV.put {kvs:List (κ×V)}{vs:List (κ×Value)}(r:KV kvs vs)(k:κ){y:V}{u:Value}(ry:RelV y u):KV (hZ kvs k y) (stored vs k u):=by
 unfold hZ stored;rw[r.any k]
 by_cases e:(vs.any λkv=>decide (kv.1=k))=true
 ·rw[if_pos e,if_pos e];exact r.repl k ry
 ·rw[if_neg e,if_neg e];exact Paired.snoc r ⟨rfl,ry⟩
theorem KV.length {kvs:List (κ×V)}{vs:List (κ×Value)}(r:KV kvs vs):kvs.length=vs.length:=Paired.length r
end
theorem rL {P:Program}{w:World}{k:aS}{u:Value}(r:RelV (kV k) u):(bi P w).is k u=true:=by
 cases k with
 |inl i=>obtain⟨t,e⟩:=(show∃t,u=Value.int i t from r);subst e;exact p6 P w i t
 |inr x=>obtain⟨t,e⟩:=(show∃t,u=Value.str x t from r);subst e;exact qZ P w x t
theorem jP {P:Program}{w:World}: ∀ {ks:List aS} {us:List Value},Vals (ks.map kV) us->ItemsAre (bi P w) ks us
 | [],_,r=>by rw[List.map_nil] at r;cases r;exact .nil
 |k::ks,_,r=>by
  rw[List.map_cons] at r;cases r with
  |cons h t=>exact .cons (rL h) (jP t)
abbrev KTd(H:Hp):List (List aS×V)->List (List aS×Addr×Value)->Prop:=Paired λp q=>p.1=q.1/\H q.2.1=some (.tup (p.1.map kV))/\RelV p.2 q.2.2
theorem KTd.val {H:Hp}{kvs:List (List aS×V)}{xs:List (List aS×Addr×Value)}(r:KTd H kvs xs)(k:List aS):RelO (eI kvs k) ((atKey xs k).map (·.2)):=by
 induction r with
 |nil=>exact True.intro
 | @cons p q ps qs h t ih=>
   obtain⟨h1,_,h2⟩:=h
   by_cases e:p.1=k
   ·have e':q.1=k:=h1.symm.trans e
    have b:atKey (q::qs) k=some q.2:=by simp[atKey,List.find?_cons,e']
    rw[i7 e,b];exact h2
   ·have e': ¬q.1=k:=λz=>e (h1.trans z)
    have b:atKey (q::qs) k=atKey qs k:=by simp[atKey,List.find?_cons,e']
    rw[jx e,b];exact ih
theorem KTd.repl {H:Hp}{kvs:List (List aS×V)}{xs:List (List aS×Addr×Value)}(r:KTd H kvs xs)(k:List aS){y:V}{u:Value}(ry:RelV y u):
 KTd H (kvs.map λkv=>if kv.1=k then(kv.1,y) else kv) (xs.map (putAt k u)):=by
 induction r with
 |nil=>exact .nil
 | @cons p q ps qs h t ih=>
   rw[List.map_cons,List.map_cons];refine .cons ?_ ih
   obtain⟨h1,h2,h3⟩:=h
   unfold putAt
   by_cases e:p.1=k
   ·rw[if_pos e,if_pos (h1.symm.trans e)];exact⟨h1,h2,ry⟩
   ·rw[if_neg e,if_neg (λz=>e (h1.trans z))];exact⟨h1,h2,h3⟩
theorem KTd.put {H:Hp}{kvs:List (List aS×V)}{xs:List (List aS×Addr×Value)}(r:KTd H kvs xs)(k:List aS){b:Addr}{y:V}{u:Value}(hb:H b=some (.tup (k.map kV)))(ry:RelV y u):
 KTd H (hZ kvs k y) (storedH xs k b u):=by
 have e:(kvs.any λkv=>decide (kv.1=k))=(atKey xs k).isSome:=by
  rw[qR,(r.val k).isSome_eq,Option.isSome_map]
 unfold hZ storedH;rw[e]
 by_cases q:(atKey xs k).isSome=true
 ·rw[if_pos q,if_pos q];exact r.repl k ry
 ·rw[if_neg q,if_neg q];exact Paired.snoc r ⟨rfl,hb,ry⟩
theorem KTd.keeps {H H':Hp}{kvs:List (List aS×V)}{xs:List (List aS×Addr×Value)}(r:KTd H kvs xs)(ht: ∀b ys,H b=some (.tup ys)->H' b=some (.tup ys)):KTd H' kvs xs:=
 Paired.mapP r λ_ _ z=>⟨z.1,ht _ _ z.2.1,z.2.2⟩
section
variable {P:Program}{w:World}{H:Hp}{h:Heap}{a:Addr}
theorem Bs {u:HO}(ok:HOk P w H h)(e:Rd H a u):ObjOk P w H h a u:=e.ok ok
theorem n4 {kvs:List (aS×V)}(ok:HOk P w H h)(e:Rd H a (.dK kvs)):kvs.length<=sizeLine/\(a==sysModules)=false/\ ∃vs,KV kvs vs/\h.DictOf (bi P w) a vs:=
 show ObjOk P w H h a (.dK kvs) from Bs ok e
theorem D9 {kvs:List (aS×V)}(ok:HOk P w H h)(e:H a=some (.dK kvs)):kvs.length<=sizeLine/\(a==sysModules)=false/\ ∃vs,KV kvs vs/\h.DictOf (bi P w) a vs:=n4 ok (.inl e)
theorem jO {ks:List aS}(ok:HOk P w H h)(e:H a=some (.tup (ks.map kV))):(tupleKind (bi P w)).is h ks a:=by
 obtain⟨_,its,r,⟨o,h1,h2,n,h3⟩,_⟩:=(show ObjOk P w H h a (.tup (ks.map kV)) from ok a _ e)
 exact⟨o,its.toArray,n,h1,h2,h3,by simpa using jP r⟩
theorem kB {kvs:List (List aS×V)}(ok:HOk P w H h)(e:Rd H a (.dT kvs)):kvs.length<=sizeLine/\(a==sysModules)=false/\
 ∃xs,KTd H kvs xs/\h.DictOfH (tupleKind (bi P w)) a xs:=by
 obtain⟨z,y,xs,r,o,es,ep,h1,h2,h3,h4,h5⟩:=(show ObjOk P w H h a (.dT kvs) from Bs ok e)
 refine⟨z,y,xs,r,o,es,ep,h1,h2,h3,h4,λx hx=>?_,h5⟩
 have all: ∀ {l:List (List aS×V)} {m:List (List aS×Addr×Value)},KTd H l m-> ∀x∈m,(tupleKind (bi P w)).is h x.1 x.2.1:=by
  intro l m q
  induction q with
  |nil=>intro x hx;exact nomatch hx
  | @cons p q ps qs hq t ih=>
    intro x hx;rcases List.mem_cons.mp hx with e|hx
    ·subst e
     exact jO ok (by rw[<-hq.1];exact hq.2.1)
    ·exact ih x hx
 exact all r x hx
theorem ql {kvs:List (List aS×V)}(ok:HOk P w H h)(e:H a=some (.dT kvs)):kvs.length<=sizeLine/\(a==sysModules)=false/\
 ∃xs,KTd H kvs xs/\h.DictOfH (tupleKind (bi P w)) a xs:=kB ok (.inl e)
end
def DGet(H:Hp)(a:Addr)(y:V)(r:Option V):Prop:=
 (∃kvs k,Rd H a (.dK kvs)/\y=kV k/\r=eI kvs k)\/ ∃kvs k b,Rd H a (.dT kvs)/\y=.ref b/\H b=some (.tup (k.map kV))/\r=eI kvs k
def DPut(H:Hp)(a:Addr)(y v:V)(H':Hp):Prop:=
 (∃kvs k,H a=some (.dK kvs)/\y=kV k/\kvs.length<sizeLine/\H'=aV H a (.dK (hZ kvs k v)))\/
 ∃kvs k b,H a=some (.dT kvs)/\y=.ref b/\H b=some (.tup (k.map kV))/\kvs.length<sizeLine/\H'=aV H a (.dT (hZ kvs k v))
theorem DGet.t {H:Hp}{a b:Addr}{kvs:List (List aS×V)}{k:List aS}(e:H a=some (.dT kvs))(eb:H b=some (.tup (k.map kV))):DGet H a (.ref b) (eI kvs k):=.inr ⟨kvs,k,b,.inl e,rfl,eb,rfl⟩
theorem DPut.t {H:Hp}{a b:Addr}{kvs:List (List aS×V)}{k:List aS}{v:V}(e:H a=some (.dT kvs))(eb:H b=some (.tup (k.map kV)))(hl:kvs.length<sizeLine):
 DPut H a (.ref b) v (aV H a (.dT (hZ kvs k v))):=.inr ⟨kvs,k,b,e,rfl,eb,hl,rfl⟩
section
variable {X:Cx}{aa:List (Addr×Obj)}{σ:St}{H:Hp}{s:Shared}{a:Addr}{y v:V}{u r:Value}{o:Option V}{A:Around}{E:Value->Shared->Prop}
theorem Inv.big(I:Inv X aa σ H s):sysModules<s.heap.objs.size:=by
 have h:mainGlobals<s.heap.objs.size:=(I.mod.glob.keeps I.bk).lt
 exact Nat.lt_trans (by decide) h
theorem wK {Q:Value->Shared->Prop}(hu:A.units+1<cLine)(I:Inv X aa σ H s)(g:DGet H a y (some v))(ry:RelV y u)(h: ∀w' s',Inv X aa σ H s'->RelV v w'->Q w' s'):
 wpAny (model X.prog X.w) A (getItem (.ref a) u) Q E s:=by
 rcases g with⟨kvs,k,e,ey,l⟩|⟨kvs,k,b,e,ey,eb,l⟩
 ·subst ey
  obtain⟨z,hd,vs,rel,dd⟩:=n4 I.hok e
  obtain⟨w',hw,rw'⟩:=RelO.some_of (v:=v) (o:=valueAt vs k) (by rw[l];exact rel.val k)
  exact wpAny_getItem_of (rL ry) dd.mapOf hw (h w' _ (I.tok _) rw')
 ·subst ey
  cases (show u=Value.ref b from ry)
  obtain⟨z,hd,xs,rel,dd⟩:=kB I.hok e
  obtain⟨w',hw,rw'⟩:=RelO.some_of (v:=v) (o:=(atKey xs k).map (·.2)) (by rw[l];exact rel.val k)
  obtain⟨p,hp,hp2⟩:=Option.map_eq_some_iff.mp hw
  refine wpAny_getItem_heap (tupleKind_room_in1 hu) (jO I.hok eb) dd hp ?_
  rw[hp2];exact h w' _ (I.tok _) rw'
theorem Aj {Q:Value->Shared->Prop}(hu:A.units+1<cLine)(I:Inv X aa σ H s)(g:DGet H a y o)(ry:RelV y u)(h: ∀s',Inv X aa σ H s'->Q (.bool (!o.isSome)) s'):
 wpAny (model X.prog X.w) A (compareOp .NotIn u (.ref a)) Q E s:=by
 rcases g with⟨kvs,k,e,ey,l⟩|⟨kvs,k,b,e,ey,eb,l⟩
 ·subst ey
  obtain⟨z,hd,vs,rel,dd⟩:=n4 I.hok e
  refine wpAny_notIn_of (rL ry) hd dd.mapOf ?_
  rw[<-(rel.val k).isSome_eq,<-l];exact h _ (I.tok _)
 ·subst ey
  cases (show u=Value.ref b from ry)
  obtain⟨z,hd,xs,rel,dd⟩:=kB I.hok e
  refine wpAny_notIn_heap (tupleKind_room_in1 hu) (jO I.hok eb) hd dd ?_
  have q:=(rel.val k).isSome_eq
  rw[Option.isSome_map] at q;rw[<-q,<-l];exact h _ (I.tok _)
theorem oI {h':Heap}{t':Nat}{ob:HO}(I:Inv X aa σ H s)(mu:ET (H a))(hs:Heap.SameBut a s.heap h')(he: ∃q,h'.get? a=some q)(new:ObjOk X.prog X.w (aV H a ob) h' a ob):
 Inv X aa σ (aV H a ob) {s with heap:=h',toks:=t'}:=
 I.write (x:=a) (e:=a) mu (.inl rfl) (λb q hb z=>(hs.2 b hb).trans z) he new
theorem B0 {P:Program}{w:World}{H':Hp}{h':Heap}{kvs:List (aS×V)}{vs:List (aS×Value)}(z:kvs.length<=sizeLine)(hd:(a==sysModules)=false)(rel:KV kvs vs)(dd:h'.DictOf (bi P w) a vs):
 ObjOk P w H' h' a (.dK kvs):=⟨z,hd,vs,rel,dd⟩
theorem wu {H':Hp}{Q:Unit->Shared->Prop}(hu:A.units+1<cLine)(I:Inv X aa σ H s)(g:DPut H a y v H')(ry:RelV y u)(rv:RelV v r)(h: ∀s',Inv X aa σ H' s'->Q () s'):
 wpAny (model X.prog X.w) A (setItem (.ref a) u r) Q E s:=by
 rcases g with⟨kvs,k,e,ey,l,eH⟩|⟨kvs,k,b,e,ey,eb,l,eH⟩
 ·subst ey eH
  obtain⟨z,hd,vs,rel,dd⟩:=D9 I.hok e
  have hz:vs.length<=sizeLine:=by rw[<-rel.length];exact z
  have hl:(hZ kvs k v).length<=sizeLine:=by have:=gQ kvs k v;omega
  refine wpAny_setItem_pairs (hsz:=hz) (rL ry) dd λh' dd' hs=>h _ ?_
  have he: ∃q,h'.get? a=some q:=let⟨q,_,_,hq,_⟩:=dd';⟨q,hq⟩
  exact oI I (by rw[e];exact True.intro) hs he (B0 hl hd (rel.put k rv) dd')
 ·subst ey eH
  cases (show u=Value.ref b from ry)
  obtain⟨z,hd,xs,rel,dd⟩:=ql I.hok e
  have hz:xs.length<=sizeLine:=by rw[<-Paired.length rel];exact z
  have hl:(hZ kvs k v).length<=sizeLine:=by have:=gQ kvs k v;omega
  refine wpAny_setItem_heap (hsz:=hz) (tupleKind_room_in1 hu) (jO I.hok eb) dd λh' dd' hs=>h _ ?_
  obtain⟨q,es,ep,hq,h2,h3,h4,_,h5⟩:=dd'
  refine oI I (by rw[e];exact True.intro) hs ⟨q,hq⟩ ⟨hl,hd,_,(rel.put k eb rv).keeps λc ys ec=>?_,q,es,ep,hq,h2,h3,h4,h5⟩
  rw[ax (Bn ec e (λz=>nomatch z))]
  exact ec
end
def xf(i:Expr):Prop:= ∀ov iv,subscripted i false ov iv=operate [ov,iv] (getItem ov iv)
theorem uZ {prog:Program}{w:World}{A:Around}{E:Value->Shared->Prop}{s:Shared}{env:Env}{value slice:Expr}{pos:Pos}{T id:String}{Q:Value->Shared->Prop}
 (hl:typeLookup (.type T) "__getitem__"=pure (some (.builtin id))) (hs:xf slice)
 (h:wpAny (model prog w) A (eval value env) (λo s₁=>wpAny (model prog w) A (eval slice env) (λi s₂=>s₂.TypeIs o T/\wpAny (model prog w) A (getItem o i) Q E s₂) E s₁) E s):
 wpAny (model prog w) A (eval (.Subscript value slice pos) env) Q E s:=by
 refine Subscript_ (wpAny_mono h (λo s₁ h₁=>wpAny_mono h₁ (λi s₂ h₂=>?_) λ_ _ x=>x) λ_ _ x=>x)
 obtain⟨hT,h₂⟩:=h₂
 unfold subscriptTail;refine wpAny_bind ?_
 rw[getitemInPython_of_ne hT.not_modules];refine wpAny_bind (wpAny_specialOf hT hl ?_)
 have fin:wpAny (model prog w) A (subscripted slice false o i) (λr s₃=>wpAny (model prog w) A (letTemporaryGo value o r>>=λ_=>pure r) Q E s₃) E s₂:=by
  rw[hs o i];exact wpAny_operating (wpAny_mono h₂ (λr s₃ h₃=>wpAny_bind (wpAny_letTemporaryGo (wpAny_pure h₃))) λ_ _ x=>x)
 first
  |exact wpAny_pure (wpAny_bind fin)
  |exact wpAny_bind (wpAny_pure (wpAny_bind fin))
  |exact wpAny_bind fin
theorem rM {X:Cx}{aa:List (Addr×Obj)}{σ:St}{H:Hp}{s:Shared}{a:Addr}{y:V}{o:Option V}(I:Inv X aa σ H s)(g:DGet H a y o):s.TypeIs (.ref a) "dict":=by
 rcases g with⟨kvs,k,e,_,_⟩|⟨kvs,k,b,e,_,_,_⟩
 ·obtain⟨_,_,vs,_,dd⟩:=n4 I.hok e
  exact dd.typeIs
 ·obtain⟨_,_,xs,_,dd⟩:=kB I.hok e
  exact dd.typeIs
def Ex(td ty:TE):TE:=λσ H Q=>td σ H λx H1=>ty σ H1 λy H2=> ∃a v,x=.ref a/\DGet H2 a y (some v)/\Q v H2
def Ao(ty td:TE):TE:=λσ H Q=>ty σ H λy H1=>td σ H1 λx H2=> ∃a o,x=.ref a/\DGet H2 a y o/\Q (.bl (!o.isSome)) H2
def Eo(td ty tv:TE):TS:=λD σ H=>tv σ H λv H1=>td σ H1 λx H2=>ty σ H2 λy H3=> ∃a H4,x=.ref a/\DPut H3 a y v H4/\D.nx σ H4
section
variable {X:Cx}{o i e value:Expr}{pos pos' tpos:Pos}{td ty tv:TE}
theorem zq(hu:X.A.units+1<cLine)(ho:PE X o td)(hi:PE X i ty)(hs:xf i):PE X (.Subscript o i pos) (Ex td ty):=by
 intro aa s σ H Q I h;refine uZ PySem.F.slot_dict_getitem.lookup hs (aZ (ho aa s σ H _ I h) λu s1 ⟨x,H1,I1,rx,q1⟩=>aZ (hi aa s1 σ H1 _ I1 q1) λiv s2 hq_=>?_)
 obtain⟨y,H2,I2,ry,a,v,ex,g,q2⟩:=hq_
 subst ex;obtain rfl:u=Value.ref a:=rx
 exact⟨rM I2 g,wK hu I2 g ry λw' s3 I3 rw'=>⟨v,H2,I3,rw',q2⟩⟩
theorem vV(hu:X.A.units+1<cLine)(hi:PE X i ty)(ho:PE X o td):PC X .NotIn i o (Ao ty td):=by
 intro aa s σ H Q I h;refine aZ (hi aa s σ H _ I h) λiv s1 ⟨y,H1,I1,ry,q1⟩=>aZ (ho aa s1 σ H1 _ I1 q1) λu s2 hq_=>?_
 obtain⟨x,H2,I2,rx,a,ov,ex,g,q2⟩:=hq_
 subst ex;obtain rfl:u=Value.ref a:=rx
 exact Aj hu I2 g ry λs3 I3=>⟨.bl (!ov.isSome),H2,I3,rfl,q2⟩
theorem oX(hu:X.A.units+1<cLine)(ho:PE X o td)(hi:PE X i ty)(hv:PE X value tv)(hs:swapsWith value (some (.Subscript o i pos')) pos.line X.env=pure false):
 PS X (.Assign [.Subscript o i pos'] value pos) (Eo td ty tv):=by
 intro aa s σ H D I h;refine wpAny_Assign_Subscript (aZ (hv aa s σ H _ I h) λr s1 ⟨v,H1,I1,rv,q1⟩=>aZ (ho aa s1 σ H1 _ I1 q1) λu s2 ⟨x,H2,I2,rx,q2⟩=>aZ (hi aa s2 σ H2 _ I2 q2) λiv s3 ⟨y,H3,I3,ry,a,H4,ex,g,q3⟩=>?_) hs
 subst ex;obtain rfl:u=Value.ref a:=rx
 exact wu hu I3 g ry rv λs4 I4=>⟨σ,H4,I4,q3⟩
end
theorem p9 {P:Program}{w:World}{H:Hp}(h:Heap)(hb:sysModules<h.objs.size):ObjOk P w H (h.push {cls:=.type "dict",data:=.dict #[]}) h.objs.size (.dT []):=
 ⟨Nat.zero_le _,beq_eq_false_iff_ne.mpr (Ne.symm (Nat.ne_of_lt hb)),[],.nil,_, #[],0,Heap.get?_push_size _ rfl,⟨rfl,rfl,rfl⟩,rfl,rfl,List.nodup_nil⟩
def C9:TE:=λ_ H Q=> ∀p,H p=none->Q (.ref p) (aV H p (.dT []))
section
variable {X:Cx}{pos:Pos}
theorem yI:PE X (.Dict [] [] pos) C9:=λaa s σ H Q I h=>
 wpAny_Dict_empty ⟨.ref s.heap.objs.size,_,I.laid (a:=s.heap.objs.size) (o:=.dT []) (t':=s.toks) (λ_ _ q=>Heap.get?_push_of_some _ q) (Nat.le_refl _) (p9 s.heap I.big),rfl,h _ (I.hok.fresh (Nat.le_refl _))⟩
end
structure M2(X:Cx)(o:Expr)(m:Str)(apos:Pos)(e f:Expr)(cpos:Pos):Prop where
 base:attributeBase o m X.env (eval o X.env)=eval o X.env
 few:((backTo cpos (starEach [e,f] X.env)).all (λx=> !x.1)&&(backToKw cpos (keywordEach [] X.env)).all (λx=>x.1.isSome)
  &&decide (([e,f]:List Expr).length+([]:List Keyword).length+(if([]:List Keyword).isEmpty then 0 else 1)<30))=true
 line:(apos.endLine==cpos.line)=true
 trees:backTo cpos (starEach [e,f] X.env)=[(false,eval e X.env),(false,eval f X.env)]
def GD(H:Hp)(a:Addr):Prop:=(∃kvs,Rd H a (.dK kvs))\/ ∃kvs,Rd H a (.dT kvs)
theorem BY {X:Cx}{aa:List (Addr×Obj)}{σ:St}{H:Hp}{s:Shared}{a:Addr}(I:Inv X aa σ H s)(d:GD H a):
 s.TypeIs (.ref a) "dict"/\(∀b,Value.ref a=.ref b-> ∃ob,s.heap.get? b=some ob/\ob.dict=none)/\(a==sysModules)=false:=by
 rcases d with⟨kvs,e⟩|⟨kvs,e⟩
 ·obtain⟨_,hd,vs,_,dd⟩:=n4 I.hok e
  refine⟨dd.typeIs,λb q=>?_,hd⟩
  cases q
  obtain⟨ob,_,_,h1,h2,_⟩:=dd
  exact⟨ob,h1,h2.2.1⟩
 ·obtain⟨_,hd,xs,_,dd⟩:=kB I.hok e
  refine⟨dd.typeIs,λb q=>?_,hd⟩
  cases q
  obtain⟨ob,_,_,h1,h2,_⟩:=dd
  exact⟨ob,h1,h2.2.1⟩
section
variable {X:Cx}{aa:List (Addr×Obj)}{σ:St}{H:Hp}{s:Shared}{a:Addr}{y d:V}{u r:Value}{o:Option V}{A:Around}{E:Value->Shared->Prop}
theorem Cp {Q:Value->Shared->Prop}(hu:A.units+1<cLine)(I:Inv X aa σ H s)(g:DGet H a y o)(ry:RelV y u)(rd:RelV d r)(h: ∀w' s',Inv X aa σ H s'->RelV (o.getD d) w'->Q w' s'):
 wpAny (model X.prog X.w) A (call (.builtin "dict.get") [.ref a,u,r]) Q E s:=by
 rcases g with⟨kvs,k,e,ey,l⟩|⟨kvs,k,b,e,ey,eb,l⟩
 ·subst ey
  obtain⟨z,hd,vs,rel,dd⟩:=n4 I.hok e
  refine call_meetsIn PySem.F.slot_dict_get dd.typeIs PySem.F.entry_dict_get (PySem.F.args_dict_get_3 _ _ _) (meets_dict_get_default (bi X.prog X.w) a (rL ry) hd r) ⟨_,dd.mapOf,h _ _ (I.tok _) ?_⟩
  rw[l];exact(rel.val k).getD rd
 ·subst ey
  cases (show u=Value.ref b from ry)
  obtain⟨z,hd,xs,rel,dd⟩:=kB I.hok e
  refine call_meetsIn PySem.F.slot_dict_get dd.typeIs PySem.F.entry_dict_get (PySem.F.args_dict_get_3 _ _ _) (meetsH_dict_get_default (tupleKind (bi X.prog X.w)) a b hd r) ⟨tupleKind_room_in1 hu,k,xs,jO I.hok eb,dd,h _ _ (I.tok _) ?_⟩
  rw[l];exact(rel.val k).getD rd
end
def Co(td ty tx:TE):TE:=λσ H Q=>td σ H λx H1=> ∃a,x=.ref a/\GD H1 a/\ty σ H1 λy H2=>tx σ H2 λz H3=> ∃o,DGet H3 a y o/\Q (o.getD z) H3
section
variable {X:Cx}{o e f:Expr}{apos cpos:Pos}{td ty tx:TE}
theorem yB(hu:X.A.units+1<cLine)(ho:PE X o td)(he:PE X e ty)(hf:PE X f tx)(m:M2 X o "get" apos e f cpos):PE X (.Call (.Attribute o "get" apos) [e,f] [] cpos) (Co td ty tx):=by
 intro aa s σ H Q I h;refine wpAny_Call_method m.base m.few m.line PySem.F.plainAttrs_dict PySem.F.slot_dict_get PySem.F.type_dict_get (aZ (ho aa s σ H _ I h) λu s1 hq_=>?_)
 obtain⟨x,H1,I1,rx,a,ex,d,q1⟩:=hq_
 subst ex;obtain rfl:u=Value.ref a:=rx
 obtain⟨t1,t2,_⟩:=BY I1 d
 refine⟨t1,t2,?_⟩
 rw[m.trees];refine Calls.callWith_builtin rfl (Calls.evalArgs_plain (Calls.spliced_cons (aZ (he aa s1 σ H1 _ I1 q1) λiv s2 ⟨y,H2,I2,ry,q2⟩=>
  Calls.spliced_cons (aZ (hf aa s2 σ H2 _ I2 q2) λfv s3 ⟨z,H3,I3,rz,ov,g,q3⟩=>Calls.spliced_nil ?_))))
 exact Cp hu I3 g ry rz λw' s4 I4 rw'=>⟨_,H3,I4,rw',q3⟩
end
end L2
namespace PySem
open Sem (wp)
end PySem
namespace L2
open PySem PySem.Spec PyProof.Rows
end L2
namespace PySem
end PySem
namespace L2
open PySem PySem.Spec PyProof.Rows
section
variable {X:Cx}{c:Ct}{e o:Expr}{k k2:Kd}{f g:FE}{pos p p2 apos:Pos}
def jk:List D->Option (List Str)
 | []=>some []
 | .str x::r=>(jk r).map (x:: ·)
 |_=>none
theorem qy: ∀ {ds:List D} {ts:List Str},jk ds=some ts->ds=ts.map D.str
 | [],ts,h=>by cases h;rfl
 | .str x::r,ts,h=>by
   have h:(jk r).map (x:: ·)=some ts:=h
   cases e:jk r with
   |none=>rw[e] at h;cases h
   |some t=>
    rw[e] at h;cases h;rw[qy e];rfl
 | .non::_,_,h=>by cases h
 | .bl _::_,_,h=>by cases h
 | .int _::_,_,h=>by cases h
 | .tup _::_,_,h=>by cases h
 | .lst _::_,_,h=>by cases h
theorem qC: ∀ts:List Str,jk (ts.map D.str)=some ts
 | []=>rfl
 |x::r=>by show(jk (r.map D.str)).map (x:: ·)=_;rw[qC r];rfl
def ig:D->D->Option D:=λa b=>match a,b with
 | .str x,.lst ds=>(jk ds).bind λts=>if JoinOk x ts=true then some (.str (Txt.join x ts)) else none
 |_,_=>none
theorem qL {K:W.Frag}{F:Hp}: ∀ {xs:List V} {ts:List Str},Reps K F xs (ts.map D.str)->xs=ts.map V.str
 |_,[],h=>by cases h;rfl
 |_,t::ts,h=>by
  cases h with
  |cons a b=>cases a;rw[qL b];rfl
theorem uO: ∀ {ts:List Str} {us:List Value},Vals (ts.map V.str) us-> ∃l:List (Str×Tok),us=strValues l/\l.map (·.1)=ts
 | [],_,h=>by cases h;exact⟨[],rfl,rfl⟩
 |t::ts,_,h=>by
  cases h with
  |cons a b=>
   obtain⟨tk,rfl⟩:=a
   obtain⟨l,rfl,e⟩:=uO b
   exact⟨(t,tk)::l,rfl,by rw[List.map_cons,e]⟩
theorem Af:E6 X "str.join" (λv vs H Q=> ∃x a ts,v=.str x/\vs=[.ref a]/\SqL X.K H a (ts.map V.str)/\JoinOk x ts=true/\Q (.str (Txt.join x ts)) H):=by
 intro aa s σ H v vs u us Q I rv rs h;obtain⟨x,a,ts,rfl,rfl,h1,h2,q⟩:=h
 obtain⟨t,rfl⟩:=rv
 obtain⟨w,rfl,rw'⟩:=dU rs
 cases rw'
 obtain⟨its,r,pl,hz⟩:=I.list h1
 obtain⟨l,rfl,hl⟩:=uO r
 exact SC.join pl.isList hl h2 λt' k=>⟨.str _,H,I.tok _,⟨_,rfl⟩,q⟩
theorem oO(ho:DP X c k o f)(he:DP X c k2 e g)
 (hbase:attributeBase o "join" X.env (eval o X.env)=eval o X.env:=by rfl)
 (hfew:((backTo pos (starEach [e] X.env)).all (λx=> !x.1)&&(backToKw pos (keywordEach [] X.env)).all (λx=>x.1.isSome)
   &&decide (([e]:List Expr).length+([]:List Keyword).length+(if([]:List Keyword).isEmpty then 0 else 1)<30))=true:=by rfl)
 (hline:(apos.endLine==pos.line)=true:=by rfl) (hs:starEach [e] X.env=(false,eval e X.env)::starEach [] X.env:=by rfl) (hplain:(backTo pos (starEach [] X.env)).any (·.1)=false:=by rfl):
 DP X c .s (.Call (.Attribute o "join" apos) [e] [] pos) (au ig f g):=λhid ρ=>
 PE.imp (qX PySem.F.plainAttrs_str PySem.F.slot_str_join PySem.F.type_str_join Af (ho hid ρ) (a8 (he hid ρ) bJ hs) hbase hfew hline hs hplain) λσ H Q hq_=>by
  obtain⟨sr,d,hd,q⟩:=hq_
  obtain⟨x,y,e1,e2,e3⟩:=me hd
  unfold ig at e3;split at e3
  ·rename_i z ds
   cases e4:jk ds with
   |none=>rw[e4] at e3;cases e3
   |some ts=>
    rw[e4,Option.bind_some] at e3;split at e3
    ·rename_i hj
     cases e3
     have e5:=qy e4
     subst e5;refine⟨sr,_,e1,λv H1 s1 r1=>?_⟩
     have b1:=RK.b k r1 λa n=>sr.fresh n
     cases b1.str
     refine⟨rfl,sr.ext s1,_,e2,λu H2 s2 r2=>?_⟩
     have b2:=RK.b k2 r2 λa n=>(sr.ext s1).fresh n
     obtain⟨a,xs,rfl,t1,t2⟩:=Rep1.lst b2
     have e6:=qL t2
     subst e6;exact⟨z,a,ts,rfl,rfl,t1,hj,q _ H2 (s1.trans s2) .str⟩
    ·cases e3
  ·cases e3
end
def BG(K:W.Frag):R2:=λx y H Q=> ∃a b xs ys,x=.ref a/\y=.ref b/\SqT K H a xs/\SqT K H b ys/\xs.length+ys.length<=sizeLine/\
 (xs=[]->Q (.ref b) H)/\(xs≠[]->ys=[]->Q (.ref a) H)/\(xs≠[]->ys≠[]-> ∀p,H p=none->Q (.ref p) (aV H p (.tup (xs++ys))))
section
variable {X:Cx}{c:Ct}{a b:Expr}{f g:FE}{pos:Pos}
theorem zt:jD X (binaryOp .Add) (BG X.K):=by
 intro aa s σ H x y v u Q I rx ry h;obtain⟨a,b,xs,ys,e1,e2,ha,hb,hz,q0,q1,q2⟩:=h
 by_cases hx:xs=[]
 ·subst e1 e2
  cases rx
  cases ry
  obtain⟨its,r1,p1,_⟩:=I.tuple ha
  obtain⟨its2,r2,p2,_⟩:=I.tuple hb
  obtain⟨m,F⟩:=I.fr
  have h0:its=[]:=r1.nil_iff.mpr hx
  exact add_tuples F News.nil p1 p2 (λ_=>⟨.ref b,H,I,rfl,q0 hx⟩) (λz=>absurd h0 z) (λz=>absurd h0 z) (by rw[<-r1.length,<-r2.length];exact hz)
 ·exact AT aa s σ H x y v u Q I rx ry ⟨a,b,xs,ys,e1,e2,ha,hb,hx,hz,q1 hx,q2 hx⟩
def uq:D->D->Option D
 | .tup xs,.tup ys=>if xs.length+ys.length<=sizeLine then some (.tup (xs++ys)) else none
 |_,_=>none
theorem zp {K:W.Frag}:mL K .s (BG K) uq:=by
 intro H hid v u x y d Q hf h r1 r2 q;unfold uq at h;split at h
 ·split at h
  ·rename_i hc
   cases h
   obtain⟨a,xs,rfl,h0,h1,h2⟩:=r1.tup
   obtain⟨b,ys,rfl,g0,g1,g2⟩:=r2.tup
   refine⟨a,b,xs,ys,rfl,rfl,h1,g1,by rw[h2.length,g2.length];exact hc,λz=>?_,λ_ z=>?_,λ_ z p hp=>?_⟩
   ·subst z;cases h2
    exact q _ H (Same.refl _) (.tup g0 g2)
   ·subst z;cases g2
    refine q _ H (Same.refl _) ?_
    rw[List.append_nil];exact .tup h0 h2
   ·exact q _ _ (aC hp _) (gP hp (hf p hp) (h2.append g2))
  ·cases h
 ·cases h
theorem Bh {k1 k2:Kd}(ha:DP X c k1 a f)(hb:DP X c k2 b g):DP X c .s (.BinOp a .Add b pos) (au uq f g):=kA zt zp ha hb
end
section
variable {X:Cx}{c:Ct}{elt t1 t2 i1 i2:Expr}{ifs1 ifs2:List Expr}{scope:Scope}{pos spos py:Pos}{N':List Str}{m:Nat}{gi1 gi2:FA}{g1 g2:FG}{p1 p2:FT}{f:FE}{y:Str}
theorem xc(i:Nat)(hcalm:X.calm=true)(hN:X.N.Nodup)(n1:Nat)(hT1:dO X.N.length g1)(hU1:sh n1 g1)(hT2:dO n1 g2)(hi:zo X c t1 i1 gi1)
 (hg1: ∀C s₀ H₀ ex,lv (ar X N' scope C s₀ H₀ ex) c t1 g1) (hp1: ∀C s₀ H₀ ex,mM (ar X N' scope C s₀ H₀ ex) c ifs1 p1) (hi2: ∀C s₀ H₀ ex,DIp (ar X N' scope C s₀ H₀ ex) c t2 i2 gi2)
 (hg2: ∀C s₀ H₀ ex,lv (ar X N' scope C s₀ H₀ ex) c t2 g2) (hp2: ∀C s₀ H₀ ex,mM (ar X N' scope C s₀ H₀ ex) c ifs2 p2) (he: ∀C s₀ H₀ ex,DP (ar X N' scope C s₀ H₀ ex) c .s elt f)
 (hsw:swapsWith (.ListComp elt [⟨t1,i1,ifs1,0⟩,⟨t2,i2,ifs2,0⟩] scope pos) (some (.Name y py)) spos.line X.env=pure true) (hyi:X.N[i]? =some y) (hy:X.env.scope.names.lookup y=some .local)
 (hk:scope.kind=.function) (hs:pY scope X.env.scope=true) (hn:qr X.N N' scope=true) (hm:N'.length-X.N.length=m) (hn1:X.N.length<=n1) (hset: ∀x,foldedSetIterable i1 X.env x=pure x) (hset2: ∀C s₀ H₀ ex,∀x,foldedSetIterable i2 (ar X N' scope C s₀ H₀ ex).env x=pure x) (ρ:ay):
 PS X (.Assign [.Name y py] (.ListComp elt [⟨t1,i1,ifs1,0⟩,⟨t2,i2,ifs2,0⟩] scope pos) spos) (Ad (λσ H Q=> ∃hid,Cs X.K c hid .n (mE m gi1 g1 p1 gi2 g2 p2 f) ρ σ H Q) (uj i)):=by
 intro aa s σ H E I hq;obtain⟨hid,sr,d,hd,q⟩:=hq
 obtain⟨ds,ys,e1,hc,hz,rfl⟩:=nT hd
 rw[exec_Assign_Name_used _ _ _ _ hsw];refine wpAny_bind (wpAny_standAt (wpAny_bind ?_))
 show wpAny _ X.A (do let _ <-comprehension (.ListComp elt [⟨t1,i1,ifs1,0⟩,⟨t2,i2,ifs2,0⟩] scope pos) scope X.env _ (newList []) false (eval i1 X.env) (some (assign (.Name y py) X.env))) _ _ s
 refine wpAny_bind (wpAny_mono (wpAny_comprehension_free (use:=some (assign (.Name y py) X.env)) (Q:=λ_ s'=>SP X aa E .next s') rfl hset (bM λx hx=>I.ok.has x (dB hs x hx)) hk (fF hs) ?_) (λ_ s' hq=>wpAny_pure (wpAny_pure hq)) λ_ _ e=>e)
 refine aZ (hi hid ρ aa s σ H (λJ H'=>Same H H'/\AJ X.K H' (vw H' hid) J ds) I ⟨sr,ds,e1,λJ H' s1 io=>⟨s1,io⟩⟩) λv s1 h1=>aZ h1 λitv s2 h2=>?_
 obtain⟨it,fp,tn,J,H2,rfl,I2,T,st2,f2,sm,io⟩:=h2
 refine kz (RR:=λacc C=>compPost (model X.prog X.w) X.A X.xe (some (assign (.Name y py) X.env)) (λ_ s'=>SP X aa E .next s') acc C) hcalm hk hs hn hm hT1 hU1 hn1 hT2 hset2 hg1 hp1 hi2 hg2 hp2 he I2 (sr.ext sm) T st2 f2 io hz hc ?_
 intro D C s' H' xs hDge hCge hDC hD sm' hx rp ⟨mm,hns⟩ hC' hos hbare hok hun;have I3:Inv X aa σ H' s':=I2.call' (ch:=fp) hos hun hok hbare λb hb=>⟨(f2 b hb).2.2.2.1,(f2 b hb).2.1,(f2 b hb).2.2.2.2.1,(f2 b hb).2.2.2.2.2⟩
 have fin:=q _ H' (sm.trans sm') ⟨D,xs,ys,rfl,rfl,sm.free hD,hx,rp⟩
 have ltC: ∀b o,s2.heap.get? b=some o->b≠C:=λb o e z=>by subst z;exact absurd (Heap.lt_size e) (Nat.not_lt.mpr hCge)
 have hLC:C≠X.env.locals:=λz=>by
  have:=I2.lt
  rw[<-z] at this;exact absurd this (Nat.not_lt.mpr hCge)
 show wpAny _ X.A (assign (.Name y py) X.env (.ref D)) _ _ s';refine wpAny_assign_Name (jR (v:=.ref D) I3 hN hyi (.inl hy) rfl (λs'' I4 hb=>?_) (.inr hy))
 obtain⟨a,hsb,ha⟩:=hb
 have hCa:C≠a:=by
  rcases ha with rfl|ha
  ·exact hLC
  ·obtain⟨w',o,ho,_⟩:=I2.cell y a ha
   exact λz=>ltC a o ho z.symm
 refine⟨mm,hns.sameBut hsb hCa,λh3 hs3=>⟨_,H',?_,fin⟩⟩
 refine I4.turned (t':=s''.toks) (it:=C) (λb o nb e=>(hs3.2 b nb).trans e) hC' hLC (.inr (Nat.le_trans I2.sz hCge)) (λx c' e z=>?_) (λq hq z=>?_)
 ·obtain⟨w',o,ho,_⟩:=I2.cell x c' e
  exact ltC c' o ho z
 ·exact ltC q.1 q.2 (I2.pin q hq).1 z
theorem yJ(i:Nat){k:Kd}(hcalm:X.calm=true)(hN:X.N.Nodup)(n1:Nat)(hT1:dO X.N.length g1)(hU1:sh n1 g1)(hT2:dO n1 g2)(hi:zo X c t1 i1 gi1)
 (hg1: ∀C s₀ H₀ ex,lv (ar X N' scope C s₀ H₀ ex) c t1 g1) (hp1: ∀C s₀ H₀ ex,mM (ar X N' scope C s₀ H₀ ex) c ifs1 p1) (hi2: ∀C s₀ H₀ ex,DIp (ar X N' scope C s₀ H₀ ex) c t2 i2 gi2)
 (hg2: ∀C s₀ H₀ ex,lv (ar X N' scope C s₀ H₀ ex) c t2 g2) (hp2: ∀C s₀ H₀ ex,mM (ar X N' scope C s₀ H₀ ex) c ifs2 p2) (he: ∀C s₀ H₀ ex,DP (ar X N' scope C s₀ H₀ ex) c .s elt f)
 (hsw:swapsWith (.ListComp elt [⟨t1,i1,ifs1,0⟩,⟨t2,i2,ifs2,0⟩] scope pos) (some (.Name y py)) spos.line X.env=pure true:=by rfl) (hyi:X.N[i]? =some y:=by rfl) (hy:X.env.scope.names.lookup y=some .local:=by rfl)
 (hk:scope.kind=.function:=by rfl) (hs:pY scope X.env.scope=true:=by kernel_rfl) (hn:qr X.N N' scope=true:=by kernel_rfl) (hm:N'.length-X.N.length=m:=by rfl) (hn1:X.N.length<=n1:=by exact Nat.le_of_ble_eq_true rfl) (hset: ∀x,foldedSetIterable i1 X.env x=pure x:=by intro _;rfl) (hset2: ∀C s₀ H₀ ex,∀x,foldedSetIterable i2 (ar X N' scope C s₀ H₀ ex).env x=pure x:=by intros;rfl):
 DS X c k (.Assign [.Name y py] (.ListComp elt [⟨t1,i1,ifs1,0⟩,⟨t2,i2,ifs2,0⟩] scope pos) spos) (pK i (mE m gi1 g1 p1 gi2 g2 p2 f)):=λρ=>PS.imp (xc i hcalm hN n1 hT1 hU1 hT2 hi hg1 hp1 hi2 hg2 hp2 he hsw hyi hy hk hs hn hm hn1 hset hset2 ρ) λD σ H hq_=>by
 obtain⟨hid,sr,q⟩:=hq_
 unfold pK at q;cases e1:mE m gi1 g1 p1 gi2 g2 p2 f ρ with
 |none=>rw[e1] at q;exact q.elim
 |some z=>
  rw[e1] at q;exact⟨hid,sr,z,e1,λv H' s r=>EO (sr.post s r (by decide)) q⟩
end
section
variable {K:W.Frag}{c:Ct}{hid:aX}{ρ:ay}{σ:St}{H:Hp}{a:Addr}
theorem SR.setD {b:Ob}(h:SR K c hid ρ σ H)(ho:ObOk K c hid H a b)(no: ∀i:Nat,Ow ρ[i]? ->σ[i]? ≠some (some (.ref a)))(i:Nat):
 SR K c hid (ρ.set i (.ob b)) (σ.set i (some (.ref a))) H:=by
 refine⟨h.tr,h.ht,h.h0,h.kp,h.t0,h.c0,h.m0,by simp[h.len],λj s q=>?_,λj l z n o1 o2 q1 q2=>?_⟩
 ·by_cases e:j=i
  ·subst e
   have lt:j<ρ.length:=by
    have:=(List.getElem?_eq_some_iff.mp q).1
    simpa using this
   rw[List.getElem?_set_self lt] at q;cases q
   exact⟨a,List.getElem?_set_self (by rw[h.len];exact lt),ho⟩
  ·rw[List.getElem?_set_ne (Ne.symm e)] at q
   have w:=h.sl j s q
   have es:(σ.set i (some (V.ref a)))[j]? =σ[j]? :=List.getElem?_set_ne (Ne.symm e)
   cases s with
   |no=>trivial
   |v d=>obtain⟨x,h1,h2⟩:=w;exact⟨x,es.trans h1,h2⟩
   |own ds=>obtain⟨a,xs,h1,h2⟩:=w;exact⟨a,xs,es.trans h1,h2⟩
   |arg ds=>obtain⟨a,xs,h1,h2⟩:=w;exact⟨a,xs,es.trans h1,h2⟩
   |ob b=>obtain⟨a,h1,h2⟩:=w;exact⟨a,es.trans h1,h2⟩
 ·by_cases e1:j=i
  ·subst e1
   have e2:l≠j:=λe=>n e.symm
   rw[List.getElem?_set_ne (Ne.symm e2)] at o2 q2
   by_cases lt:j<σ.length
   ·rw[List.getElem?_set_self lt] at q1;cases q1;exact no l o2 q2
   ·rw[List.getElem?_eq_none (by simpa using lt)] at q1;cases q1
  ·rw[List.getElem?_set_ne (Ne.symm e1)] at o1 q1
   by_cases e2:l=i
   ·subst e2
    by_cases lt:l<σ.length
    ·rw[List.getElem?_set_self lt] at q2;cases q2;exact no j o1 q1
    ·rw[List.getElem?_eq_none (by simpa using lt)] at q2;cases q2
   ·rw[List.getElem?_set_ne (Ne.symm e2)] at o2 q2
    exact h.ap j l z n o1 o2 q1 q2
theorem ObOk.kind {b:Ob}(h:ObOk K c hid H a b)(o:n8 b): ∃u,H a=some u/\ ∀p v,u≠ .nst p v:=by
 cases b with
 |nst us=>obtain⟨_,_,e,_⟩:=h;exact⟨_,e,nofun⟩
 |dQ kvs=>exact o.elim
 |frs d=>exact o.elim
 |dR kvs=>exact o.elim
 |dRs l=>exact o.elim
 |exc x n=>exact o.elim
 |dK kvs=>obtain⟨_,_,e,_⟩:=h;exact⟨_,e,nofun⟩
 |dT kvs=>obtain⟨_,_,e,_⟩:=h;exact⟨_,e,nofun⟩
 |set ds=>obtain⟨_,_,e,_⟩:=h;exact⟨_,e,nofun⟩
 |old d=>exact o.elim
 |jnk=>obtain⟨_,_,e⟩:=h;exact⟨_,e,nofun⟩
 |tset ks=>obtain⟨_,_,e,_⟩:=h;exact⟨_,e,nofun⟩
 |dF kvs=>obtain⟨_,_,_,e,_⟩:=h;exact⟨_,e,nofun⟩
theorem SR.putO {x:Addr}{i:Nat}{b b':Ob}{o':HO}(h:SR K c hid ρ σ H)(hg:ρ[i]? =some (.ob b))(ow:n8 b)(ow':n8 b')(ha:σ[i]? =some (some (.ref a)))(hx:At H a x)(h2:hid x=true)(h3:c.H₀ x=none)
 (nt: ∀xs,o'≠ .tup xs) (new:ObOk K c hid (aV H x o') a b'):SR K c hid (ρ.set i (.ob b')) σ (aV H x o'):=by
 have lt:i<ρ.length:=(List.getElem?_eq_some_iff.mp hg).1
 have vv:vw (aV H x o') hid=vw H hid:=bS h2
 have tr': ∀b o,H b=some o-> ∃o2,(aV H x o') b=some o2:=λb o q=>by
  by_cases e:b=x
  ·subst e;exact⟨_,aA⟩
  ·exact⟨o,by rw[ax e];exact q⟩
 have owi:Ow ρ[i]? :=by rw[hg];exact ow
 obtain⟨a2,ha2,kb⟩:=h.sl i _ hg
 rw[ha] at ha2;cases ha2;obtain⟨w,kw,kn⟩:=kb.kind ow
 have ne: ∀(j:Nat) (s:Sl) (a' y:Addr) (w':HO),j≠i->ρ[j]? =some s->Ow (some s)->σ[j]? =some (some (.ref a'))->H a'=some w'->(∀p v,w'≠ .nst p v)->At H a' y->y≠x:=λj s a' y w' n e o q hw wn hy=>by
  have na:a'≠a:=λz=>by subst z;exact h.ap j i a' n (by rw[e];exact o) owi q ha
  rcases hx with rfl|⟨u,hu⟩
  ·exact hy.ne na kw kn
  ·intro z
   subst z;rcases hy with rfl|⟨u',hu'⟩
   ·rw[hw] at hu;exact wn _ _ (Option.some.inj hu)
   ·rw[hu] at hu';cases hu';exact na rfl
 have ows: ∀j:Nat,Ow (ρ.set i (.ob b'))[j]? ->Ow ρ[j]? :=λj o=>by
  by_cases e:j=i
  ·subst e;exact owi
  ·rw[List.getElem?_set_ne (Ne.symm e)] at o;exact o
 refine⟨λb hb=>let⟨o,q⟩:=h.tr b hb;tr' b o q,λb xs hb q=>by
  by_cases e:b=x
  ·subst e;rw[aA] at q;exact nt xs (Option.some.inj q)
  ·rw[ax e] at q;exact h.ht b xs hb q,h.h0,λb o q m=>?_,λb o q=>let⟨o2,q2⟩:=h.t0 b o q;tr' b o2 q2,h.c0,h.m0,by simp[h.len],λj s e=>?_,λj l z n o1 o2=>h.ap j l z n (ows j o1) (ows l o2)⟩
 ·rw[ax (aM q h3)];exact h.kp b o q m
 ·by_cases ej:j=i
  ·subst ej
   rw[List.getElem?_set_self lt] at e;cases e
   exact⟨a,ha,new⟩
  ·rw[List.getElem?_set_ne (Ne.symm ej)] at e
   have z:=h.sl j s e
   cases s with
   |no=>trivial
   |v d=>obtain⟨x,h1,h2⟩:=z;exact⟨x,h1,by rw[vv];exact h2⟩
   |own ds=>obtain⟨a',xs,h1,h2,h3,h4,h5⟩:=z;exact⟨a',xs,h1,by rw[ax (ne j _ a' a' _ ej e trivial h1 h2 nofun (.inl rfl))];exact h2,h3,h4,by rw[vv];exact h5⟩
   |arg ds=>obtain⟨a',xs,h1,h2,h3,h4,h5⟩:=z;exact⟨a',xs,h1,by rw[ax (ne j _ a' a' _ ej e trivial h1 h2 nofun (.inl rfl))];exact h2,h3,h4,by rw[vv];exact h5⟩
   |ob b=>
    obtain⟨a',h1,h2⟩:=z
    exact⟨a',h1,h2.mono (λow y hy o q=>by
     obtain⟨w',hw,wn⟩:=h2.kind ow
     rw[ax (ne j _ a' y w' ej e ow h1 hw wn hy)];exact q) (by rw[vv];exact Same.refl _) λ_ _ _ q=>q⟩
end
open PySem PySem.W PySem.Spec PyProof.Rows
section
variable {prog:Program}{w:World}{A:Around}{E:Value->Shared->Prop}{s:Shared}
theorem mJ {T:String}{r d:Addr}{n:Nat}{P:Nat->Value->Prop}{OK:Heap->Prop}{R:List Value->Shared->Prop}(src:KdlSrc prog w T r d n P OK)(calm:A.handled=none)(good:OK s.heap)(few:n<=sizeLine)
 (q: ∀(g:Heap) (tk:Nat) (us:Array Value),(∀b o,s.heap.get? b=some o->g.get? b=some o)->s.heap.objs.size<g.objs.size->ItemsOf P us n->R us.toList {s with heap:=g,toks:=tk}):wpAny (model prog w) A (collect (.ref r)) R E s:=by
 obtain⟨rl,dl⟩:=src.there _ good
 unfold collect;refine wpAny_bind (wpAny_runValue (codeAny_builtin F.entry_proto_collect ?_))
 rw[Around.under_plainId F.plain_proto_collect _];show wpAny _ A.in1 (newList []>>=λz=>again (.builtin "list.__iadd__" ⟨[z,.ref r],[]⟩)) _ _ s
 refine wpAny_bind (wpAny_newObj_type (wpAny_pure ⟨plainId_quiet F.plain_list_iadd _,codeAny_builtin F.entry_list_iadd ?_⟩))
 rw[Around.under_plainId F.plain_list_iadd _];show wpAny _ A.in1 (Builtin.List.listExtendWith (.ref s.heap.objs.size) (.ref r) (.ref s.heap.objs.size)) _ _ _;have last: ∀(g:Heap) (tk:Nat) (us:Array Value) (m:Nat),(∀b o,s.heap.get? b=some o->g.get? b=some o)->g.get? s.heap.objs.size=some {cls:=.type "list",dict:=none,data:=.seq us m,slots:= #[]}->ItemsOf P us n->
  wpAny (model prog w) A (do
   match (<-load s.heap.objs.size).data with
    |Data.seq xs _=>pure xs.toList
    |_=>unsupported "internal:collect") R E {s with heap:=g,toks:=tk}:=λg tk us m kg hg hi=>wpAny_bind (wpAny_load hg (wpAny_pure (q g tk us kg (Heap.lt_size hg) hi)))
 have ext:=kdl_extend (A:=A) (s:={s with heap:=s.heap.push {cls:=.type "list",data:=.seq ([]:List Value).toArray}})
  (R:=λz t=> ∃(g:Heap) (tk:Nat) (us:Array Value) (m:Nat),z=.ok (.ret (.ref s.heap.objs.size))/\t={s with heap:=g,toks:=tk}/\(∀b o,s.heap.get? b=some o->g.get? b=some o)/\g.get? s.heap.objs.size=some {cls:=.type "list",dict:=none,data:=.seq us m,slots:= #[]}/\ItemsOf P us n)
  src calm (src.keep _ _ good λb _ o e=>Heap.get?_push_of_some _ e) s.heap.objs.size (Nat.ne_of_gt rl) (Nat.ne_of_gt dl) (.ref s.heap.objs.size) 0 (Heap.get?_push_size _ rfl)
  (λg tk us m kg hg hi=>⟨g,tk,us,m,rfl,rfl,λb o e=>kg b o (Nat.ne_of_lt (Heap.lt_size e)) (Heap.get?_push_of_some _ e),hg,hi⟩) few
 refine wpAny_mono ext (λz t h=>?_) λz t h=>by obtain⟨_,_,_,_,e,_⟩:=h;cases e
 cases z with
 |done f=>obtain⟨g,tk,us,m,e,rfl,kg,hg,hi⟩:=h;cases e;exact last g tk us m kg hg hi
 |again c=>exact⟨h.1,codeAny_mono h.2 λz t' hr=>by obtain⟨g,tk,us,m,rfl,rfl,kg,hg,hi⟩:=hr;exact last g tk us m kg hg hi⟩
end
section
variable {X:Cx}{c:Ct}{pos p py:Pos}{x y:Str}
theorem nA {K:W.Frag}{F:Hp}: ∀ms:List Int,Reps K F (ms.map V.int) (ms.map D.int)
 | []=>.nil
 |m::ms=>.cons .int (nA ms)
end
section
variable {X:Cx}{c:Ct}{e o:Expr}{k k2:Kd}{f g:FE}{pos p p2 apos:Pos}
def Bw:R2:=λa b H Q=> ∃x y,a=.str x/\b=.str y/\x.length+y.length<=sizeLine/\Q (.str (x++y)) H
theorem Ax:jD X (binaryOp .Add) Bw:=by
 intro aa s σ H x y v u Q I rx ry h;obtain⟨a,b,rfl,rfl,hz,q⟩:=h
 obtain⟨t,rfl⟩:=rx
 obtain⟨t',rfl⟩:=ry
 exact add_str (λt' tk=>⟨.str _,H,I.tok _,⟨_,rfl⟩,q⟩) hz
def ij:D->D->Option D
 | .str x,.str y=>if x.length+y.length<=sizeLine then some (.str (x++y)) else none
 |_,_=>none
theorem An {K:W.Frag}:mL K .s Bw ij:=by
 intro H hid v u x y d Q hf h r1 r2 q;unfold ij at h;split at h
 ·split at h
  ·rename_i hz
   cases h
   cases r1.str
   cases r2.str
   exact⟨_,_,rfl,rfl,hz,q _ H (Same.refl _) .str⟩
  ·cases h
 ·cases h
theorem kU {k1 k2:Kd}{a b:Expr}(ha:DP X c k1 a f)(hb:DP X c k2 b g):DP X c .s (.BinOp a .Add b pos) (au ij f g):=kA Ax An ha hb
end
section
variable {X:Cx}{c:Ct}{e e1 e2:Expr}{k k1 k2:Kd}{f g:FE}{pos p1 p2 p3:Pos}{j:Nat}
theorem xP:DP X c k e (λ_=>none):=λhid ρ aa s σ H Q I ⟨sr,d,hd,q⟩=>nomatch hd
def Dw(s:Str)(i j:Int):Str:=((Str.empty++Str.ofString (toString i))++s)++Str.ofString (toString j)
def lr:D->D->Option D
 | .str z,.int i=>if z.length<=sizeLine then(qP z.cps.toList i).map λc=>.str ⟨#[c]⟩ else none
 |_,_=>none
theorem pU {K:W.Frag}:mL K .s (FZ K) lr:=by
 intro H hid v u x y d Q hf h r1 r2 q;unfold lr at h;split at h
 ·split at h
  ·rename_i z i hz
   cases e:qP z.cps.toList i with
   |none=>rw[e] at h;cases h
   |some w=>
    rw[e] at h;cases h;cases r1.str
    cases r2.int
    exact .inr (.inr ⟨z,i,w,rfl,rfl,hz,e,q _ H (Same.refl _) .str⟩)
  ·cases h
 ·cases h
end
def kH(i:Nat)(ρ:ay):Option (List ((List aS)×D)):=match ρ[i]? with
 |some (.ob (.dT kvs))=>some kvs
 |_=>none
theorem g7 {i:Nat}{ρ:ay}{kvs:List ((List aS)×D)}(h:kH i ρ=some kvs):ρ[i]? =some (.ob (.dT kvs)):=by
 unfold kH at h;split at h
 ·cases h;assumption
 ·cases h
def gx(kvs:List ((List aS)×D))(k:List aS):Option D:=(kvs.find? λkv=>decide (kv.1=k)).map (·.2)
def lw(kvs:List ((List aS)×D))(k:List aS)(d:D):List ((List aS)×D):=
 if(kvs.any λkv=>decide (kv.1=k))=true then kvs.map (λkv=>if kv.1=k then(kv.1,d) else kv) else kvs++[(k,d)]
def KRt(K:W.Frag)(F:Hp)(us:List ((List aS)×V))(kvs:List ((List aS)×D)):Prop:=us.map (·.1)=kvs.map (·.1)/\Reps K F (us.map (·.2)) (kvs.map (·.2))
theorem KRt.inv {K:W.Frag}{F:Hp}: ∀ {us:List ((List aS)×V)} {kvs:List ((List aS)×D)},KRt K F us kvs->(us=[]/\kvs=[])\/ ∃k v us' d kvs',us=(k,v)::us'/\kvs=(k,d)::kvs'/\Rep K F v d/\KRt K F us' kvs'
 | [],[],_=>.inl ⟨rfl,rfl⟩
 | [],_::_,h=>by cases h.1
 |_::_,[],h=>by cases h.1
 |(k,v)::us,(k',d)::kvs,h=>by
  obtain⟨h1,h2⟩:=h
  rw[List.map_cons,List.map_cons] at h1 h2;injection h1 with e1 e2
  cases h2 with
  |cons r rs=>
   have e1:k=k':=e1
   subst e1;exact .inr ⟨k,v,us,d,kvs,rfl,rfl,r,e2,rs⟩
theorem KRt.val {K:W.Frag}{F:Hp}(k:List aS): ∀ {us:List ((List aS)×V)} {kvs:List ((List aS)×D)},KRt K F us kvs->(eI us k=none/\gx kvs k=none)\/ ∃v d,eI us k=some v/\gx kvs k=some d/\Rep K F v d:=by
 intro us
 induction us with
 |nil=>
  intro kvs h;rcases h.inv with⟨_,rfl⟩|⟨_,_,_,_,_,e,_⟩
  ·exact .inl ⟨rfl,rfl⟩
  ·cases e
 |cons p us ih=>
  intro kvs h;rcases h.inv with⟨e,_⟩|⟨k',v,us',d,kvs',e,rfl,r,rs⟩
  ·cases e
  ·cases e
   by_cases ek:k'=k
   ·exact .inr ⟨v,d,i7 ek,by simp[gx,List.find?_cons,ek],r⟩
   ·have e1:eI ((k',v)::us) k=eI us k:=jx ek
    have e2:gx ((k',d)::kvs') k=gx kvs' k:=by simp[gx,List.find?_cons,ek]
    rw[e1,e2];exact ih rs
theorem KRt.any {K:W.Frag}{F:Hp}(k:List aS){us:List ((List aS)×V)}{kvs:List ((List aS)×D)}(h:KRt K F us kvs):(us.any λkv=>decide (kv.1=k))=kvs.any λkv=>decide (kv.1=k):=by
 have e1:(us.any λkv=>decide (kv.1=k))=(us.map (·.1)).any λx=>decide (x=k):=by rw[List.any_map];rfl
 have e2:(kvs.any λkv=>decide (kv.1=k))=(kvs.map (·.1)).any λx=>decide (x=k):=by rw[List.any_map];rfl
 rw[e1,e2,h.1]
theorem KRt.cons {K:W.Frag}{F:Hp}{k:List aS}{v:V}{d:D}{us:List ((List aS)×V)}{kvs:List ((List aS)×D)}(r:Rep K F v d)(h:KRt K F us kvs):KRt K F ((k,v)::us) ((k,d)::kvs):=⟨by rw[List.map_cons,List.map_cons,h.1],.cons r h.2⟩
theorem KRt.repl {K:W.Frag}{F:Hp}(k:List aS){v:V}{d:D}(r:Rep K F v d): ∀ {us:List ((List aS)×V)} {kvs:List ((List aS)×D)},KRt K F us kvs->KRt K F (us.map (λkv=>if kv.1=k then(kv.1,v) else kv)) (kvs.map (λkv=>if kv.1=k then(kv.1,d) else kv)):=by
 intro us
 induction us with
 |nil=>
  intro kvs h;rcases h.inv with⟨_,rfl⟩|⟨_,_,_,_,_,e,_⟩
  ·exact h
  ·cases e
 |cons p us ih=>
  intro kvs h;rcases h.inv with⟨e,_⟩|⟨k',v',us',d',kvs',e,rfl,r',rs⟩
  ·cases e
  ·cases e
   rw[List.map_cons,List.map_cons]
   by_cases ek:k'=k
   ·rw[if_pos ek,if_pos ek];exact KRt.cons r (ih rs)
   ·rw[if_neg ek,if_neg ek];exact KRt.cons r' (ih rs)
theorem KRt.put {K:W.Frag}{F:Hp}(k:List aS){v:V}{d:D}(r:Rep K F v d){us:List ((List aS)×V)}{kvs:List ((List aS)×D)}(h:KRt K F us kvs):KRt K F (hZ us k v) (lw kvs k d):=by
 unfold hZ lw;rw[h.any k];split
 ·exact h.repl k r
 ·refine⟨by rw[List.map_append,List.map_append,h.1];rfl,?_⟩
  rw[List.map_append,List.map_append];exact h.2.append (.cons r .nil)
theorem KRt.len {K:W.Frag}{F:Hp}{us:List ((List aS)×V)}{kvs:List ((List aS)×D)}(h:KRt K F us kvs):us.length=kvs.length:=by
 have:=congrArg List.length h.1
 simpa using this
section
variable {K:W.Frag}{c:Ct}{hid:aX}{ρ:ay}{σ:St}{H:Hp}{a:Addr}
theorem SR.dictT(h:SR K c hid ρ σ H){i:Nat}{kvs:List ((List aS)×D)}(e:kH i ρ=some kvs): ∃a us,σ[i]? =some (some (.ref a))/\hid a=true/\c.H₀ a=none/\H a=some (.dT us)/\KRt K (vw H hid) us kvs:=by
 obtain⟨a,h1,⟨h2,h3⟩,us,h4,h5,h6⟩:=h.sl i _ (g7 e)
 exact⟨a,us,h1,h2,h3,h4,h5,h6⟩
theorem SR.putDT {i:Nat}{kvs kvs':List ((List aS)×D)}{us':List ((List aS)×V)}(h:SR K c hid ρ σ H)(hg:kH i ρ=some kvs)(ha:σ[i]? =some (some (.ref a)))(r:KRt K (vw H hid) us' kvs'):SR K c hid (ρ.set i (.ob (.dT kvs'))) σ (aV H a (.dT us')):=by
 obtain⟨a1,us,h1,h2,h3,h4,h5⟩:=h.dictT hg
 rw[ha] at h1;cases h1;exact h.putO (g7 hg) trivial trivial ha (.inl rfl) h2 h3 nofun ⟨⟨h2,h3⟩,us',aA,r.1,by rw[bS h2];exact r.2⟩
end
def om:D->Option (List Int)
 | .tup ds=>c5 ds
 |_=>none
theorem di {d:D}{ns:List Int}(h:om d=some ns):d=.tup (ns.map D.int):=by
 unfold om at h;split at h
 ·rw[cB h]
 ·cases h
theorem i8 {K:W.Frag}{F:Hp}: ∀ {xs:List V} {ns:List Int},Reps K F xs (ns.map D.int)->xs=(ns.map Sum.inl).map kV
 |_,[],h=>by cases h;rfl
 |_,n::ns,h=>by
  cases h with
  |cons r rs=>cases r;rw[i8 rs];rfl
section
variable {X:Cx}{aa:List (Addr×Obj)}{σ:St}{H:Hp}{s:Shared}{a b:Addr}{A:Around}{E:Value->Shared->Prop}
theorem yR {ks:List aS}(I:Inv X aa σ H s)(h:SqT X.K H b (ks.map kV)):(tupleKind (bi X.prog X.w)).is s.heap ks b:=by
 obtain⟨its,r,⟨o,h1,h2,n,h3⟩,_⟩:=I.tuple h
 exact⟨o,its.toArray,n,h1,h2,h3,by simpa using jP r⟩
theorem CL {kvs:List (List aS×V)}{k:List aS}{v:V}{Q:Value->Shared->Prop}(hu:A.units+1<cLine)(I:Inv X aa σ H s)(e:H a=some (.dT kvs))(eb:SqT X.K H b (k.map kV))(l:eI kvs k=some v)
 (h: ∀w' s',Inv X aa σ H s'->RelV v w'->Q w' s'):wpAny (model X.prog X.w) A (getItem (.ref a) (.ref b)) Q E s:=by
 obtain⟨z,hd,xs,rel,dd⟩:=ql I.hok e
 obtain⟨w',hw,rw'⟩:=RelO.some_of (v:=v) (o:=(atKey xs k).map (·.2)) (by rw[<-l];exact rel.val k)
 obtain⟨p,hp,hp2⟩:=Option.map_eq_some_iff.mp hw
 refine wpAny_getItem_heap (tupleKind_room_in1 hu) (yR I eb) dd hp ?_
 rw[hp2];exact h w' _ (I.tok _) rw'
theorem DV {kvs:List (List aS×V)}{k:List aS}{Q:Value->Shared->Prop}(hu:A.units+1<cLine)(I:Inv X aa σ H s)(e:H a=some (.dT kvs))(eb:SqT X.K H b (k.map kV))
 (h: ∀s',Inv X aa σ H s'->Q (.bool (eI kvs k).isSome) s'):wpAny (model X.prog X.w) A (compareOp .In (.ref b) (.ref a)) Q E s:=by
 obtain⟨z,hd,xs,rel,dd⟩:=ql I.hok e
 refine wpAny_in_heap (tupleKind_room_in1 hu) (yR I eb) hd dd ?_
 have q:=(rel.val k).isSome_eq
 rw[Option.isSome_map] at q;rw[<-q];exact h _ (I.tok _)
end
section
variable {X:Cx}{o i:Expr}{pos:Pos}{td ty:TE}
def Fw(K:W.Frag)(td ty:TE):TE:=λσ H Q=>td σ H λx H1=>ty σ H1 λy H2=> ∃a b kvs k v,x=.ref a/\y=.ref b/\H2 a=some (.dT kvs)/\SqT K H2 b (k.map kV)/\eI kvs k=some v/\Q v H2
def FF(K:W.Frag)(ty td:TE):TE:=λσ H Q=>ty σ H λy H1=>td σ H1 λx H2=> ∃a b kvs k,x=.ref a/\y=.ref b/\H2 a=some (.dT kvs)/\SqT K H2 b (k.map kV)/\Q (.bl (eI kvs k).isSome) H2
theorem BW(hu:X.A.units+1<cLine)(ho:PE X o td)(hi:PE X i ty)(hs:xf i):PE X (.Subscript o i pos) (Fw X.K td ty):=by
 intro aa s σ H Q I h;refine uZ PySem.F.slot_dict_getitem.lookup hs (aZ (ho aa s σ H _ I h) λu s1 ⟨x,H1,I1,rx,q1⟩=>aZ (hi aa s1 σ H1 _ I1 q1) λiv s2 hq_=>?_)
 obtain⟨y,H2,I2,ry,a,b,kvs,k,v,ex,ey,g1,g2,g3,q2⟩:=hq_
 subst ex ey;obtain rfl:u=Value.ref a:=rx
 obtain rfl:iv=Value.ref b:=ry
 refine⟨?_,CL hu I2 g1 g2 g3 λw' s3 I3 rw'=>⟨v,H2,I3,rw',q2⟩⟩
 obtain⟨_,_,xs,_,dd⟩:=ql I2.hok g1
 exact dd.typeIs
theorem B8(hu:X.A.units+1<cLine)(hi:PE X i ty)(ho:PE X o td):PC X .In i o (FF X.K ty td):=by
 intro aa s σ H Q I h;refine aZ (hi aa s σ H _ I h) λiv s1 ⟨y,H1,I1,ry,q1⟩=>aZ (ho aa s1 σ H1 _ I1 q1) λu s2 hq_=>?_
 obtain⟨x,H2,I2,rx,a,b,kvs,k,ex,ey,g1,g2,q2⟩:=hq_
 subst ex ey;obtain rfl:u=Value.ref a:=rx
 obtain rfl:iv=Value.ref b:=ry
 exact DV hu I2 g1 g2 λs3 I3=>⟨.bl (eI kvs k).isSome,H2,I3,rfl,q2⟩
end
section
variable {X:Cx}{c:Ct}{k k1 k2:Kd}{e f ev:Expr}{es:List Expr}{fe ff fk fv:FE}{fs:FA}{pos pos' py apos cpos p:Pos}{x y:Str}{x1:_}
def iK(ns:List Int):List aS:=ns.map Sum.inl
def mF(i:Nat):FS:=λρ=>.nx (ρ.set i (.ob (.dT [])))
theorem gF(i:Nat)(hn:X.N.Nodup)(hi:X.N[i]? =some x:=by rfl)(hx:yt X.env.scope x:=by first|exact Or.inl rfl|exact Or.inr rfl)(hs:swapsWith (.Dict [] [] p) (some (.Name x pos')) pos.line X.env=pure false:=by rfl)
 (hf:X.fn x=true\/X.env.scope.names.lookup x=some .local:=by first|exact .inl rfl|exact .inr rfl|assumption):DS X c k (.Assign [.Name x pos'] (.Dict [] [] p) pos) (mF i):=λρ=>PS.imp (j5 hn hi hx yI hs hf) λD σ H hq_=>by
 obtain⟨hid,sr,q⟩:=hq_
 intro a ha;have sm:=aC ha (.dT [])
 have nf:=sr.fresh ha
 refine q _ _ (a7 hid a) (SR.setD (a:=a) (b:=.dT []) (sr.hide sm ha aA) ⟨⟨bC,sr.fresh0 ha⟩,[],aA,rfl,.nil⟩ (sr.notOw nf) i) λb o w=>?_
 obtain⟨w1,w2⟩:=vw_some.mp w
 refine vw_some.mpr ⟨?_,sm b o w2⟩
 unfold a7;rw[w1];have:b≠a:=aM w2 ha
 simp[this]
def yF(i:Nat)(fs:FA)(fv:FE):FS:=λρ=>match kH i ρ with
 |some kvs=>(match fv ρ with
  |some d=>(match (fs ρ).bind c5 with
   |some ns=>if kvs.length<=1000/\ns.length<=1000 then .nx (ρ.set i (.ob (.dT (lw kvs (iK ns) d)))) else .no
   |none=>.no)
  |none=>.no)
 |none=>.no
theorem xp(i:Nat)(hu:X.A.units+1<cLine)(hk:DA X c es fs)(hv:DP X c .s ev fv)(hN:X.N[i]? =some y:=by rfl)(hv':lR X.env.scope y:=by first|exact Or.inl rfl|exact Or.inr (Or.inl rfl)|exact Or.inr (Or.inr rfl))(hd:(y==("__debug__":Str))=false:=by decide)
 (hcd:(y==("__classdict__":Str))=false:=by decide) (hs:swapsWith ev (some (.Subscript (.Name y py) (.Tuple es x1 p) pos')) pos.line X.env=pure false:=by rfl):
 DS X c k (.Assign [.Subscript (.Name y py) (.Tuple es x1 p) pos'] ev pos) (yF i fs fv):=λρ=>PS.imp (oX hu (pv i hN hv' hd hcd) (o6 (Aa λhid=>hk hid ρ)) (iH λhid=>hv hid ρ) hs) λD σ H hq_=>by
 obtain⟨hid,sr,q⟩:=hq_
 unfold yF at q;split at q
 ·rename_i kvs e0
  split at q
  ·rename_i d e1
   split at q
   ·rename_i ns e2
    split at q
    ·rename_i hz
     obtain⟨dk,e3,e4⟩:=Option.bind_eq_some_iff.mp e2
     have e5:=cB e4
     subst e5;obtain⟨a,us,a1,a2,a3,a4,a5⟩:=sr.dictT e0
     refine⟨hid,sr,d,e1,λv H1 s1 r1=>⟨.ref a,a1,hid,sr.ext s1,_,e3,λzs H2 s2 r2=>⟨?_,λt ht=>?_⟩⟩⟩
     ·have:=r2.length
      rw[List.length_map] at this;rw[this,sizeLine_eq];omega
     have i1:=i8 r2
     subst i1;have s3:=aC ht (.tup ((ns.map Sum.inl).map kV))
     have s13:=(s1.trans s2).trans s3
     have hh:(aV H2 t (.tup ((ns.map Sum.inl).map kV))) a=some (.dT us):=s13 _ _ a4
     refine⟨a,_,rfl,DPut.t (k:=iK ns) hh aA (by rw[a5.len];exact Nat.lt_of_le_of_lt hz.1 (by decide)),?_⟩
     have r1':Rep X.K (vw H1 hid) v d:=r1
     refine q _ _ hid ((sr.ext s13).putDT e0 a1 (KRt.put (iK ns) (r1'.mono (aw (s2.trans s3))) ⟨a5.1,a5.2.mono (aw s13)⟩)) ?_
     rw[bS a2];exact aw s13
    ·exact q.elim
   ·exact q.elim
  ·exact q.elim
 ·exact q.elim
def yG(i:Nat)(fk:FE):FE:=λρ=>(kH i ρ).bind λkvs=>((fk ρ).bind om).bind λk=>gx kvs (iK k)
theorem my {hid:aX}{H':Hp}{z:V}{ns:List Int}(h:Rep1 X.K H' (vw H' hid) z (.tup (ns.map D.int))): ∃b,z=.ref b/\SqT X.K H' b ((iK ns).map kV):=by
 obtain⟨b,xs,rfl,_,h2,h3⟩:=h.tup
 refine⟨b,rfl,?_⟩
 rw[<-show xs=(iK ns).map kV from i8 h3];exact h2
theorem ox(i:Nat)(hu:X.A.units+1<cLine)(he:DP X c k1 e fe)(hs:xf e)(hN:X.N[i]? =some y:=by rfl)(hv':lR X.env.scope y:=by first|exact Or.inl rfl|exact Or.inr (Or.inl rfl)|exact Or.inr (Or.inr rfl))(hd:(y==("__debug__":Str))=false:=by decide)
 (hcd:(y==("__classdict__":Str))=false:=by decide):DP X c .s (.Subscript (.Name y py) e pos) (yG i fe):=λhid ρ=>
 PE.imp (BW hu (pv i hN hv' hd hcd) (he hid ρ) hs) λσ H Q hq_=>by
  obtain⟨sr,d,hd,q⟩:=hq_
  obtain⟨kvs,e0,hd⟩:=Option.bind_eq_some_iff.mp hd
  obtain⟨kk,e1,hd⟩:=Option.bind_eq_some_iff.mp hd
  obtain⟨dk,e3,e4⟩:=Option.bind_eq_some_iff.mp e1
  have e5:=di e4
  subst e5;obtain⟨a,us,a1,a2,a3,a4,a5⟩:=sr.dictT e0
  refine⟨.ref a,a1,sr,_,e3,λz H2 s2 r2=>?_⟩
  obtain⟨b,rfl,hb⟩:=my (RK.b k1 r2 λa n=>sr.fresh n)
  have hh:H2 a=some (.dT us):=s2 _ _ a4
  have rr:KRt X.K (vw H2 hid) us kvs:=⟨a5.1,a5.2.mono (aw s2)⟩
  rcases rr.val (iK kk) with⟨v1,v2⟩|⟨v,d',v1,v2,v3⟩
  ·rw[v2] at hd;cases hd
  ·rw[v2] at hd;cases hd
   exact⟨a,b,us,iK kk,v,rfl,rfl,hh,hb,v1,q _ H2 s2 v3⟩
def Ek(i:Nat)(fk:FE):FT:=λρ=>(kH i ρ).bind λkvs=>((fk ρ).bind om).map λk=>(gx kvs (iK k)).isSome
theorem zr(i:Nat)(hu:X.A.units+1<cLine)(he:DP X c k1 e fe)(hN:X.N[i]? =some y:=by rfl)(hv':lR X.env.scope y:=by first|exact Or.inl rfl|exact Or.inr (Or.inl rfl)|exact Or.inr (Or.inr rfl))(hd:(y==("__debug__":Str))=false:=by decide)
 (hcd:(y==("__classdict__":Str))=false:=by decide) (hm:behindInMarks .In (.Name y py)=false:=by rfl):DT X c (.Compare e [.In] [.Name y py] pos) (Ek i fe):=λhid ρ=>
 PT.imp (tm (B8 hu (he hid ρ) (pv i hN hv' hd hcd)) hm) λσ H Q hq_=>by
  obtain⟨sr,d,hd,q⟩:=hq_
  obtain⟨kvs,e0,hd⟩:=Option.bind_eq_some_iff.mp hd
  obtain⟨kk,e1,rfl⟩:=Option.map_eq_some_iff.mp hd
  obtain⟨dk,e3,e4⟩:=Option.bind_eq_some_iff.mp e1
  have e5:=di e4
  subst e5;obtain⟨a,us,a1,a2,a3,a4,a5⟩:=sr.dictT e0
  refine⟨sr,_,e3,λz H2 s2 r2=>⟨.ref a,a1,?_⟩⟩
  obtain⟨b,rfl,hb⟩:=my (RK.b k1 r2 λa n=>sr.fresh n)
  have hh:H2 a=some (.dT us):=s2 _ _ a4
  have rr:KRt X.K (vw H2 hid) us kvs:=⟨a5.1,a5.2.mono (aw s2)⟩
  refine⟨a,b,us,iK kk,rfl,rfl,hh,hb,_,rfl,?_⟩
  rcases rr.val (iK kk) with⟨v1,v2⟩|⟨v,d',v1,v2,v3⟩
  ·rw[v1];rw[v2] at q;exact q H2 s2
  ·rw[v1];rw[v2] at q;exact q H2 s2
end
def RawAt(h:Heap)(d:Addr)(es:Array DictEntry)(ep:Nat):Prop:= ∃o,h.get? d=some o/\o.ExactDict/\o.data=.dict es ep
section
variable {prog:Program}{w:World}{A:Around}{E:Value->Shared->Prop}{s:Shared}{d it:Addr}{es:Array DictEntry}{ep i:Nat}
theorem RawAt.ty(h:RawAt s.heap d es ep):s.TypeIs (.ref d) "dict":=let⟨o,h1,h2,_⟩:=h;⟨o,h1,h2.1⟩
theorem RawAt.lt {h:Heap}(x:RawAt h d es ep):d<h.objs.size:=let⟨_,h1,_⟩:=x;Heap.lt_size h1
theorem RawAt.to {h h':Heap}(x:RawAt h d es ep)(k: ∀o,h.get? d=some o->h'.get? d=some o):RawAt h' d es ep:=let⟨o,h1,r⟩:=x;⟨o,k o h1,r⟩
theorem rF {Q:Value->Shared->Prop}(lo:(d==sysModules)=false)(x:RawAt s.heap d es ep)
 (q:Q (.ref s.heap.objs.size) {s with heap:=s.heap.push {cls:=.type "dict_keyiterator",data:=.fields #[.ref d,.int 0 0,.int es.size 0,.int ep 0]}}):wpAny (model prog w) A (pyIter (.ref d)) Q E s:=by
 have ty:=x.ty
 obtain⟨o,g1,g2,g3⟩:=x
 refine wpAny_pyIter_slot ty F.slot_dict_iter (wpAny_call_entry F.slot_dict_iter ty F.entry_dict_iter ?_ (F.args_dict_iter_1 _))
 unfold Builtin.«dict.__iter__»;refine wpAny_bind ?_
 unfold Builtin.Dict.dictSlotNone;refine wpAny_bind (wpAny_notOrdered_dict ty ?_)
 show wpAny _ _ (pure (Value.ref d)) _ _ s;refine wpAny_pure ?_
 show wpAny _ _ (Builtin.Dict.showsAll d>>=_) _ _ s;unfold Builtin.Dict.showsAll;rw[if_neg (by rw[lo];exact Bool.false_ne_true)]
 refine wpAny_bind (wpAny_pure (wpAny_bind (wpAny_dictEntries g1 g3 (wpAny_bind (wpAny_dictEpoch g1 g3 ?_)))))
 refine wpAny_bind (wpAny_newObj_type (wpAny_pure ⟨_,rfl,"dict_keyiterator",_,⟨_,Heap.get?_push_size _ rfl,rfl⟩,F.slot_dict_keyiterator_next.lookup,?_⟩))
 simpa [rawInt] using q
theorem pZ {Q:Option Value->Shared->Prop}(hit:s.heap.IsKeyIter it d i es.size ep)(x:RawAt s.heap d es ep)(hi:i<es.size)
 (q: ∀h',h'.IsKeyIter it d (i+1) es.size ep->Heap.SameBut it s.heap h'->Q (some es[i].key) {s with heap:=h'}):wpAny (model prog w) A (pyNext (.ref it)) Q E s:=by
 obtain⟨o,k1,k2,k3⟩:=id hit
 obtain⟨od,g1,g2,g3⟩:=id x
 unfold pyNext;refine wpAny_bind (wpAny_attempt (wpAny_callSpecial?_slot (name:=Str.ofString "__next__") hit.typeIs F.slot_dict_keyiterator_next (wpAny_call_entry F.slot_dict_keyiterator_next hit.typeIs F.entry_dict_keyiterator_next ?_ (F.args_dict_keyiterator_next_1 _))))
 refine wpAny_bind (wpAny_pure (wpAny_bind (wpAny_bind ?_)))
 first|refine wpAny_bind (wpAny_typeNameOfWhole_keyiter hit.typeIs (wpAny_pure (wpAny_bind (wpAny_fieldsOf k1 k3 ?_))))|refine wpAny_bind (wpAny_typeNameOf_keyiter hit.typeIs (wpAny_pure (wpAny_bind (wpAny_fieldsOf k1 k3 ?_))))
 simp only[show Builtin.Dict_items.ownsTuple "dict_keyiterator"=false by decide,Bool.false_eq_true,if_false]
 show wpAny _ _ (if(Value.ref d==Value.none)=true then _ else _) _ _ s;rw[if_neg (show¬((Value.ref d==Value.none)=true) from Bool.false_ne_true)]
 refine wpAny_bind (wpAny_pure (wpAny_bind (wpAny_dictEntries g1 g3 ?_)))
 rw[if_neg (by simp)]
 refine wpAny_bind (wpAny_pure (wpAny_bind (wpAny_dictEpoch g1 g3 ?_)))
 rw[if_neg (by simp)]
 refine wpAny_pure ?_
 simp only[show¬((i:Int)<0) from by omega,if_false,Int.toNat_natCast,Array.getElem?_eq_getElem hi]
 refine wpAny_bind ?_
 first|refine wpAny_bind (wpAny_typeNameOfWhole_keyiter hit.typeIs (wpAny_pure (wpAny_bind (wpAny_isOneOf_keyiter hit.typeIs ?_))))|refine wpAny_bind (wpAny_typeNameOf_keyiter hit.typeIs (wpAny_pure (wpAny_bind (wpAny_isOneOf_keyiter hit.typeIs ?_))))
 show wpAny _ _ (setField (.ref it) 1 (rawInt ((i:Int)+1))>>=_) _ _ s;refine wpAny_bind (wpAny_setField k1 k3 (by simp) ?_)
 have nx:(s.heap.update it (Obj.mapFields (·.setIfInBounds 1 (rawInt ((i:Int)+1))))).IsKeyIter it d (i+1) es.size ep:=⟨_,Heap.get?_update_self _ k1 (Obj.isFreed_of_fields (Obj.data_mapFields k3 _)),(Obj.cls_mapFields ..).trans k2,by rw[Obj.data_mapFields k3];simp[rawInt]⟩
 refine wpAny_bind (wpAny_holding (wpAny_bind (wpAny_isOneOf_keyiter (s:={s with heap:=s.heap.update it (Obj.mapFields (·.setIfInBounds 1 (rawInt ((i:Int)+1))))}) nx.typeIs ?_)))
 show wpAny _ _ (pure es[i].key) _ _ _;exact wpAny_pure (wpAny_pure ⟨_,rfl,wpAny_pure (q _ nx (Heap.SameBut.update ..))⟩)
theorem uY {Q:Option Value->Shared->Prop}(calm:A.handled=none)(hit:s.heap.IsKeyIter it d es.size es.size ep)(x:RawAt s.heap d es ep)
 (q: ∀h',Heap.ExtBut it s.heap h'->Q none {s with heap:=h'}):wpAny (model prog w) A (pyNext (.ref it)) Q E s:=by
 obtain⟨o,k1,k2,k3⟩:=id hit
 obtain⟨od,g1,g2,g3⟩:=id x
 unfold pyNext;refine wpAny_bind (wpAny_attempt (wpAny_callSpecial?_slot (name:=Str.ofString "__next__") hit.typeIs F.slot_dict_keyiterator_next (wpAny_call_entry F.slot_dict_keyiterator_next hit.typeIs F.entry_dict_keyiterator_next ?_ (F.args_dict_keyiterator_next_1 _))))
 refine wpAny_bind (wpAny_pure (wpAny_bind (wpAny_bind ?_)))
 first|refine wpAny_bind (wpAny_typeNameOfWhole_keyiter hit.typeIs (wpAny_pure (wpAny_bind (wpAny_fieldsOf k1 k3 ?_))))|refine wpAny_bind (wpAny_typeNameOf_keyiter hit.typeIs (wpAny_pure (wpAny_bind (wpAny_fieldsOf k1 k3 ?_))))
 simp only[show Builtin.Dict_items.ownsTuple "dict_keyiterator"=false by decide,Bool.false_eq_true,if_false]
 show wpAny _ _ (if(Value.ref d==Value.none)=true then _ else _) _ _ s;rw[if_neg (show¬((Value.ref d==Value.none)=true) from Bool.false_ne_true)]
 refine wpAny_bind (wpAny_pure (wpAny_bind (wpAny_dictEntries g1 g3 ?_)))
 rw[if_neg (by simp)]
 refine wpAny_bind (wpAny_pure (wpAny_bind (wpAny_dictEpoch g1 g3 ?_)))
 rw[if_neg (by simp)]
 refine wpAny_pure ?_
 simp only[show¬((es.size:Int)<0) from by omega,if_false,Int.toNat_natCast,Array.getElem?_eq_none (Nat.le_refl es.size)]
 refine wpAny_bind ?_
 first|refine wpAny_bind (wpAny_typeNameOfWhole_keyiter hit.typeIs (wpAny_pure ?_))|refine wpAny_bind (wpAny_typeNameOf_keyiter hit.typeIs (wpAny_pure ?_))
 show wpAny _ _ (setField (.ref it) 0 .none>>=_) _ _ s;refine wpAny_bind (wpAny_setField k1 k3 (by simp) ?_)
 show wpAny _ _ (newExc (.type "StopIteration") []>>=_) _ _ _;refine wpAny_bind ?_
 simp only[newExc,newTuple];refine wpAny_bind (wpAny_newObj_type (wpAny_bind (m:=firstArgMember _ _) (wpAny_of_eq (a:=Value.none) (by first|rfl|(simp only[firstArgMember];rfl)) (wpAny_newObj_type ?_ (by size_fits)))) (by size_fits))
 simp only[raiseNew];refine wpAny_bind (wpAny_handled ?_)
 rw[show A.in1.handled=none from calm];refine wpAny_bind (wpAny_pure (wpAny_throw ?_));refine wpAny_bind (wpAny_isInstance (T:="StopIteration") (b:=true) ⟨_,Heap.get?_push_size _ rfl,rfl⟩ isSubtype_stop ?_)
 exact wpAny_pure (q _ (((Heap.SameBut.update ..).extBut.push _).push _))
theorem wx(calm:A.handled=none)(I:Addr)(ne:d≠I):Walks prog w A I [I,d] [I] es.size (λi v=> ∃e,es[i]? =some e/\v=e.key) (λi h=>h.IsKeyIter I d i es.size ep/\RawAt h d es ep) where
 sub:=λb hb=>by simp at hb;simp[hb]
 frame:=λ_ _ _ st hk=>⟨st.1.at λo e=>hk I (by simp) o e,st.2.to λo e=>hk d (by simp) o e⟩
 item:=λi s Q E hi st hQ=>pZ st.1 st.2 hi λh' it' sb=>hQ _ h' s.toks ⟨_,Array.getElem?_eq_getElem hi,rfl⟩ ⟨it',st.2.to λo e=>sb.extBut d o ne e⟩ λb o hb e=>sb.extBut b o (λh=>hb (by simp[h])) e
 done:=λs Q E st hQ=>uY calm st.1 st.2 λh' he'=>hQ h' s.toks λb o hb e=>he' b o (λh=>hb (by simp[h])) e
 self:=λ_ _ _ _ st hQ=>wpAny_pyIter_keyiter st.1 hQ
theorem ut(lo:(d==sysModules)=false):KdlSrc prog w "dict" d d es.size (λi v=> ∃e,es[i]? =some e/\v=e.key) (λh=>RawAt h d es ep) where
 type:=λ_ h=>h.ty
 there:=λ_ h=>⟨h.lt,h.lt⟩
 keep:=λ_ _ h hk=>h.to λo e=>hk d (.inl rfl) o e
 notList:=by decide
 notTuple:=by decide
 hint:=λ_ _ _ _ h hq=>kdl_hint_dict h.ty hq
 iter:=λ_ _ hh h=>⟨_,_,λ_ _ hq=>rF lo h hq,wx hh _ (Nat.ne_of_lt h.lt),⟨_,Heap.get?_push_size _ rfl,rfl,rfl⟩,h.to λo e=>Heap.get?_push_of_some _ e⟩
theorem lB {T:String}{r:Addr}{us:List Value}{P:Nat->Value->Prop}{OK:Heap->Prop}{Q:Value->Shared->Prop}{G:List Nat->Prop}(src:KdlSrc prog w T r d us.length P OK)(hP: ∀i v,i<us.length->P i v->us[i]? =some v)(calm:A.handled=none)(good:OK s.heap)(hz:us.length<64)
 (few:us.length<2->G (List.range us.length))
 (many:2<=us.length-> ∀(g:Heap) (tk:Nat),(∀c o,s.heap.get? c=some o->g.get? c=some o)->wpAny (model prog w) A.in1.in1 (keyKind' us.toArray) (λκ t=>t={s with heap:=g,toks:=tk}/\
   (kas_sort us.length).kasWp (kas_ask prog w A.in1.in1 κ us) (λp t'=>t'=t/\G p.toList) t) (λ_ _=>False) {s with heap:=g,toks:=tk})
 (fin: ∀(g:Heap) (tk a e:Nat) (ix:List Nat),(∀c o,s.heap.get? c=some o->g.get? c=some o)->s.heap.objs.size<=a->G ix->g.get? a=some (seqObj "list" (List.toArray (ix.map λi=>us.getD i Value.none)) e)->Q (.ref a) {s with heap:=g,toks:=tk}):
 wpAny (model prog w) A (call (.builtin "sorted") [.ref r]) Q E s:=by
 refine Calls.call_function_entry kind_sorted plain_sorted entry_sorted (args_sorted1 _) ?_
 unfold Builtin.«sorted»;refine wpAny_bind (m:=checkCount "sorted" 1 1 _) (wpAny_pure (wpAny_bind (mJ (A:=A.in1) src calm good (by rw[sizeLine_eq];omega) λg tk acc kg sg0 hacc=>?_)))
 have hus:acc.toList=us:=List.ext_getElem? λi=>by
  by_cases hi:i<us.length
  ·have h1:i<acc.size:=by rw[hacc.1];exact hi
   have e3:acc[i]? =some acc[i]:=Array.getElem?_eq_getElem h1
   rw[Array.getElem?_toList,e3,hP i _ hi (hacc.2 i _ e3)]
  ·have h1: ¬i<acc.toList.length:=by rw[Array.length_toList,hacc.1];exact hi
   rw[List.getElem?_eq_none (by omega),List.getElem?_eq_none (by omega)]
 rw[hus];have sg:s.heap.objs.size<=g.objs.size:=Nat.le_of_lt sg0
 refine wpAny_bind (wpAny_newList ?_ (by rw[sizeLine_eq];omega))
 have hL:(g.push (seqObj "list" us.toArray 0)).get? g.objs.size=some (seqObj "list" us.toArray 0):=Heap.get?_push_size _ rfl
 show wpAny _ _ _ _ _ {s with heap:=g.push (seqObj "list" us.toArray 0),toks:=tk}
 have end_: ∀ix:List Nat,G ix->Q (.ref g.objs.size) {s with heap:=sortedHeap (g.push (seqObj "list" us.toArray 0)) g.objs.size us (List.toArray (ix.map λi=>us.getD i Value.none)),toks:=tk}:=λix hG=>by
  obtain⟨e,he⟩:=sortedHeap_at (out:=List.toArray (ix.map λi=>us.getD i Value.none)) hL
  refine fin _ tk g.objs.size e ix (λc u hu=>?_) sg hG he
  have lt:=Heap.lt_size (kg c u hu)
  rw[sortedHeap_old (Nat.ne_of_lt lt) (by rw[size_push'];exact Nat.lt_succ_of_lt lt)]
  exact Heap.get?_push_of_some _ (kg c u hu)
 refine wpAny_bind (wpAny_holding (wpAny_call_entry slot_list_sort ⟨_,hL,rfl⟩ entry_list_sort (ml (P:=λf t=> ∃v,f=.done (.ret v)/\wpAny (model prog w) A.in1 (pure (PySem.Fin.done (.ret (Value.ref g.objs.size)))) (λf t=> ∃v,f=.done (.ret v)/\Q v t) E t) hL (by omega) (λh=>?_) (λh g' kg'=>?_)) (args_list_sort _)))
 ·have e:=end_ (List.range us.length) (few h)
  rw[show(List.range us.length).map (λi=>us.getD i Value.none)=us from List.ext_getElem? λi=>by
   by_cases hi:i<us.length
   ·simp[hi]
   ·simp[hi]] at e
  exact⟨_,rfl,wpAny_pure ⟨_,rfl,e⟩⟩
 ·refine wpAny_mono (many h g' tk λc u hu=>kg' c u (Nat.ne_of_lt (Heap.lt_size (kg c u hu))) (Heap.get?_push_of_some _ (kg c u hu))) (λκ t ⟨et,ht⟩=>⟨et,?_⟩) λ_ _ x=>x
  rw[kat_ask_eq rfl] at ht⊢;exact kas_wp_mono ht λp t' ⟨e1,hG⟩=>⟨e1,_,rfl,wpAny_pure ⟨_,rfl,end_ _ hG⟩⟩
end
abbrev za(H:Hp):List V->List (List Int)->Prop:=Paired λy ks=> ∃b,y=.ref b/\H b=some (.tup (ks.map V.int))
theorem pe {H:Hp}: ∀ {us:List (List aS×V)} {xs:List (List aS×Addr×Value)} {kss:List (List Int)},KTd H us xs->us.map (·.1)=kss.map iK->za H (xs.map λx=>V.ref x.2.1) kss
 |_,_,[],r,e=>by
  cases r with
  |nil=>exact .nil
  |cons _ _=>cases e
 |_,_,ks::kss,r,e=>by
  cases r with
  |nil=>cases e
  | @cons p q ps qs h t=>
    rw[List.map_cons,List.map_cons] at e;injection e with e1 e2
    refine .cons ⟨q.2.1,rfl,?_⟩ (pe t e2)
    rw[h.2.1,e1];unfold iK;rw[List.map_map];rfl
theorem ji {H:Hp}: ∀ {ys:List V} {kss:List (List Int)} {i:Nat},za H ys kss->i<kss.length-> ∃b,ys.getD i .non=.ref b/\H b=some (.tup ((kss.getD i []).map V.int))
 |_,_,_,.nil,e=>by simp at e
 |_,_,0,.cons h _,e=>by obtain⟨b,h1,h2⟩:=h;exact⟨b,by simpa using h1,by simpa using h2⟩
 |_,_,i+1,.cons _ r,e=>by
  obtain⟨b,h1,h2⟩:=ji (i:=i) r (by simpa using e)
  exact⟨b,by simpa using h1,by simpa using h2⟩
theorem lJ {H:Hp}{ys:List V}{kss:List (List Int)}(r:za H ys kss): ∀ix:List Nat,(∀i∈ix,i<kss.length)->za H (ix.map λi=>ys.getD i .non) (ix.map λi=>kss.getD i [])
 | [],_=>.nil
 |i::l,h=>.cons (ji r (h i List.mem_cons_self)) (lJ r l λj hj=>h j (List.mem_cons_of_mem _ hj))
theorem lc {H:Hp}{ys:List V}{kss:List (List Int)}(r:za H ys kss):ys.length=kss.length:=Paired.length r
theorem kW: ∀xs:List (List aS×Addr×Value),Vals (xs.map λx=>V.ref x.2.1) (xs.map λx=>Value.ref x.2.1)
 | []=>.nil
 |_::xs=>.cons rfl (kW xs)
theorem qY: ∀ {ns:List Int} {us:List Value},Vals (ns.map V.int) us->i4 us ns
 | [],_,h=>by cases h;exact .nil
 |_::_,_,h=>by cases h with|cons h1 h2=>exact .cons h1 (qY h2)
section
variable {X:Cx}
theorem i3(hc:X.calm=true):bU X (.builtin "sorted") (λxs H Q=> ∃a us kss,xs=[.ref a]/\Rd H a (.dT us)/\us.map (·.1)=kss.map iK/\kss.length<64/\(∀k∈kss,k≠[])/\
 ∀l ys,H l=none->za H ys (aU aY kss)->Q (.ref l) (aV H l (.lst ys))):=by
 intro aa s σ H xs vs Q I r h;obtain⟨a,us,kss,rfl,ha,hk,hz,hne,q⟩:=h
 obtain⟨u,rfl,rx⟩:=dU r
 cases rx
 obtain⟨z,lo,xs,rel,o,es,ep,d1,d2,d3,d4,d5,d6⟩:=kB I.hok ha
 have ky:=pe rel hk
 have lx:xs.length=kss.length:=by
  have:=lc ky
  simpa using this
 obtain⟨its,hits⟩: ∃its,its=xs.map λx=>Value.ref x.2.1:=⟨_,rfl⟩
 have li:its.length=kss.length:=by rw[hits,List.length_map,lx]
 have rv:Vals (xs.map λx=>V.ref x.2.1) its:=by rw[hits];exact kW xs
 have sz:es.size=its.length:=by rw[<-Array.length_toList,d4,List.length_map,li,lx]
 have raw:RawAt s.heap a es ep:=⟨o,d1,d2,d3⟩
 have gi: ∀i,i<kss.length-> ∃(b:Addr) (o:Obj) (ts:List Value) (n:Nat),its.getD i Value.none=.ref b/\s.heap.get? b=some o/\o.cls=.type "tuple"/\o.data=.seq ts.toArray n/\i4 ts (kss.getD i []):=λi hi=>by
  obtain⟨b,h1,h2⟩:=ji ky hi
  have r1:=dn rv i
  rw[h1] at r1;obtain⟨ts,r',⟨o,ho,hc,n,hd⟩,_⟩:=I.tuple (.inl (.inl h2))
  exact⟨b,o,ts,n,r1,ho,hc,hd,qY r'⟩
 have kt: ∀(g:Heap),(∀c o,s.heap.get? c=some o->g.get? c=some o)-> ∀(l:List Value) (ms:List (List Int)),l.length=ms.length->(∀i,i<ms.length-> ∃(b:Addr) (o:Obj) (ts:List Value) (n:Nat),l.getD i Value.none=.ref b/\s.heap.get? b=some o/\o.cls=.type "tuple"/\o.data=.seq ts.toArray n/\i4 ts (ms.getD i []))->(∀k∈ms,k≠[])->
  ∃fs,KatTups g l fs/\fs.length=l.length/\ ∀v∈fs,∃i t,v=Value.int i t:=by
  intro g kg l
  induction l with
  |nil=>intro ms _ _ _;exact⟨[],.nil,rfl,λ_ h=>nomatch h⟩
  |cons v l ih=>
   intro ms hl hg hk;cases ms with
   |nil=>cases hl
   |cons m ms=>
    obtain⟨fs,f1,f2,f3⟩:=ih ms (by simpa using hl) (λi hi=>by simpa using hg (i+1) (by simpa using hi)) λk hk'=>hk k (by simp[hk'])
    obtain⟨b,o,ts,n,g1,g2,g3,g4,g5⟩:=hg 0 (by simp)
    simp[List.getD] at g1 g5;subst g1;cases m with
    |nil=>exact absurd rfl (hk [] (by simp))
    |cons x xs=>
     cases g5 with
     |cons y1 y2=>
      obtain⟨t,rfl⟩:=y1
      refine⟨_,KatTups.cons (kg _ _ g2) g3 g4 (by simp;rfl) f1,by simp[f2],λv hv=>?_⟩
      rcases List.mem_cons.mp hv with rfl|hv
      ·exact⟨_,_,rfl⟩
      ·exact f3 v hv
 refine lB (us:=its) (G:=λix=>(∀i∈ix,i<kss.length)/\ix.map (λi=>kss.getD i [])=aU aY kss) (sz▸ut (es:=es) (ep:=ep) lo) (λi v hi hv=>?_) (I.ok.hd hc) raw (by omega) (λfew=>⟨λi hi=>?_,?_⟩) (λh2 g tk kg=>?_) (λg tk p e ix kg hp hG hg=>?_)
 ·obtain⟨e,h1,rfl⟩:=hv
  rw[<-Array.getElem?_toList,d4,List.getElem?_map] at h1;obtain⟨x,h2,rfl⟩:=Option.map_eq_some_iff.mp h1
  rw[hits,List.getElem?_map,h2];rfl
 ·rw[List.mem_range] at hi;omega
 ·rw[li,dG,cD (by omega)]
 ·obtain⟨fs,f1,f2,f3⟩:=kt g kg its kss li gi hne
  refine kat_kind (T:=.type "int") f1 (by omega) (λv hv=>?_) (by rfl) ⟨rfl,?_⟩
  ·obtain⟨i,t,rfl⟩:=f3 v hv;exact Looks.now
  ·rw[li]
   refine iZ (b:=λi j=>aY (kss.getD i []) (kss.getD j [])) (rj mX _) (by omega) (λi j C hi hj hC=>?_) λp P S=>⟨rfl,?_,?_⟩
   ·obtain⟨b1,o1,ts1,n1,x1,x2,x3,x4,x5⟩:=gi i hi
    obtain⟨b2,o2,ts2,n2,y1,y2,y3,y4,y5⟩:=gi j hj
    unfold kas_ask;rw[x1,y1];refine kat_lt (kg _ _ x2) x4 (kg _ _ y2) y4 ?_
    refine jv 0 x5 y5 ?_ hC
    have z1:=Paired.length x5
    have z2:=Paired.length y5
    simp[z1,z2]
   ·intro i hi
    have:=P.perm.mem_iff.mp (Array.mem_toList_iff.mp hi)
    simpa using this
   ·exact cZ mX P S
 ·have kp:=lJ ky ix hG.1
  rw[hG.2] at kp;have ll:(aU aY kss).length=kss.length:=(br (lt:=aY) kss).length_eq
  refine⟨.ref p,_,I.laid (t':=tk) kg hp (show ObjOk X.prog X.w _ g _ (.lst (ix.map λi=>(xs.map λx=>V.ref x.2.1).getD i .non)) from⟨?_,_,e,fu rv ix,hg⟩),rfl,q _ _ (I.hok.fresh hp) kp⟩
  rw[lc kp,ll,sizeLine_eq];omega
def intKs:List (List aS×D)->Option (List (List Int))
 | []=>some []
 |(k,_)::r=>(intK k).bind λns=>(intKs r).map (ns:: ·)
where intK:List aS->Option (List Int)
 | []=>some []
 | .inl i::r=>(intK r).map (i:: ·)
 |_=>none
theorem uN: ∀ {k:List aS} {ns:List Int},intKs.intK k=some ns->k=iK ns
 | [],_,h=>by cases h;rfl
 | .inl i::r,ns,h=>by
   have h:(intKs.intK r).map (i:: ·)=some ns:=h
   obtain⟨t,e,rfl⟩:=Option.map_eq_some_iff.mp h
   rw[uN e];rfl
 | .inr _::_,_,h=>by cases h
theorem gR: ∀ {kvs:List (List aS×D)} {kss:List (List Int)},intKs kvs=some kss->kvs.map (·.1)=kss.map iK
 | [],_,h=>by cases h;rfl
 |(k,d)::r,kss,h=>by
  have h:((intKs.intK k).bind λns=>(intKs r).map (ns:: ·))=some kss:=h
  obtain⟨ns,e1,h⟩:=Option.bind_eq_some_iff.mp h
  obtain⟨t,e,rfl⟩:=Option.map_eq_some_iff.mp h
  rw[List.map_cons,List.map_cons,gR e,<-uN e1]
theorem gH {K:W.Frag}{H:Hp}{hid:aX}(ht: ∀b xs,hid b=true->H b≠some (.tup xs)): ∀ {ys:List V} {kss:List (List Int)},za H ys kss->Reps K (vw H hid) ys (kss.map nR)
 |_,[],h=>by cases h;exact .nil
 |_,ks::kss,h=>by
  cases h with
  |cons h1 h2=>
   obtain⟨b,rfl,hb⟩:=h1
   refine .cons (.tup (vw_some.mpr ⟨?_,hb⟩) (nA ks)) (gH ht h2)
   cases e:hid b with
   |false=>rfl
   |true=>exact absurd hb (ht b _ e)
def qi(i:Nat):FE:=λρ=>(kH i ρ).bind λkvs=>(intKs kvs).bind λkss=>if kss.length<64/\ ∀k∈kss,k≠[] then some (.lst ((aU aY kss).map nR)) else none
theorem qk {c:Ct}{pos p py:Pos}{y:Str}(i:Nat)(hcm:X.calm=true)(hm:X.mg "sorted"=none)(hN:X.N[i]? =some y:=by rfl)(hv':lR X.env.scope y:=by first|exact Or.inl rfl|exact Or.inr (Or.inl rfl)|exact Or.inr (Or.inr rfl))(hd:(y==("__debug__":Str))=false:=by decide)
 (hcd:(y==("__classdict__":Str))=false:=by decide) (hg:Gl X "sorted":=by rfl) (hv:bootBuiltins "sorted"=some (.builtin "sorted"):=by kernel_rfl)
 (he:starEach [.Name y py] X.env=(false,eval (.Name y py) X.env)::starEach [] X.env:=by rfl) (hpl:(backTo pos (starEach [] X.env)).any (·.1)=false:=by rfl):DP X c .n (.Call (.Name "sorted" p) [.Name y py] [] pos) (qi i):=λhid ρ=>
 PE.imp (fC (i3 hcm) hg hm hv (a8 (pv i hN hv' hd hcd) bJ he) (by decide) (by decide) he hpl) λσ H Q hq_=>by
  obtain⟨sr,d,hd,q⟩:=hq_
  obtain⟨kvs,e0,hd⟩:=Option.bind_eq_some_iff.mp hd
  obtain⟨kss,e1,hd⟩:=Option.bind_eq_some_iff.mp hd
  split at hd
  ·rename_i hz
   cases hd
   obtain⟨a,us,a1,a2,a3,a4,a5⟩:=sr.dictT e0
   refine⟨.ref a,a1,a,us,kss,rfl,.inl a4,by rw[a5.1];exact gR e1,hz.1,hz.2,λl ys hl hy=>q _ _ (aC hl _) (c8 hl (Same.refl _) (gH sr.ht hy))⟩
  ·cases hd
end
abbrev zn:=List (List aS×D)
theorem uX {α:Type}(next:Nat->Nat): ∀(fuel k:Nat) (left:List α) (out:Array α),fuel=left.length->(pickOrder.go next fuel k left out).toList.Perm (out.toList++left)
 |0,k,left,out,h=>by
  obtain rfl:left=[]:=List.eq_nil_of_length_eq_zero h.symm
  rw[List.append_nil];exact List.Perm.refl _
 |fuel+1,k,left,out,h=>by
  have lt:next k % left.length<left.length:=Nat.mod_lt _ (by omega)
  have e:left[next k % left.length]? =some left[next k % left.length]:=List.getElem?_eq_getElem lt
  unfold pickOrder.go;rw[e];dsimp only;refine(uX next fuel (k+1) _ _ (by rw[List.length_eraseIdx,if_pos lt];omega)).trans ?_
  rw[Array.toList_push,List.append_assoc];refine List.Perm.append_left _ ?_
  have e2:left=left.take (next k % left.length)++left[next k % left.length]::left.drop (next k % left.length+1):=by
   conv=>lhs;rw[<-List.take_append_drop (next k % left.length) left,List.drop_eq_getElem_cons lt]
  rw[List.eraseIdx_eq_take_drop_succ]
  conv=>rhs;rw[e2]
  exact(List.perm_middle (l₁:=left.take (next k % left.length))).symm
theorem tS {α:Type}(next:Nat->Nat)(xs:Array α):(pickOrder next xs).toList.Perm xs.toList:=by
 have:=uX next xs.size 0 xs.toList #[] (by simp)
 unfold pickOrder;simpa using this
theorem xj {xs:Array Nat}(r:Ris xs){j p:Nat}(b:Bel xs j p):SetTable.below xs j=p:=by
 have b':=Es r j
 rcases Nat.lt_trichotomy (SetTable.below xs j) p with c|c|c
 ·have lt:SetTable.below xs j<xs.size:=by have:=b.le;omega
  have e:xs[SetTable.below xs j]? =some xs[SetTable.below xs j]:=Array.getElem?_eq_getElem lt
  have h1:=b.lo _ _ c e
  have h2:=b'.hi _ _ (Nat.le_refl _) e
  omega
 ·exact c
 ·have lt:p<xs.size:=by have:=b'.le;omega
  have e:xs[p]? =some xs[p]:=Array.getElem?_eq_getElem lt
  have h1:=b'.lo _ _ c e
  have h2:=b.hi _ _ (Nat.le_refl _) e
  omega
theorem wY {xs:Array Nat}(r:Ris xs){i:Nat}(hi:i<=xs.size):SetTable.below xs (if i=0 then 0 else xs.getD (i-1) 0+1)=i:=by
 refine xj r ⟨hi,λx a hx ha=>?_,λx a hx ha=>?_⟩
 ·rw[if_neg (by omega)]
  have lt:i-1<xs.size:=by omega
  have e:xs[i-1]? =some xs[i-1]:=Array.getElem?_eq_getElem lt
  have eg:xs.getD (i-1) 0=xs[i-1]:=by simp[Array.getD,lt]
  rw[eg]
  by_cases c:x=i-1
  ·subst c;rw[e] at ha;cases ha;omega
  ·have:=r.lt (show x<i-1 by omega) ha e;omega
 ·by_cases c:i=0
  ·rw[if_pos c];omega
  ·rw[if_neg c]
   have lt:i-1<xs.size:=by omega
   have e:xs[i-1]? =some xs[i-1]:=Array.getElem?_eq_getElem lt
   have eg:xs.getD (i-1) 0=xs[i-1]:=by simp[Array.getD,lt]
   rw[eg];exact r.lt (show i-1<x by omega) e ha
def dw(w:World):Bool:=w.params.followText "set-order"
def fh(w:World)(a:Addr)(ep:Nat)(es:Array (Int×Value)):Array (Int×Value):=if dw w=true then pickOrder (w.params.setOrder a ep) es else es
theorem jL(w:World)(a:Addr)(ep:Nat)(es:Array (Int×Value)):(fh w a ep es).toList.Perm es.toList:=by
 unfold fh;split
 ·exact tS _ _
 ·exact List.Perm.refl _
theorem g9(w:World)(a:Addr)(ep:Nat)(es:Array (Int×Value)):(fh w a ep es).size=es.size:=by
 have:=(jL w a ep es).length_eq
 simpa using this
def pX(w:World)(t:SetTable)(i:Nat):Nat:=if dw w=true then 0 else if i=0 then 0 else t.place.getD (i-1) 0+1
def RawSet(w:World)(h:Heap)(d:Addr)(es:Array (Int×Value))(ep:Nat)(t:SetTable):Prop:= ∃o xs,h.get? d=some o/\SetAt w o es ep t xs
def IsSetIter(w:World)(t:SetTable)(h:Heap)(it d:Addr)(i n ep:Nat):Prop:= ∃o,h.get? it=some o/\o.cls=.type "set_iterator"/\o.data=.fields #[.int (pX w t i) 0,.int i 0,.ref d,.int n 0,.int ep 0]
theorem slot_si_next:Slot "set_iterator" "__next__" "set_iterator.__next__":=.of (owner:="set_iterator") (n:="__next__") (by rw[typeLookup_type,builtinLookup_eq_fast];kernel_rfl) (by decide+kernel) (by decide+kernel) (by decide+kernel) (by first|exact .inl (by decide+kernel)|exact .inr (by decide+kernel)) (by rw[isSubtype_type];kernel_rfl)
theorem ii:entryFor table "set_iterator.__next__"=some Builtin.«set_iterator.__next__»:=entryFor_of_tree (by kernel_rfl)
theorem qg:Manifest.owners.lookup (String.ofList ['r','o','t','a','r','e','t','i','_','t','e','s'].reverse)=some Manifest.sig_set_iterator:=by kernel_rfl
theorem iW(a:Value):argsOk "set_iterator.__next__" ⟨[a],[]⟩:=by unfold argsOk;rw[signature?_of (id:="set_iterator.__next__") (n:=['_','_','t','x','e','n','_','_']) (o:=['r','o','t','a','r','e','t','i','_','t','e','s']) (by kernel_rfl) qg];kernel_rfl
theorem iV:Slot "set_iterator" "__iter__" "set_iterator.__iter__":=.of (owner:="set_iterator") (n:="__iter__") (by rw[typeLookup_type,builtinLookup_eq_fast];kernel_rfl) (by decide+kernel) (by decide+kernel) (by decide+kernel) (by first|exact .inl (by decide+kernel)|exact .inr (by decide+kernel)) (by rw[isSubtype_type];kernel_rfl)
theorem mP:entryFor table "set_iterator.__iter__"=some Builtin.«dict_keyiterator.__iter__»:=entryFor_alias (id':="dict_keyiterator.__iter__") (by kernel_rfl) rfl (by decide+kernel) (by kernel_rfl)
theorem oa(a:Value):argsOk "set_iterator.__iter__" ⟨[a],[]⟩:=by unfold argsOk;rw[signature?_of (id:="set_iterator.__iter__") (n:=['_','_','r','e','t','i','_','_']) (o:=['r','o','t','a','r','e','t','i','_','t','e','s']) (by kernel_rfl) qg];kernel_rfl
section
variable {prog:Program}{w:World}{A:Around}{E:Value->Shared->Prop}{s:Shared}{d it:Addr}{es:Array (Int×Value)}{ep i:Nat}{t:SetTable}
theorem RawSet.ty(h:RawSet w s.heap d es ep t):s.TypeIs (.ref d) "set":=let⟨o,_,h1,h2⟩:=h;⟨o,h1,h2.ex.1⟩
theorem RawSet.lt {h:Heap}(x:RawSet w h d es ep t):d<h.objs.size:=let⟨_,_,h1,_⟩:=x;Heap.lt_size h1
theorem RawSet.to {h h':Heap}(x:RawSet w h d es ep t)(k: ∀o,h.get? d=some o->h'.get? d=some o):RawSet w h' d es ep t:=let⟨o,xs,h1,r⟩:=x;⟨o,xs,k o h1,r⟩
theorem IsSetIter.ty {n:Nat}(h:IsSetIter w t s.heap it d i n ep):s.TypeIs (.ref it) "set_iterator":=let⟨o,h1,h2,_⟩:=h;⟨o,h1,h2⟩
theorem kJ:entryFor table "set.__iter__"=some Builtin.«frozenset.__iter__»:=entryFor_alias (id':="frozenset.__iter__") (by kernel_rfl) rfl (by decide+kernel) (by kernel_rfl)
theorem bX {Q:Bool->Shared->Prop}(h:Q (dw w) s):wpAny (model prog w) A setsByText Q E s:=by
 unfold setsByText;exact wpAny_bind (wpAny_askSetting (wpAny_pure h))
theorem yL {Q:Value->Shared->Prop}(x:RawSet w s.heap d es ep t)(q:Q (.ref s.heap.objs.size) {s with heap:=s.heap.push {cls:=.type "set_iterator",data:=.fields #[.int (pX w t 0) 0,.int 0 0,.ref d,.int es.size 0,.int ep 0]}}):wpAny (model prog w) A (pyIter (.ref d)) Q E s:=by
 have ty:=x.ty
 obtain⟨o,xs,g1,S⟩:=x
 refine wpAny_pyIter_slot ty F.slot_set_iter (wpAny_call_entry F.slot_set_iter ty kJ ?_ (F.args_set_iter_1 _))
 unfold Builtin.«frozenset.__iter__»;unfold Builtin.Frozenset.slot0 slotArgs;simp only[List.isEmpty_nil,Bool.not_true,Bool.false_eq_true, ↓reduceIte,bind_assoc,List.length_nil,bne_self_eq_false];unfold Builtin.Frozenset.addrOf Builtin.Frozenset.sizeOf setDrawn setEntries;refine wpAny_bind (wpAny_pure ?_)
 try dsimp only
 refine wpAny_bind (wpAny_pure ?_)
 refine wpAny_bind (wpAny_bind (wpAny_bind (wpAny_setState_of g1 S.hd S.fits (wpAny_pure (wpAny_pure ?_)))))
 refine wpAny_bind (wpAny_bind (wpAny_setState_of g1 S.hd S.fits ?_))
 dsimp only;refine wpAny_bind (bX (wpAny_pure ?_))
 have e0:(!dw w&&(!t.plain&&decide (es.size>1)))=false:=by rw[S.pl];simp
 refine wpAny_ite_split (λhab=>absurd (show(!dw w&&(!t.plain&&decide (es.size>1)))=true from hab) (by rw[e0];decide)) λ_=>?_
 refine wpAny_bind (wpAny_pure (wpAny_bind (wpAny_setEpoch_of g1 S.hd S.fits ?_)))
 refine wpAny_bind (wpAny_newObj_type (wpAny_pure ⟨_,rfl,"set_iterator",_,⟨_,Heap.get?_push_size _ rfl,rfl⟩,slot_si_next.lookup,?_⟩))
 have:pX w t 0=0:=by unfold pX;split<;>rfl
 rw[this] at q;simpa [rawInt] using q
theorem rP {Q:Array (Int×Value)->Shared->Prop}{o:Obj}{xs:dS}(g1:s.heap.get? d=some o)(S:SetAt w o es ep t xs)(h:Q (fh w d ep es) s):wpAny (model prog w) A (setWalk d) Q E s:=by
 unfold setWalk;refine wpAny_bind (wpAny_setState_of g1 S.hd S.fits ?_)
 dsimp only;refine wpAny_bind (bX ?_)
 unfold fh at h
 by_cases c:dw w=true
 ·rw[if_pos c]
  rw[if_pos c] at h;exact wpAny_bind (wpAny_askSetting (wpAny_pure h))
 ·rw[if_neg c]
  rw[if_neg c] at h;have e0:(!t.plain&&decide (es.size>1))=false:=by rw[S.pl];rfl
  refine wpAny_ite_split (λhab=>absurd (show(!t.plain&&decide (es.size>1))=true from hab) (by rw[e0];decide)) λ_=>?_
  have e1:(!t.led&&decide (es.size>1))=false:=by
   have:=S.led
   unfold dw at c;rw[this,eq_false_of_ne_true c];rfl
  refine wpAny_bind ?_
  show wpAny _ _ (if(!t.led&&decide (es.size>1))=true then unsupported _ else pure PUnit.unit) _ _ _
  rw[if_neg (by rw[e1];decide)]
  exact wpAny_pure (wpAny_pure h)
theorem uK {Q:Option (Value×Nat)->Shared->Prop}{o:Obj}{xs:dS}(g1:s.heap.get? d=some o)(S:SetAt w o es ep t xs)(hi:i<=es.size)(h:Q (((fh w d ep es)[i]?).map λe=>(e.2,pX w t (i+1))) s):wpAny (model prog w) A (setNext d (pX w t i) i ep) Q E s:=by
 unfold setNext;refine wpAny_bind (wpAny_setState_of g1 S.hd S.fits ?_)
 dsimp only;refine wpAny_bind (bX ?_)
 by_cases c:dw w=true
 ·rw[if_pos c,bne_self_eq_false]
  simp only[Bool.false_eq_true,if_false];refine wpAny_bind (rP g1 S (wpAny_pure ?_))
  have e: ∀i,pX w t i=0:=λi=>by unfold pX;rw[if_pos c]
  rw[e] at h⊢;exact h
 ·rw[if_neg c]
  have e0:(!t.plain&&decide (es.size>1))=false:=by rw[S.pl];rfl
  refine wpAny_ite_split (λhab=>absurd (show(!t.plain&&decide (es.size>1))=true from hab) (by rw[e0];decide)) λ_=>?_
  have e1:(!t.led&& !es.isEmpty)=false:=by
   have:=S.led
   unfold dw at c;rw[this,eq_false_of_ne_true c];rfl
  refine wpAny_bind ?_
  show wpAny _ _ (if(!t.led&& !es.isEmpty)=true then unsupported _ else pure PUnit.unit) _ _ _
  rw[if_neg (by rw[e1];decide)]
  refine wpAny_pure ?_
  have zz:=S.T.sz
  unfold lY at zz;rw[List.length_map,<-S.size] at zz;have sl:pX w t i=if i=0 then 0 else t.place.getD (i-1) 0+1:=by unfold pX;rw[if_neg c]
  have sl':pX w t (i+1)=t.place.getD i 0+1:=by unfold pX;rw[if_neg c,if_neg (by omega)];rfl
  rw[sl,wY S.T.sp (by omega)]
  refine wpAny_pure ?_
  have ew:fh w d ep es=es:=by unfold fh;rw[if_neg c]
  rw[ew,sl'] at h
  by_cases ci:i<es.size
  ·have p1:t.place[i]? =some (t.place[i]'(by omega)):=Array.getElem?_eq_getElem (by omega)
   have p2:t.place.getD i 0=t.place[i]'(by omega):=by simp[Array.getD,show i<t.place.size by omega]
   rw[p1];rw[p2] at h;cases ee:es[i]? with
   |none=>rw[Array.getElem?_eq_getElem ci] at ee;cases ee
   |some e=>rw[ee] at h;exact h
  ·rw[Array.getElem?_eq_none (by omega)] at h⊢
   exact h
theorem yP {Q:Option Value->Shared->Prop}(hit:IsSetIter w t s.heap it d i es.size ep)(x:RawSet w s.heap d es ep t)(hi:i<es.size)
 (q: ∀h',IsSetIter w t h' it d (i+1) es.size ep->Heap.SameBut it s.heap h'->Q (some ((fh w d ep es)[i]'(by rw[g9];exact hi)).2) {s with heap:=h'}):wpAny (model prog w) A (pyNext (.ref it)) Q E s:=by
 have ty:=hit.ty
 obtain⟨o,k1,k2,k3⟩:=id hit
 obtain⟨od,xs,g1,S⟩:=id x
 unfold pyNext;refine wpAny_bind (wpAny_attempt (wpAny_callSpecial?_slot (name:=Str.ofString "__next__") ty slot_si_next (wpAny_call_entry slot_si_next ty ii ?_ (iW _))))
 unfold Builtin.«set_iterator.__next__» slotArgs;simp only[List.isEmpty_nil,Bool.not_true,Bool.false_eq_true, ↓reduceIte,bind_assoc,List.length_nil,bne_self_eq_false];refine wpAny_bind (wpAny_pure ?_)
 refine wpAny_bind (wpAny_fieldsOf k1 k3 ?_)
 dsimp only;refine wpAny_bind (wpAny_setEntries_of g1 S.hd S.fits ?_)
 rw[bne_self_eq_false];simp only[Bool.false_eq_true,if_false,Int.toNat_natCast];refine wpAny_bind (uK g1 S (Nat.le_of_lt hi) ?_)
 have lt:i<(fh w d ep es).size:=by rw[g9];exact hi
 rw[Array.getElem?_eq_getElem lt];dsimp only[Option.map_some];refine wpAny_bind (wpAny_setField k1 k3 (by simp) ?_)
 have g2:(s.heap.update it (Obj.mapFields (·.setIfInBounds 0 (rawInt (pX w t (i+1):Nat))))).get? it=some _:=Heap.get?_update_self _ k1 (Obj.isFreed_of_fields (Obj.data_mapFields k3 _))
 refine wpAny_bind (wpAny_setField (s:={s with heap:=s.heap.update it (Obj.mapFields (·.setIfInBounds 0 (rawInt (pX w t (i+1):Nat))))}) g2 (Obj.data_mapFields k3 _) (by simp) ?_)
 have e4:(Obj.mapFields (·.setIfInBounds 1 (rawInt ((i:Int)+1))) (Obj.mapFields (·.setIfInBounds 0 (rawInt (pX w t (i+1):Nat))) o)).data=.fields #[.int (pX w t (i+1)) 0,.int ((i+1:Nat):Int) 0,.ref d,.int es.size 0,.int ep 0]:=by
  rw[Obj.data_mapFields (Obj.data_mapFields k3 _)];simp[rawInt]
 have nx:IsSetIter w t ((s.heap.update it (Obj.mapFields (·.setIfInBounds 0 (rawInt (pX w t (i+1):Nat))))).update it (Obj.mapFields (·.setIfInBounds 1 (rawInt ((i:Int)+1))))) it d (i+1) es.size ep:=
  ⟨_,Heap.get?_update_self _ g2 (Obj.isFreed_of_fields e4),(Obj.cls_mapFields ..).trans ((Obj.cls_mapFields ..).trans k2),e4⟩
 exact wpAny_pure ⟨_,rfl,wpAny_pure (q _ nx ((Heap.SameBut.update ..).trans (Heap.SameBut.update ..)))⟩
theorem Aw {Q:Option Value->Shared->Prop}(calm:A.handled=none)(hit:IsSetIter w t s.heap it d es.size es.size ep)(x:RawSet w s.heap d es ep t)
 (q: ∀h',Heap.ExtBut it s.heap h'->Q none {s with heap:=h'}):wpAny (model prog w) A (pyNext (.ref it)) Q E s:=by
 have ty:=hit.ty
 obtain⟨o,k1,k2,k3⟩:=id hit
 obtain⟨od,xs,g1,S⟩:=id x
 unfold pyNext;refine wpAny_bind (wpAny_attempt (wpAny_callSpecial?_slot (name:=Str.ofString "__next__") ty slot_si_next (wpAny_call_entry slot_si_next ty ii ?_ (iW _))))
 unfold Builtin.«set_iterator.__next__» slotArgs;simp only[List.isEmpty_nil,Bool.not_true,Bool.false_eq_true, ↓reduceIte,bind_assoc,List.length_nil,bne_self_eq_false];refine wpAny_bind (wpAny_pure ?_)
 refine wpAny_bind (wpAny_fieldsOf k1 k3 ?_)
 dsimp only;refine wpAny_bind (wpAny_setEntries_of g1 S.hd S.fits ?_)
 rw[bne_self_eq_false];simp only[Bool.false_eq_true,if_false,Int.toNat_natCast];refine wpAny_bind (uK g1 S (Nat.le_refl _) ?_)
 rw[Array.getElem?_eq_none (by rw[g9];exact Nat.le_refl _)]
 dsimp only[Option.map_none];refine wpAny_bind (wpAny_setField k1 k3 (by simp) ?_)
 show wpAny _ _ (newExc (.type "StopIteration") []>>=_) _ _ _;refine wpAny_bind ?_
 simp only[newExc,newTuple];refine wpAny_bind (wpAny_newObj_type (wpAny_bind (m:=firstArgMember _ _) (wpAny_of_eq (a:=Value.none) (by first|rfl|(simp only[firstArgMember];rfl)) (wpAny_newObj_type ?_ (by size_fits)))) (by size_fits))
 simp only[raiseNew];refine wpAny_bind (wpAny_handled ?_)
 rw[show A.in1.handled=none from calm];refine wpAny_bind (wpAny_pure (wpAny_throw ?_));refine wpAny_bind (wpAny_isInstance (T:="StopIteration") (b:=true) ⟨_,Heap.get?_push_size _ rfl,rfl⟩ isSubtype_stop ?_)
 exact wpAny_pure (q _ (((Heap.SameBut.update ..).extBut.push _).push _))
theorem IsSetIter.to {h h':Heap}{n:Nat}(x:IsSetIter w t h it d i n ep)(k: ∀o,h.get? it=some o->h'.get? it=some o):IsSetIter w t h' it d i n ep:=let⟨o,h1,r⟩:=x;⟨o,k o h1,r⟩
theorem xr {n:Nat}{Q:Value->Shared->Prop}(hit:IsSetIter w t s.heap it d i n ep)(h:Q (.ref it) s):wpAny (model prog w) A (pyIter (.ref it)) Q E s:=by
 have ty:=hit.ty
 refine wpAny_pyIter_slot ty iV (wpAny_call_entry iV ty mP ?_ (oa _));show wpAny _ _ (ret (.ref it)) _ _ s
 exact wpAny_pure ⟨_,rfl,"set_iterator",_,ty,slot_si_next.lookup,h⟩
theorem wq(calm:A.handled=none)(I:Addr)(ne:d≠I):Walks prog w A I [I,d] [I] es.size (λi v=> ∃e,(fh w d ep es)[i]? =some e/\v=e.2) (λi h=>IsSetIter w t h I d i es.size ep/\RawSet w h d es ep t) where
 sub:=λb hb=>by simp at hb;simp[hb]
 frame:=λ_ _ _ st hk=>⟨st.1.to λo e=>hk I (by simp) o e,st.2.to λo e=>hk d (by simp) o e⟩
 item:=λi s Q E hi st hQ=>yP st.1 st.2 hi λh' it' sb=>hQ _ h' s.toks ⟨_,Array.getElem?_eq_getElem (by rw[g9];exact hi),rfl⟩ ⟨it',st.2.to λo e=>sb.extBut d o ne e⟩ λb o hb e=>sb.extBut b o (λh=>hb (by simp[h])) e
 done:=λs Q E st hQ=>Aw calm st.1 st.2 λh' he'=>hQ h' s.toks λb o hb e=>he' b o (λh=>hb (by simp[h])) e
 self:=λ_ _ _ _ st hQ=>xr st.1 hQ
theorem wR {r:Addr}{Q:Bool->Shared->Prop}(hT:s.TypeIs (.ref r) "set")(h:Q false s):wpAny (model prog w) A (Builtin.List.listLengthHint (.ref r)) Q E s:=by
 unfold Builtin.List.listLengthHint;refine wpAny_bind (wpAny_specialOf hT PySem.F.slot_set_len.lookup ?_)
 generalize hid:("set.__len__":String)=id0;wp_delta
 rw[show splitId id0=some ("set","__len__") from by subst hid;decide+kernel];subst hid
 refine wpAny_bind (wpAny_isInstance (T:="set") (b:=true) hT (by rw[isSubtype_type];kernel_rfl) ?_)
 refine wpAny_ite_split (λhab=>absurd hab (by decide)) (λ_=>?_)
 refine wpAny_ite_split (λ_=>?_) (λhab=>absurd (by decide+kernel) hab)
 refine wpAny_bind (wpAny_typeOf hT ?_)
 exact wpAny_pure h
theorem Au:KdlSrc prog w "set" d d es.size (λi v=> ∃e,(fh w d ep es)[i]? =some e/\v=e.2) (λh=>RawSet w h d es ep t) where
 type:=λ_ h=>h.ty
 there:=λ_ h=>⟨h.lt,h.lt⟩
 keep:=λ_ _ h hk=>h.to λo e=>hk d (.inl rfl) o e
 notList:=by decide
 notTuple:=by decide
 hint:=λ_ _ _ _ h hq=>wR h.ty hq
 iter:=λ_ _ hh h=>⟨_,_,λ_ _ hq=>yL h hq,wq hh _ (Nat.ne_of_lt h.lt),⟨_,Heap.get?_push_size _ rfl,rfl,rfl⟩,h.to λo e=>Heap.get?_push_of_some _ e⟩
end
set_option maxHeartbeats 4000000
def aF(w:World):Obj:={cls:=.type "set",dict:=none,data:=.set #[] 0 (.fresh 0 0 (!dw w))}
theorem wm(f m:Nat)(l:Bool):TOk (.fresh f m l) [] where
 pw:=⟨3,by omega,by omega,rfl⟩
 sz:=rfl
 sp:=List.Pairwise.nil
 sd:=List.Pairwise.nil
 lp:=λj h=>by cases h
 ld:=λj h=>by cases h
 dj:=λj h=>by cases h
 fl:=by show 0<=7;omega
 rc:=λx h=>by cases h
theorem lH(w:World):SetOk w (aF w) #[] 0 (.fresh 0 0 (!dw w)) []:=⟨⟨⟨rfl,rfl,rfl⟩,rfl,rfl,wm _ _ _,rfl,rfl,List.nodup_nil⟩,by show 0*5<7*3;omega⟩
section
variable {prog:Program}{w:World}{A:Around}{E:Value->Shared->Prop}{s:Shared}{a b:Addr}{o:Obj}{es:Array (Int×Value)}{ep:Nat}{t:SetTable}{xs:dS}{k:List Int}
theorem AQ {Q:Value->Shared->Prop}(h:Q (.ref s.heap.objs.size) {s with heap:=s.heap.push (aF w)}):wpAny (model prog w) A (newSet (.type "set")) Q E s:=by
 unfold newSet;refine wpAny_bind (bX ?_)
 dsimp only;simp only[newObj];exact wpAny_bind (wpAny_alloc (wpAny_pure h))
theorem rJ {as:List Value}(hc:checkBuiltinCall "set.__new__" ⟨.type "set"::as,[]⟩=pure ()){Q₁:Value->Shared->Prop}(h:Q₁ (.ref s.heap.objs.size) {s with heap:=s.heap.push (aF w)}):codeAny (model prog w) A (.call (.builtin "set.__new__") ⟨.type "set"::as,[]⟩) (wants Q₁ E) s:=by
 refine codeAny_of_tree ?_;show wpAny _ A.in1 (do checkBuiltinCall "set.__new__" ⟨.type "set"::as,[]⟩;again (.builtin "set.__new__" ⟨.type "set"::as,[]⟩)) _ _ s
 refine wpAny_bind (wpAny_of_eq hc (wpAny_pure ⟨plainId_quiet F.plain_set_new _,codeAny_builtin F.entry_set_new ?_⟩));rw[Around.under_plainId F.plain_set_new _]
 unfold Builtin.«set.__new__» Builtin.Frozenset.newClass;have hsub:=sub_set_self
 obtain⟨hp,g,d,tk,os⟩:=s
 dsimp only
 wp_walk;refine wpAny_askSetting (wpAny_pure ?_)
 dsimp only;simp only[newObj];refine wpAny_bind (wpAny_alloc (wpAny_pure ?_))
 exact wpAny_pure h
theorem tz {Q:Value->Shared->Prop}(h:Q (.ref s.heap.objs.size) {s with heap:=s.heap.push (aF w)}):wpAny (model prog w) A (call (.type "set") []) Q E s:=by
 obtain⟨c,tl,hmro⟩:=F.called_set.mro
 have hmade:=F.called_set.made
 have hsub:=F.called_set.sub
 refine wpAny_call (codeAny_of_tree ?_);show wpAny _ _ (callAny (.type "set") _) _ _ _
 refine wpAny_pure ⟨Code.quiet_builtin _ (by decide+kernel),codeAny_builtin F.entry_type_call ?_⟩;rw[Around.under_plain (weight_type_call_type "set" [] []) rfl]
 have h1:=F.called_set.notType
 have h2:=F.called_set.canCreate
 have hct:=F.typeCall_set_0
 repeat (any_goals (first|assumption|wp_step))
 refine codeAny_mono (rJ (E:=E) F.newCall_set_0 (Q₁:=λobj s₁=>obj=.ref s.heap.objs.size/\s₁={s with heap:=s.heap.push (aF w)}) ⟨rfl,rfl⟩) λr s₁ hr=>?_
 cases r with
 |error e=>exact hr
 |ok fl=>
  cases fl with
  |ret obj=>
   obtain⟨rfl,rfl⟩:=hr
   have hS:(s.heap.push (aF w)).get? s.heap.objs.size=some (aF w):=Heap.get?_push_size _ rfl
   have hS:(s.heap.push (aF w)).get? s.heap.objs.size=some {cls:=.type "set",dict:=none,data:=.set #[] 0 (.fresh 0 0 (!dw w))}:=hS
   have hT:Shared.TypeIs {s with heap:=s.heap.push (aF w)} (.ref s.heap.objs.size) "set":=⟨_,hS,rfl⟩
   have hli:=F.called_set.init.lookup
   have hbi:=F.called_set.init.bind (.ref s.heap.objs.size)
   repeat (any_goals (first|assumption|wp_step))
   refine codeAny_mono (codeAny_call_builtin (R:=wants (λr s₂=>r=.none/\Q (.ref s.heap.objs.size) s₂) E) F.called_set.init.plain F.entry_set_init (check_set_init hT ?_)) λr₂ s₂ hr₂=>?_
   ·unfold Builtin.«set.__init__» noKeywords
    wp_walk
    exact⟨rfl,h⟩
   ·cases r₂ with
    |error e=>exact hr₂
    |ok fl₂=>
     cases fl₂ with
     |ret r=>
      obtain⟨rfl,hq⟩:=hr₂
      repeat (any_goals (first|assumption|wp_step))
     |_=>exact hr₂.elim
  |_=>exact hr.elim
theorem SetAt.ty(ho:s.heap.get? a=some o)(S:SetAt w o es ep t xs):s.TypeIs (.ref a) "set":=⟨o,ho,S.ex.1⟩
theorem Al(ho:s.heap.get? a=some o)(S:SetAt w o es ep t xs)(hE:nK prog w s.heap xs)(hu:A.units+1<cLine)(hk:(KI prog w).is s.heap k b){Q:Value->Shared->Prop}
 (h:Q (.bool (decide (k∈xs.map (·.1)))) {s with toks:=s.toks+(KI prog w).draws k}):wpAny (model prog w) A (compareOp .In (.ref b) (.ref a)) Q E s:=by
 have hT:=SetAt.ty ho S
 show wpAny _ _ (do return .bool (<-contains (.ref a) (.ref b))) Q E s
 refine wpAny_bind ?_
 unfold contains
 try with_reducible refine wpAny_holding ?_
 refine wpAny_bind (wpAny_specialOf hT F.slot_set_contains.lookup ?_);show wpAny _ _ (if(some (Value.builtin "set.__contains__")==some Value.none)=true then _ else _) _ E s
 rw[if_neg (by rw[beq_builtin_none];exact Bool.false_ne_true)];refine wpAny_bind (wpAny_callSpecialUnlessNone?_slot (name:=Str.ofString "__contains__") hT F.slot_set_contains (wpAny_call_entry F.slot_set_contains hT entry_set_contains ?_ (F.args_set_contains_2 _ _)))
 unfold Builtin.«frozenset.__contains__» Builtin.Frozenset.oneOther;simp only[List.isEmpty_nil,bind_assoc];unfold Builtin.Frozenset.addrOf Builtin.Frozenset.withSetAsKey setContains;refine wpAny_bind (wpAny_pure ?_)
 try dsimp only
 refine wpAny_bind (wpAny_pure ?_)
 try dsimp only
 refine wpAny_bind (wpAny_tryCatch ?_)
 refine wpAny_holding ?_
 have hu1:(KI prog w).room A.in1:=tupleKind_room_in1 hu
 refine wpAny_bind ((KI prog w).pyHash hu1 hk ?_)
 rw[uD];refine wpAny_bind (rq (s:={s with toks:=s.toks+(KI prog w).draws k}) ho S hE hu1 hk (λi c hi=>?_) λnk=>?_)
 ·rw[decide_eq_true (List.mem_map.mpr ⟨(k,c),List.mem_of_getElem? hi,rfl⟩)] at h
  refine wpAny_pure ?_
  exact wpAny_pure ⟨_,rfl,wpAny_truthy_bool (wpAny_pure h)⟩
 ·rw[decide_eq_false nk] at h
  refine wpAny_pure ?_
  exact wpAny_pure ⟨_,rfl,wpAny_truthy_bool (wpAny_pure h)⟩
theorem xB(ho:s.heap.get? a=some o)(S:SetOk w o es ep t xs)(hE:nK prog w s.heap xs)(hu:A.units+1<cLine)(hk:(KI prog w).is s.heap k b)(hlen:xs.length<=1000){Q:Value->Shared->Prop}
 (h: ∀h' o' es' ep' t' xs',Heap.SameBut a s.heap h'->h'.get? a=some o'->SetOk w o' es' ep' t' xs'->((k∈xs.map (·.1)/\xs'=xs)\/(k∉xs.map (·.1)/\xs'.Perm (xs++[(k,b)])))->Q .none {s with heap:=h',toks:=s.toks+(KI prog w).draws k}):
 wpAny (model prog w) A (call (.builtin "set.add") [.ref a,.ref b]) Q E s:=by
 have hT:=SetAt.ty ho S.toSetAt
 have hu1:(KI prog w).room A.in1:=tupleKind_room_in1 hu
 refine wpAny_call_entry F.slot_set_add hT F.entry_set_add ?_ (F.args_set_add_2 _ _)
 unfold Builtin.«set.add» Builtin.Frozenset.oneOther;simp only[List.isEmpty_nil,bind_assoc];unfold Builtin.Frozenset.addrOf setAdd;refine wpAny_bind (wpAny_pure ?_)
 try dsimp only
 refine wpAny_bind (wpAny_pure ?_)
 try dsimp only
 refine wpAny_bind ?_
 refine wpAny_holding (wpAny_bind ((KI prog w).pyHash hu1 hk ?_))
 rw[uD];refine oo (s:={s with toks:=s.toks+(KI prog w).draws k}) ho S hE hu1 hk hlen (λhm=>?_) λnm h' o' es' ep' t' xs' g1 g2 g3 g4=>?_
 ·exact wpAny_pure ⟨_,rfl,h s.heap o es ep t xs (Heap.SameBut.refl a s.heap) ho S (.inl ⟨hm,rfl⟩)⟩
 ·exact wpAny_pure ⟨_,rfl,h h' o' es' ep' t' xs' g1 g2 g3 (.inr ⟨nm,g4⟩)⟩
theorem pA(ho:s.heap.get? a=some o)(S:SetOk w o es ep t xs)(hE:nK prog w s.heap xs)(hu:A.units+1<cLine)(hk:(KI prog w).is s.heap k b)(hlen:xs.length<=1000){Q:Value->Shared->Prop}
 (h: ∀h' o' es' ep' t' xs',Heap.SameBut a s.heap h'->h'.get? a=some o'->SetOk w o' es' ep' t' xs'->((k∉xs.map (·.1)/\xs'=xs)\/(∃i c,xs[i]? =some (k,c)/\xs'=xs.eraseIdx i))->Q .none {s with heap:=h',toks:=s.toks+(KI prog w).draws k}):
 wpAny (model prog w) A (call (.builtin "set.discard") [.ref a,.ref b]) Q E s:=by
 have hT:=SetAt.ty ho S.toSetAt
 have hu1:(KI prog w).room A.in1:=tupleKind_room_in1 hu
 refine wpAny_call_entry F.slot_set_discard hT F.entry_set_discard ?_ (F.args_set_discard_2 _ _)
 unfold Builtin.«set.discard» Builtin.Frozenset.oneOther;simp only[List.isEmpty_nil,bind_assoc];unfold Builtin.Frozenset.addrOf Builtin.Frozenset.withSetAsKey setDiscard;refine wpAny_bind (wpAny_pure ?_)
 try dsimp only
 refine wpAny_bind (wpAny_pure ?_)
 try dsimp only
 refine wpAny_bind (wpAny_tryCatch ?_)
 refine wpAny_holding (wpAny_bind ((KI prog w).pyHash hu1 hk ?_))
 rw[uD];refine kq (s:={s with toks:=s.toks+(KI prog w).draws k}) ho S hE hu1 hk hlen (λnm=>?_) λhm h' o' es' ep' t' xs' g1 g2 g3 g4=>?_
 ·exact wpAny_pure ⟨_,rfl,h s.heap o es ep t xs (Heap.SameBut.refl a s.heap) ho S (.inl ⟨nm,rfl⟩)⟩
 ·exact wpAny_pure ⟨_,rfl,h h' o' es' ep' t' xs' g1 g2 g3 (.inr g4)⟩
end
def rX(i:Nat)(ρ:ay):Option (List (List Int)):=match ρ[i]? with
 |some (.ob (.tset ks))=>some ks
 |_=>none
theorem nr {i:Nat}{ρ:ay}{ks:List (List Int)}(h:rX i ρ=some ks):ρ[i]? =some (.ob (.tset ks)):=by
 unfold rX at h;split at h
 ·cases h;assumption
 ·cases h
abbrev iz(xs:dS):List V:=xs.map λx=>V.ref x.2
abbrev tD(xs:dS):List D:=xs.map λx=>D.tup (x.1.map D.int)
section
variable {K:W.Frag}{c:Ct}{hid:aX}{ρ:ay}{σ:St}{H:Hp}{a:Addr}
theorem SR.setT(h:SR K c hid ρ σ H){i:Nat}{ks:List (List Int)}(e:rX i ρ=some ks): ∃a xs,σ[i]? =some (some (.ref a))/\hid a=true/\c.H₀ a=none/\H a=some (.tst xs)/\(xs.map (·.1)).Perm ks/\Reps K (vw H hid) (iz xs) (tD xs):=by
 obtain⟨a,h1,⟨h2,h3⟩,us,h4,h5,h6⟩:=h.sl i _ (nr e)
 exact⟨a,us,h1,h2,h3,h4,h5,h6⟩
theorem SR.putS {i:Nat}{ks ks':List (List Int)}{xs':dS}(h:SR K c hid ρ σ H)(hg:rX i ρ=some ks)(ha:σ[i]? =some (some (.ref a)))(p:(xs'.map (·.1)).Perm ks')(r:Reps K (vw H hid) (iz xs') (tD xs')):SR K c hid (ρ.set i (.ob (.tset ks'))) σ (aV H a (.tst xs')):=by
 obtain⟨a1,us,h1,h2,h3,h4,h5,h6⟩:=h.setT hg
 rw[ha] at h1;cases h1;exact h.putO (nr hg) trivial trivial ha (.inl rfl) h2 h3 nofun ⟨⟨h2,h3⟩,xs',aA,p,by rw[bS h2];exact r⟩
end
theorem items_int {prog:Program}{w:World}: ∀ {ns:List Int} {us:List Value},Vals (ns.map V.int) us->PySem.ItemsAre (intKind prog w) ns us
 | [],_,h=>by cases h;exact .nil
 |n::ns,_,h=>by
  cases h with
  |cons r rs=>
   obtain⟨t,rfl⟩:=r
   exact .cons (intKind_is _ _ _ _) (items_int rs)
section
variable {X:Cx}{aa:List (Addr×Obj)}{σ:St}{H:Hp}{s:Shared}{a b:Addr}{A:Around}{E:Value->Shared->Prop}
theorem jj {ks:List Int}(I:Inv X aa σ H s)(h:SqT X.K H b (ks.map V.int)):(KI X.prog X.w).is s.heap ks b:=by
 obtain⟨its,r,⟨o,h1,h2,n,h3⟩,_⟩:=I.tuple h
 exact⟨o,its.toArray,n,h1,h2,h3,by simpa using items_int r⟩
theorem l6 {xs:dS}(I:Inv X aa σ H s)(h: ∀x∈xs,SqT X.K H x.2 (x.1.map V.int)):nK X.prog X.w s.heap xs:=λx hx=>jj I (h x hx)
def EE:List V->Hp->VK->Prop:=λxs H Q=>xs=[]/\ ∀a,H a=none->Q (.ref a) (aV H a (.tst []))
theorem tw:bU X (.type "set") EE:=by
 intro aa s σ H xs us Q I r h;obtain⟨rfl,q⟩:=h
 cases r
 refine tz ?_
 exact⟨.ref s.heap.objs.size,_,I.laid (t':=s.toks) (λb o e=>Heap.get?_push_of_some _ e) (Nat.le_refl _) (show ObjOk X.prog X.w _ _ _ (.tst []) from⟨_,_,_,_,Heap.get?_push_size _ rfl,lH _⟩),rfl,q _ (I.hok.fresh (Nat.le_refl _))⟩
def Ev(zs:dS)(k:List Int)(b:Addr)(zs':dS):Prop:=(k∈zs.map (·.1)/\zs'=zs)\/(k∉zs.map (·.1)/\zs'.Perm (zs++[(k,b)]))
def EH(zs:dS)(k:List Int)(zs':dS):Prop:=(zs.map (·.1)).Nodup/\((k∉zs.map (·.1)/\zs'=zs)\/(∃(i:Nat) (c:Addr),zs[i]? =some (k,c)/\zs'=zs.eraseIdx i))
def EJ(K:W.Frag):V->List V->Hp->VK->Prop:=λx xs H Q=> ∃a b zs k,x=.ref a/\xs=[.ref b]/\H a=some (.tst zs)/\SqT K H b (k.map V.int)/\(∀z∈zs,SqT K H z.2 (z.1.map V.int))/\zs.length<=1000/\ ∀zs',Ev zs k b zs'->Q .non (aV H a (.tst zs'))
def Ed(K:W.Frag):V->List V->Hp->VK->Prop:=λx xs H Q=> ∃a b zs k,x=.ref a/\xs=[.ref b]/\H a=some (.tst zs)/\SqT K H b (k.map V.int)/\(∀z∈zs,SqT K H z.2 (z.1.map V.int))/\zs.length<=1000/\ ∀zs',EH zs k zs'->Q .non (aV H a (.tst zs'))
theorem uB {h':Heap}{t':Nat}{o':Obj}{es':Array (Int×Value)}{ep':Nat}{tb':SetTable}{xs zs':dS}(I:Inv X aa σ H s)(e:H a=some (.tst xs))(hs:Heap.SameBut a s.heap h')(hg:h'.get? a=some o')(S:SetOk X.w o' es' ep' tb' zs'):
 Inv X aa σ (aV H a (.tst zs')) {s with heap:=h',toks:=t'}:=I.write (x:=a) (e:=a) (by rw[e];trivial) (.inl rfl) (λb u hb hu=>(hs.2 b hb).trans hu) ⟨_,hg⟩ ⟨_,_,_,_,hg,S⟩
theorem zT(hu:X.A.units+1<cLine):E6 X "set.add" (EJ X.K):=by
 intro aa s σ H x xs v us Q I rx rv h;obtain⟨a,b,zs,k,rfl,rfl,hH,hb,hz,hl,q⟩:=h
 cases rx
 obtain⟨u,rfl,ru⟩:=rv.one
 cases ru
 obtain⟨o,es,ep,t,ho,S⟩:=(show ObjOk X.prog X.w H s.heap a (.tst zs) from I.hok a _ hH)
 refine xB ho S (l6 I hz) hu (jj I hb) hl λh' o' es' ep' t' xs' g1 g2 g3 g4=>?_
 exact⟨.non,_,uB I hH g1 g2 g3,rfl,q _ g4⟩
theorem AY(hu:X.A.units+1<cLine):E6 X "set.discard" (Ed X.K):=by
 intro aa s σ H x xs v us Q I rx rv h;obtain⟨a,b,zs,k,rfl,rfl,hH,hb,hz,hl,q⟩:=h
 cases rx
 obtain⟨u,rfl,ru⟩:=rv.one
 cases ru
 obtain⟨o,es,ep,t,ho,S⟩:=(show ObjOk X.prog X.w H s.heap a (.tst zs) from I.hok a _ hH)
 refine pA ho S (l6 I hz) hu (jj I hb) hl λh' o' es' ep' t' xs' g1 g2 g3 g4=>?_
 exact⟨.non,_,uB I hH g1 g2 g3,rfl,q _ ⟨S.nd,g4⟩⟩
end
section
variable {X:Cx}{o i:Expr}{pos:Pos}{td ty:TE}
def Gc(K:W.Frag)(ty td:TE):TE:=λσ H Q=>ty σ H λy H1=>td σ H1 λx H2=> ∃a b zs k,x=.ref a/\y=.ref b/\H2 a=some (.tst zs)/\SqT K H2 b (k.map V.int)/\(∀z∈zs,SqT K H2 z.2 (z.1.map V.int))/\Q (.bl (decide (k∈zs.map (·.1)))) H2
theorem BV(hu:X.A.units+1<cLine)(hi:PE X i ty)(ho:PE X o td):PC X .In i o (Gc X.K ty td):=by
 intro aa s σ H Q I h;refine aZ (hi aa s σ H _ I h) λiv s1 ⟨y,H1,I1,ry,q1⟩=>aZ (ho aa s1 σ H1 _ I1 q1) λu s2 hq_=>?_
 obtain⟨x,H2,I2,rx,a,b,zs,k,ex,ey,g1,g2,g3,q2⟩:=hq_
 subst ex ey;obtain rfl:u=Value.ref a:=rx
 obtain rfl:iv=Value.ref b:=ry
 obtain⟨o,es,ep,t,ho,S⟩:=(show ObjOk X.prog X.w H2 s2.heap a (.tst zs) from I2.hok a _ g1)
 refine Al ho S.toSetAt (l6 I2 g3) hu (jj I2 g2) ?_
 have q2:Q (.bl (decide (k∈List.map (λx:List Int×Addr=>x.1) zs))) H2:=q2
 generalize decide (k∈List.map (λx:List Int×Addr=>x.1) zs)=bb at q2⊢
 exact⟨.bl bb,H2,I2.tok _,rfl,q2⟩
end
abbrev Gy(K:W.Frag)(H:Hp):List V->List (List Int)->Prop:=Paired λy ks=> ∃b,y=.ref b/\SqT K H b (ks.map V.int)
theorem yi {K:W.Frag}{H:Hp}: ∀ {zs:dS},(∀z∈zs,SqT K H z.2 (z.1.map V.int))->Gy K H (iz zs) (zs.map (·.1))
 | [],_=>.nil
 |z::zs,h=>.cons ⟨z.2,rfl,h z List.mem_cons_self⟩ (yi λy hy=>h y (List.mem_cons_of_mem _ hy))
theorem u3 {K:W.Frag}{H:Hp}: ∀ {ys:List V} {kss:List (List Int)} {i:Nat},Gy K H ys kss->i<kss.length-> ∃b,ys.getD i .non=.ref b/\SqT K H b ((kss.getD i []).map V.int)
 |_,_,_,.nil,e=>by simp at e
 |_,_,0,.cons h _,e=>by obtain⟨b,h1,h2⟩:=h;exact⟨b,by simpa using h1,by simpa using h2⟩
 |_,_,i+1,.cons _ r,e=>by
  obtain⟨b,h1,h2⟩:=u3 (i:=i) r (by simpa using e)
  exact⟨b,by simpa using h1,by simpa using h2⟩
theorem lX: ∀zs:dS,Vals (iz zs) (zs.map λx=>Value.ref x.2)
 | []=>.nil
 |_::zs=>.cons rfl (lX zs)
theorem rW {α β:Type}(f:α->β){l m:List β}(p:l.Perm m): ∀zs:List α,m=zs.map f-> ∃zs':List α,zs'.Perm zs/\l=zs'.map f:=by
 induction p with
 |nil=>intro zs e;exact⟨zs,List.Perm.refl _,e⟩
 |cons x p ih=>
  intro zs e;cases zs with
  |nil=>cases e
  |cons z zs=>
   rw[List.map_cons] at e;injection e with e1 e2
   obtain⟨zs',h1,h2⟩:=ih zs e2
   exact⟨z::zs',h1.cons z,by rw[e1,h2];rfl⟩
 |swap x y l=>
  intro zs e;cases zs with
  |nil=>cases e
  |cons z zs=>
   cases zs with
   |nil=>cases e
   |cons z2 zs=>
    rw[List.map_cons,List.map_cons] at e;injection e with e1 e2
    injection e2 with e2 e3
    exact⟨z2::z::zs,List.Perm.swap z z2 zs,by rw[e1,e2,e3];rfl⟩
 |trans p1 p2 ih1 ih2=>
  intro zs e;obtain⟨zs1,h1,h2⟩:=ih2 zs e
  obtain⟨zs2,h3,h4⟩:=ih1 zs1 h2
  exact⟨zs2,h3.trans h1,h4⟩
theorem j7 {k l:List (List Int)}(h:k.Perm l):aU aY k=aU aY l:=n6 mX ((br k).trans h) (jK mX k)
section
variable {X:Cx}
open PySem.W
theorem jt(hc:X.calm=true):bU X (.builtin "sorted") (λxs H Q=> ∃a zs,xs=[.ref a]/\H a=some (.tst zs)/\(∀z∈zs,SqT X.K H z.2 (z.1.map V.int))/\zs.length<64/\(∀z∈zs,z.1≠[])/\
 ∀l (zs':dS),H l=none->(∀z∈zs',z∈zs)->zs'.map (·.1)=aU aY (zs.map (·.1))->Q (.ref l) (aV H l (.lst (iz zs')))):=by
 intro aa s σ H xs vs Q I r h;obtain⟨a,zs0,rfl,ha,hsq0,hz0,hne0,q⟩:=h
 obtain⟨u,rfl,rx⟩:=dU r
 cases rx
 obtain⟨o,es,ep,t,ho,S⟩:=(show ObjOk X.prog X.w H s.heap a (.tst zs0) from I.hok a _ ha)
 obtain⟨zs,pz,ez⟩:=rW qz (jL X.w a ep es) zs0 S.he
 have hsq: ∀z∈zs,SqT X.K H z.2 (z.1.map V.int):=λz hz=>hsq0 z (pz.mem_iff.mp hz)
 have hne: ∀k∈zs.map (·.1),k≠[]:=λk hk=>by
  obtain⟨z,hz,rfl⟩:=List.mem_map.mp hk
  exact hne0 z (pz.mem_iff.mp hz)
 have hz:zs.length<64:=by rw[pz.length_eq];exact hz0
 have ky:=yi hsq
 obtain⟨kss,hkss⟩: ∃kss,kss=zs.map (·.1):=⟨_,rfl⟩
 rw[<-hkss] at ky hne;have lk:kss.length=zs.length:=by rw[hkss,List.length_map]
 obtain⟨its,hits⟩: ∃its,its=zs.map λx=>Value.ref x.2:=⟨_,rfl⟩
 have li:its.length=kss.length:=by rw[hits,List.length_map,lk]
 have rv:Vals (iz zs) its:=by rw[hits];exact lX zs
 have sz:es.size=its.length:=by rw[S.toSetAt.size,<-pz.length_eq,li,lk]
 have raw:RawSet X.w s.heap a es ep t:=⟨o,zs0,ho,S.toSetAt⟩
 have gi: ∀i,i<kss.length-> ∃(b:Addr) (o:Obj) (ts:List Value) (n:Nat),its.getD i Value.none=.ref b/\s.heap.get? b=some o/\o.cls=.type "tuple"/\o.data=.seq ts.toArray n/\i4 ts (kss.getD i []):=λi hi=>by
  obtain⟨b,h1,h2⟩:=u3 ky hi
  have r1:=dn rv i
  rw[h1] at r1;obtain⟨ts,r',⟨o,ho,hc,n,hd⟩,_⟩:=I.tuple h2
  exact⟨b,o,ts,n,r1,ho,hc,hd,qY r'⟩
 have kt: ∀(g:Heap),(∀c o,s.heap.get? c=some o->g.get? c=some o)-> ∀(l:List Value) (ms:List (List Int)),l.length=ms.length->(∀i,i<ms.length-> ∃(b:Addr) (o:Obj) (ts:List Value) (n:Nat),l.getD i Value.none=.ref b/\s.heap.get? b=some o/\o.cls=.type "tuple"/\o.data=.seq ts.toArray n/\i4 ts (ms.getD i []))->(∀k∈ms,k≠[])->
  ∃fs,KatTups g l fs/\fs.length=l.length/\ ∀v∈fs,∃i t,v=Value.int i t:=by
  intro g kg l
  induction l with
  |nil=>intro ms _ _ _;exact⟨[],.nil,rfl,λ_ h=>nomatch h⟩
  |cons v l ih=>
   intro ms hl hg hk;cases ms with
   |nil=>cases hl
   |cons m ms=>
    obtain⟨fs,f1,f2,f3⟩:=ih ms (by simpa using hl) (λi hi=>by simpa using hg (i+1) (by simpa using hi)) λk hk'=>hk k (by simp[hk'])
    obtain⟨b,o,ts,n,g1,g2,g3,g4,g5⟩:=hg 0 (by simp)
    simp[List.getD] at g1 g5;subst g1;cases m with
    |nil=>exact absurd rfl (hk [] (by simp))
    |cons x xs=>
     cases g5 with
     |cons y1 y2=>
      obtain⟨t,rfl⟩:=y1
      refine⟨_,KatTups.cons (kg _ _ g2) g3 g4 (by simp;rfl) f1,by simp[f2],λv hv=>?_⟩
      rcases List.mem_cons.mp hv with rfl|hv
      ·exact⟨_,_,rfl⟩
      ·exact f3 v hv
 refine lB (us:=its) (G:=λix=>(∀i∈ix,i<kss.length)/\ix.map (λi=>kss.getD i [])=aU aY kss) (sz▸Au (es:=es) (ep:=ep) (t:=t)) (λi v hi hv=>?_) (I.ok.hd hc) raw (by omega) (λfew=>⟨λi hi=>?_,?_⟩) (λh2 g tk kg=>?_) (λg tk p e ix kg hp hG hg=>?_)
 ·obtain⟨e,h1,rfl⟩:=hv
  rw[<-Array.getElem?_toList,ez,List.getElem?_map] at h1;obtain⟨x,h2,rfl⟩:=Option.map_eq_some_iff.mp h1
  rw[hits,List.getElem?_map,h2];rfl
 ·rw[List.mem_range] at hi;omega
 ·rw[li,dG,cD (by omega)]
 ·obtain⟨fs,f1,f2,f3⟩:=kt g kg its kss li gi hne
  refine kat_kind (T:=.type "int") f1 (by omega) (λv hv=>?_) (by rfl) ⟨rfl,?_⟩
  ·obtain⟨i,t,rfl⟩:=f3 v hv;exact Looks.now
  ·rw[li]
   refine iZ (b:=λi j=>aY (kss.getD i []) (kss.getD j [])) (rj mX _) (by omega) (λi j C hi hj hC=>?_) λp P S=>⟨rfl,?_,?_⟩
   ·obtain⟨b1,o1,ts1,n1,x1,x2,x3,x4,x5⟩:=gi i hi
    obtain⟨b2,o2,ts2,n2,y1,y2,y3,y4,y5⟩:=gi j hj
    unfold kas_ask;rw[x1,y1];refine kat_lt (kg _ _ x2) x4 (kg _ _ y2) y4 ?_
    refine jv 0 x5 y5 ?_ hC
    have z1:=Paired.length x5
    have z2:=Paired.length y5
    simp[z1,z2]
   ·intro i hi
    have:=P.perm.mem_iff.mp (Array.mem_toList_iff.mp hi)
    simpa using this
   ·exact cZ mX P S
 ·have lt: ∀i∈ix,i<zs.length:=λi hi=>by have:=hG.1 i hi;omega
  have e1:(ix.map λi=>zs.getD i ([],0)).map (·.1)=aU aY (zs0.map (·.1)):=by
   rw[<-j7 (pz.map (·.1)),<-hkss,<-hG.2,List.map_map]
   refine List.map_congr_left λi hi=>?_
   have:=lt i hi
   rw[hkss];simp[List.getD,this]
  have e2:iz (ix.map λi=>zs.getD i ([],0))=ix.map λi=>(iz zs).getD i .non:=by
   show(ix.map λi=>zs.getD i ([],0)).map (λx=>V.ref x.2)=_
   rw[List.map_map];refine List.map_congr_left λi hi=>?_
   have:=lt i hi
   simp[iz,List.getD,this]
  have ll:ix.length=zs0.length:=by
   have:=congrArg List.length e1
   rw[List.length_map,List.length_map,(br (lt:=aY) (zs0.map (·.1))).length_eq,List.length_map] at this
   exact this
  have qq:=q p (ix.map λi=>zs.getD i ([],0)) (I.hok.fresh hp) (λz hz=>by
   obtain⟨i,hi,rfl⟩:=List.mem_map.mp hz
   have:=lt i hi
   refine pz.mem_iff.mp ?_
   simp[List.getD,this]) e1
  rw[e2] at qq;refine⟨.ref p,_,I.laid (t':=tk) kg hp (show ObjOk X.prog X.w _ g _ (.lst (ix.map λi=>(iz zs).getD i .non)) from⟨?_,_,e,fu rv ix,hg⟩),rfl,qq⟩
  rw[List.length_map,ll,sizeLine_eq];omega
end
theorem bx {K:W.Frag}{F:Hp}: ∀ {xs:dS},Reps K F (iz xs) (tD xs)-> ∀x∈xs,Rep K F (.ref x.2) (.tup (x.1.map D.int))
 | [],_,x,h=>by cases h
 |y::xs,r,x,h=>by
  cases r with
  |cons r rs=>
   rcases List.mem_cons.mp h with rfl|h
   ·exact r
   ·exact bx rs x h
theorem gz {K:W.Frag}{F:Hp}: ∀ {xs:dS},(∀x∈xs,Rep K F (.ref x.2) (.tup (x.1.map D.int)))->Reps K F (iz xs) (tD xs)
 | [],_=>.nil
 |x::xs,h=>.cons (h x List.mem_cons_self) (gz λy hy=>h y (List.mem_cons_of_mem _ hy))
theorem jy {K:W.Frag}{H:Hp}{hid:aX}{b:Addr}{ns:List Int}(h:Rep K (vw H hid) (.ref b) (.tup (ns.map D.int))):SqT K H b (ns.map V.int):=by
 obtain⟨b',z,e,_,h2,h3⟩:=(show Rep1 K H (vw H hid) (.ref b) (.tup (ns.map D.int)) from .inl h).tup
 cases e
 rw[i8 h3,List.map_map] at h2;exact h2
section
variable {X:Cx}{c:Ct}{k k1 k2:Kd}{e f ev:Expr}{es:List Expr}{fe ff fk fv:FE}{fs:FA}{pos pos' py apos cpos p:Pos}{x y:Str}{x1:_}
def Bm(i:Nat):FS:=λρ=>.nx (ρ.set i (.ob (.tset [])))
theorem Ap(i:Nat)(hn:X.N.Nodup)(hm:X.mg "set"=none)(hi:X.N[i]? =some x:=by rfl)(hx:yt X.env.scope x:=by first|exact Or.inl rfl|exact Or.inr rfl)(hs:swapsWith (.Call (.Name "set" p) [] [] cpos) (some (.Name x pos')) pos.line X.env=pure false:=by rfl)
 (hf:X.fn x=true\/X.env.scope.names.lookup x=some .local:=by first|exact .inl rfl|exact .inr rfl|assumption) (hg:Gl X "set":=by rfl) (hv:bootBuiltins "set"=some (.type "set"):=by kernel_rfl):DS X c k (.Assign [.Name x pos'] (.Call (.Name "set" p) [] [] cpos) pos) (Bm i):=λρ=>PS.imp (j5 hn hi hx (sP tw hg hm hv) hs hf) λD σ H hq_=>by
 obtain⟨hid,sr,q⟩:=hq_
 refine⟨rfl,λa ha=>?_⟩
 have sm:=aC ha (.tst [])
 have nf:=sr.fresh ha
 refine q _ _ (a7 hid a) (SR.setD (a:=a) (b:=.tset []) (sr.hide sm ha aA) ⟨⟨bC,sr.fresh0 ha⟩,[],aA,List.Perm.refl _,.nil⟩ (sr.notOw nf) i) λb o w=>?_
 obtain⟨w1,w2⟩:=vw_some.mp w
 refine vw_some.mpr ⟨?_,sm b o w2⟩
 unfold a7;rw[w1];have:b≠a:=aM w2 ha
 simp[this]
def Dy(i:Nat)(fk:FE):FT:=λρ=>(rX i ρ).bind λks=>((fk ρ).bind om).map λk=>decide (k∈ks)
theorem AX(i:Nat)(hu:X.A.units+1<cLine)(he:DP X c k1 e fe)(hN:X.N[i]? =some y:=by rfl)(hv':lR X.env.scope y:=by first|exact Or.inl rfl|exact Or.inr (Or.inl rfl)|exact Or.inr (Or.inr rfl))(hd:(y==("__debug__":Str))=false:=by decide)
 (hcd:(y==("__classdict__":Str))=false:=by decide) (hm:behindInMarks .In (.Name y py)=false:=by rfl):DT X c (.Compare e [.In] [.Name y py] pos) (Dy i fe):=λhid ρ=>
 PT.imp (tm (BV hu (he hid ρ) (pv i hN hv' hd hcd)) hm) λσ H Q hq_=>by
  obtain⟨sr,d,hd,q⟩:=hq_
  obtain⟨ks,e0,hd⟩:=Option.bind_eq_some_iff.mp hd
  obtain⟨kk,e1,rfl⟩:=Option.map_eq_some_iff.mp hd
  obtain⟨dk,e3,e4⟩:=Option.bind_eq_some_iff.mp e1
  have e5:=di e4
  subst e5;obtain⟨a,xs,a1,a2,a3,a4,a5,a6⟩:=sr.setT e0
  refine⟨sr,_,e3,λz H2 s2 r2=>⟨.ref a,a1,?_⟩⟩
  obtain⟨b,rfl,hb⟩:=my (RK.b k1 r2 λa n=>sr.fresh n)
  have hb:SqT X.K H2 b (kk.map V.int):=by unfold iK at hb;rw[List.map_map] at hb;exact hb
  refine⟨a,b,xs,kk,rfl,rfl,s2 _ _ a4,hb,λz hz=>jy ((bx a6 z hz).mono (aw s2)),_,rfl,?_⟩
  rw[show decide (kk∈xs.map (·.1))=decide (kk∈ks) from decide_eq_decide.mpr a5.mem_iff]
  exact q H2 s2
def uu(ks:List (List Int))(k:List Int):List (List Int):=if k∈ks then ks else ks++[k]
def uQ(ks:List (List Int))(k:List Int):List (List Int):=ks.filter λx=>decide (x≠k)
def zu(op:List (List Int)->List Int->List (List Int))(i:Nat)(fk:FE):GE:=λρ=>(rX i ρ).bind λks=>((fk ρ).bind om).bind λk=>if ks.length<=1000 then some (.non,ρ.set i (.ob (.tset (op ks k)))) else none
theorem xD {zs zs':dS}{ks:List (List Int)}{k:List Int}{b:Addr}(h:Ev zs k b zs')(p:(zs.map (·.1)).Perm ks):(zs'.map (·.1)).Perm (uu ks k)/\ ∀z∈zs',z∈zs\/z=(k,b):=by
 unfold uu;rcases h with⟨h1,rfl⟩|⟨h1,h2⟩
 ·rw[if_pos (p.mem_iff.mp h1)]
  exact⟨p,λz hz=>.inl hz⟩
 ·rw[if_neg λw=>h1 (p.mem_iff.mpr w)]
  refine⟨(h2.map (·.1)).trans ?_,λz hz=>?_⟩
  ·rw[List.map_append]
   exact p.append (List.Perm.refl _)
  ·rcases List.mem_append.mp (h2.mem_iff.mp hz) with q|q
   ·exact .inl q
   ·exact .inr (by simpa using q)
theorem zh {zs zs':dS}{ks:List (List Int)}{k:List Int}(h:EH zs k zs')(p:(zs.map (·.1)).Perm ks):(zs'.map (·.1)).Perm (uQ ks k)/\ ∀z∈zs',z∈zs:=by
 obtain⟨nd,h⟩:=h
 unfold uQ;have pf:=p.filter λx=>decide (x≠k)
 rcases h with⟨h1,rfl⟩|⟨i,c,h1,rfl⟩
 ·refine⟨?_,λz hz=>hz⟩
  have:(zs'.map (·.1)).filter (λx=>decide (x≠k))=zs'.map (·.1):=List.filter_eq_self.mpr λx hx=>decide_eq_true λw=>h1 (w▸hx)
  rw[this] at pf;exact pf
 ·refine⟨?_,λz hz=>List.mem_of_mem_eraseIdx hz⟩
  refine List.Perm.trans ?_ pf
  have e1:(zs.map (·.1))[i]? =some k:=by rw[List.getElem?_map,h1];rfl
  rw[<-j0]
  generalize zs.map (·.1)=l at e1 nd
  refine(List.perm_ext_iff_of_nodup (List.Nodup.sublist (List.eraseIdx_sublist _ _) nd) (List.Nodup.sublist List.filter_sublist nd)).mpr λx=>?_
  rw[List.mem_eraseIdx_iff_getElem?,List.mem_filter,decide_eq_true_eq];constructor
  ·rintro⟨j,ne,e⟩
   refine⟨List.mem_of_getElem? e,λw=>ne ?_⟩
   subst w;exact(List.getElem?_inj (List.getElem?_eq_some_iff.mp e).1 nd).mp (e.trans e1.symm)
  ·rintro⟨h,ne⟩
   obtain⟨j,hj⟩:=List.mem_iff_getElem?.mp h
   exact⟨j,λw=>by subst w;rw[e1] at hj;cases hj;exact ne rfl,hj⟩
theorem AS(i:Nat)(hu:X.A.units+1<cLine)(he:DP X c .s e fe)
 (hN:X.N[i]? =some y:=by rfl) (hv:lR X.env.scope y:=by first|exact Or.inl rfl|exact Or.inr (Or.inl rfl)|exact Or.inr (Or.inr rfl)) (hd:(y==("__debug__":Str))=false:=by decide) (hcd:(y==("__classdict__":Str))=false:=by decide)
 (hbase:attributeBase (.Name y py) "add" X.env (eval (.Name y py) X.env)=eval (.Name y py) X.env:=by rfl)
 (hfew:((backTo pos (starEach [e] X.env)).all (λx=> !x.1)&&(backToKw pos (keywordEach [] X.env)).all (λx=>x.1.isSome)&&decide ([e].length+([]:List Keyword).length+(if([]:List Keyword).isEmpty then 0 else 1)<30))=true:=by rfl)
 (hline:(apos.endLine==pos.line)=true:=by rfl) (hs:starEach [e] X.env=(false,eval e X.env)::starEach [] X.env:=by rfl) (hplain:(backTo pos (starEach [] X.env)).any (·.1)=false:=by rfl):
 DE X c .s (.Call (.Attribute (.Name y py) "add" apos) [e] [] pos) (zu uu i fe):=λhid ρ=>
 PE.imp (qX PySem.F.plainAttrs_set PySem.F.slot_set_add PySem.F.type_set_add (zT hu) (pv i hN hv hd hcd) (a8 (he hid ρ) bJ hs) hbase hfew hline hs hplain) λσ H Q hq_=>by
  obtain⟨sr,d,ρ',hd',q⟩:=hq_
  obtain⟨ks,e0,hd'⟩:=Option.bind_eq_some_iff.mp hd'
  obtain⟨kk,e1,hd'⟩:=Option.bind_eq_some_iff.mp hd'
  obtain⟨dk,e3,e4⟩:=Option.bind_eq_some_iff.mp e1
  split at hd'
  ·rename_i hz
   cases hd'
   have e5:=di e4
   subst e5;obtain⟨a,xs,a1,a2,a3,a4,a5,a6⟩:=sr.setT e0
   refine⟨.ref a,a1,.inr (.inr (.inr (.inr ⟨rfl,xs,a4⟩))),sr,_,e3,λz H2 s2 r2=>?_⟩
   have r2:Rep X.K (vw H2 hid) z (.tup (kk.map D.int)):=r2
   obtain⟨b,rfl,hb⟩:=my (.inl r2)
   have hb:=jy r2
   refine⟨a,b,xs,kk,rfl,rfl,s2 _ _ a4,hb,λz hz=>jy ((bx a6 z hz).mono (aw s2)),by have:=a5.length_eq;rw[List.length_map] at this;omega,λzs' hzs=>?_⟩
   obtain⟨g1,g2⟩:=xD hzs a5
   refine q _ _ ⟨λb' o w hb'=>?_,(sr.ext s2).putS e0 a1 g1 (gz λz hz=>?_),.non⟩
   ·rw[ax λw'=>by subst w';rw[a2] at hb';cases hb'];exact s2 _ _ w
   ·rcases g2 z hz with h|rfl
    ·exact(bx a6 z h).mono (aw s2)
    ·exact r2
  ·cases hd'
theorem Be(i:Nat)(hu:X.A.units+1<cLine)(he:DP X c .s e fe)
 (hN:X.N[i]? =some y:=by rfl) (hv:lR X.env.scope y:=by first|exact Or.inl rfl|exact Or.inr (Or.inl rfl)|exact Or.inr (Or.inr rfl)) (hd:(y==("__debug__":Str))=false:=by decide) (hcd:(y==("__classdict__":Str))=false:=by decide)
 (hbase:attributeBase (.Name y py) "discard" X.env (eval (.Name y py) X.env)=eval (.Name y py) X.env:=by rfl)
 (hfew:((backTo pos (starEach [e] X.env)).all (λx=> !x.1)&&(backToKw pos (keywordEach [] X.env)).all (λx=>x.1.isSome)&&decide ([e].length+([]:List Keyword).length+(if([]:List Keyword).isEmpty then 0 else 1)<30))=true:=by rfl)
 (hline:(apos.endLine==pos.line)=true:=by rfl) (hs:starEach [e] X.env=(false,eval e X.env)::starEach [] X.env:=by rfl) (hplain:(backTo pos (starEach [] X.env)).any (·.1)=false:=by rfl):
 DE X c .s (.Call (.Attribute (.Name y py) "discard" apos) [e] [] pos) (zu uQ i fe):=λhid ρ=>
 PE.imp (qX PySem.F.plainAttrs_set PySem.F.slot_set_discard PySem.F.type_set_discard (AY hu) (pv i hN hv hd hcd) (a8 (he hid ρ) bJ hs) hbase hfew hline hs hplain) λσ H Q hq_=>by
  obtain⟨sr,d,ρ',hd',q⟩:=hq_
  obtain⟨ks,e0,hd'⟩:=Option.bind_eq_some_iff.mp hd'
  obtain⟨kk,e1,hd'⟩:=Option.bind_eq_some_iff.mp hd'
  obtain⟨dk,e3,e4⟩:=Option.bind_eq_some_iff.mp e1
  split at hd'
  ·rename_i hz
   cases hd'
   have e5:=di e4
   subst e5;obtain⟨a,xs,a1,a2,a3,a4,a5,a6⟩:=sr.setT e0
   refine⟨.ref a,a1,.inr (.inr (.inr (.inr ⟨rfl,xs,a4⟩))),sr,_,e3,λz H2 s2 r2=>?_⟩
   have r2:Rep X.K (vw H2 hid) z (.tup (kk.map D.int)):=r2
   obtain⟨b,rfl,hb⟩:=my (.inl r2)
   have hb:=jy r2
   refine⟨a,b,xs,kk,rfl,rfl,s2 _ _ a4,hb,λz hz=>jy ((bx a6 z hz).mono (aw s2)),by have:=a5.length_eq;rw[List.length_map] at this;omega,λzs' hzs=>?_⟩
   obtain⟨g1,g2⟩:=zh hzs a5
   refine q _ _ ⟨λb' o w hb'=>?_,(sr.ext s2).putS e0 a1 g1 (gz λz hz=>?_),.non⟩
   ·rw[ax λw'=>by subst w';rw[a2] at hb';cases hb'];exact s2 _ _ w
   ·exact(bx a6 z (g2 z hz)).mono (aw s2)
  ·cases hd'
def Bq(i:Nat):FE:=λρ=>(rX i ρ).bind λks=>if ks.length<64/\ ∀k∈ks,k≠[] then some (.lst ((aU aY ks).map nR)) else none
theorem Ar(i:Nat)(hcm:X.calm=true)(hm:X.mg "sorted"=none)(hN:X.N[i]? =some y:=by rfl)(hv':lR X.env.scope y:=by first|exact Or.inl rfl|exact Or.inr (Or.inl rfl)|exact Or.inr (Or.inr rfl))(hd:(y==("__debug__":Str))=false:=by decide)
 (hcd:(y==("__classdict__":Str))=false:=by decide) (hg:Gl X "sorted":=by rfl) (hv:bootBuiltins "sorted"=some (.builtin "sorted"):=by kernel_rfl)
 (he:starEach [.Name y py] X.env=(false,eval (.Name y py) X.env)::starEach [] X.env:=by rfl) (hpl:(backTo pos (starEach [] X.env)).any (·.1)=false:=by rfl):DP X c .n (.Call (.Name "sorted" p) [.Name y py] [] pos) (Bq i):=λhid ρ=>
 PE.imp (fC (jt hcm) hg hm hv (a8 (pv i hN hv' hd hcd) bJ he) (by decide) (by decide) he hpl) λσ H Q hq_=>by
  obtain⟨sr,d,hd,q⟩:=hq_
  obtain⟨ks,e0,hd⟩:=Option.bind_eq_some_iff.mp hd
  split at hd
  ·rename_i hz
   cases hd
   obtain⟨a,xs,a1,a2,a3,a4,a5,a6⟩:=sr.setT e0
   have ll:=a5.length_eq
   rw[List.length_map] at ll;refine⟨.ref a,a1,a,xs,rfl,a4,λz hz=>jy (bx a6 z hz),by omega,λz hz'=>hz.2 _ (a5.mem_iff.mp (List.mem_map_of_mem hz')),λl zs' hl hm hk=>q _ _ (aC hl _) (c8 hl (Same.refl _) ?_)⟩
   have:(aU aY ks).map nR=tD zs':=by
    rw[<-j7 a5,<-hk,List.map_map];rfl
   rw[this];exact gz λz hz=>bx a6 z (hm z hz)
  ·cases hd
end
def Gw(a:Addr)(o:Obj)(us:List (List aS×V))(ys:List V):It:=⟨λi H=>H a=some (.frz o (.dT us))/\i<ys.length,λi H x H'=>H'=H/\ys[i]? =some x,λi H=>H a=some (.frz o (.dT us))/\i=ys.length⟩
theorem vH {P:Program}{w:World}{K:W.Frag}{tg:Expr}(a it:Addr){o:Obj}{us:List (List aS×V)}{es:Array DictEntry}{ep:Nat}{ys:List V}(hex:o.ExactDict)(hd:o.data=.dict es ep)(rv:Vals ys (es.toList.map (·.key))):
 Turn P w K tg (Gw a o us ys) [it] it (λi h=>h.IsKeyIter it a i es.size ep) where
 mem:=by simp
 obj:=λi h st b hb=>by
  have e:b=it:=by simpa using hb
  subst e;obtain⟨o,e,c,d⟩:=st
  exact⟨o,e,λv z=>by rw[d] at z;cases z⟩
 keep:=λi h h' st k=>st.at λo e=>k it (by simp) o e
 item:=by
  intro X hP hw hK hc i aa s σ H E I hf st hg;subst hP hw hK;obtain⟨hH,hlt⟩:=hg
  have hl:=rv.length
  rw[List.length_map,Array.length_toList (xs:=es)] at hl;have hi:i<es.size:=by omega
  obtain⟨ho,_⟩:=(show ObjOk X.prog X.w H s.heap a (.frz o (.dT us)) from I.hok a _ hH)
  obtain⟨f0,f1,f2,f3,f4,f5⟩:=hf it (by simp)
  obtain⟨u,hu,ru⟩:=rv.get (i:=i) (x:=ys[i]) (List.getElem?_eq_getElem hlt)
  have hu':u=es[i].key:=by
   rw[List.getElem?_map,Array.getElem?_toList,Array.getElem?_eq_getElem hi] at hu;exact(Option.some.inj hu).symm
  refine pZ st ⟨o,ho,hex,hd⟩ hi λh' st' sb=>?_
  have I1:Inv X aa σ H {s with heap:=h'}:=I.turned (t':=s.toks) (λb o hb e=>(sb.2 b hb).trans e) f0 f1 f3 f4 f5
  obtain⟨o',e,c,d⟩:=id st'
  exact⟨_,rfl,ui (s:={s with heap:=h'}) e c d (by decide) ⟨ys[i],H,I1,by rw[<-hu'];exact ru,⟨rfl,List.getElem?_eq_getElem hlt⟩,st',λb hb=>(hf b hb).1⟩⟩
 done:=by
  intro X hP hw hK hc i aa s σ H E I hf st hg;subst hP hw hK;obtain⟨hH,rfl⟩:=hg
  obtain⟨ho,_⟩:=(show ObjOk X.prog X.w H s.heap a (.frz o (.dT us)) from I.hok a _ hH)
  obtain⟨f0,f1,f2,f3,f4,f5⟩:=hf it (by simp)
  have hl:=rv.length
  rw[List.length_map,Array.length_toList (xs:=es)] at hl;rw[hl] at st;exact uY (I.ok.hd hc) st ⟨o,ho,hex,hd⟩ λh' eb=>⟨rfl,I.turned (t':=s.toks) (λb o hb e=>eb b o hb e) f0 f1 f3 f4 f5⟩
 self:=λ_ _ _ _ _ st h=>wpAny_pyIter_keyiter st h
def F8(td:TE):TI:=λσ H R=>td σ H λx H1=> ∃a o us,x=.ref a/\H1 a=some (.frz o (.dT us))/\ ∀xs,KTd H1 us xs->R (Gw a o us (xs.map λx=>V.ref x.2.1)) H1
theorem BZ {X:Cx}{tg l:Expr}{tl:TE}(hl:PE X l tl):PI X tg l (F8 tl):=by
 intro aa s σ H R I h;refine aZ (hl aa s σ H _ I h) λv s1 hq_=>?_
 obtain⟨x,H1,I1,r1,q1⟩:=hq_
 obtain⟨a,o,us,e,hq,q⟩:=q1
 subst e;cases r1
 obtain⟨g0,z,lo,xs,r,o',es,ep,g1,g2,g3,g4,g5⟩:=(show ObjOk X.prog X.w H1 s1.heap a (.frz o (.dT us)) from I1.hok a _ hq)
 rw[g0] at g1;cases g1
 have rv:Vals (xs.map λx=>V.ref x.2.1) (es.toList.map (·.key)):=by
  rw[g4,List.map_map];exact kW xs
 refine rF lo ⟨o,g0,g2,g3⟩ ?_
 refine⟨s1.heap.objs.size,[s1.heap.objs.size],_,_,H1,rfl,I1.kept (t':=s1.toks) λb o e=>Heap.get?_push_of_some _ e,vH a _ g2 g3 rv,⟨_,Heap.get?_push_size _ rfl,rfl,rfl⟩,λb hb=>?_,q xs r⟩
 have e:b=s1.heap.objs.size:=by simpa using hb
 subst e;exact I1.fpOk (Nat.le_refl _) (I1.hok.fresh (Nat.le_refl _))
section
variable {X:Cx}{c:Ct}{k k1 k2:Kd}{e f ev:Expr}{es:List Expr}{fe ff fk fv:FE}{fs:FA}{pos pos' py apos cpos p:Pos}{x y:Str}{x1:_}{tg:Expr}
def GW(K:W.Frag)(c:Ct)(hid:aX)(fk:ay->Option (List Int))(ρ:ay):TE:=λσ H Q=>SR K c hid ρ σ H/\ ∃ns,fk ρ=some ns/\ ∀b H',Same H H'->H' b=some (.tup (ns.map V.int))->Q (.ref b) H'
def DK(X:Cx)(c:Ct)(e:Expr)(fk:ay->Option (List Int)):Prop:= ∀hid ρ,PE X e (GW X.K c hid fk ρ)
def yA(fs:FA):ay->Option (List Int):=λρ=>((fs ρ).bind c5).bind λns=>if ns.length<=1000 then some ns else none
theorem pi {K:W.Frag}{F:Hp}: ∀ {xs:List V} {ns:List Int},Reps K F xs (ns.map D.int)->xs=ns.map V.int
 |_,[],h=>by cases h;rfl
 |_,n::ns,h=>by
  cases h with
  |cons r rs=>cases r;rw[pi rs];rfl
theorem oR(hk:DA X c es fs):DK X c (.Tuple es x1 p) (yA fs):=λhid ρ=>PE.imp (o6 (hk hid ρ)) λσ H Q hq_=>by
 obtain⟨sr,ns,e,q⟩:=hq_
 obtain⟨ns',e1,e⟩:=Option.bind_eq_some_iff.mp e
 obtain⟨ds,e2,e3⟩:=Option.bind_eq_some_iff.mp e1
 split at e
 ·rename_i hz
  cases e
  have e5:=cB e3
  subst e5;refine⟨sr,_,e2,λzs H2 s2 r2=>⟨?_,λt ht=>?_⟩⟩
  ·have:=r2.length
   rw[List.length_map] at this;rw[this,sizeLine_eq];omega
  ·rw[pi r2]
   exact q t _ (s2.trans (aC ht _)) aA
 ·cases e
def p7(i:Nat)(fk:ay->Option (List Int))(fv:FE):FS:=λρ=>match kH i ρ with
 |some kvs=>(match fv ρ with
  |some d=>(match fk ρ with
   |some ns=>if kvs.length<=1000 then .nx (ρ.set i (.ob (.dT (lw kvs (iK ns) d)))) else .no
   |none=>.no)
  |none=>.no)
 |none=>.no
theorem l7(i:Nat)(hu:X.A.units+1<cLine){fk:ay->Option (List Int)}(hk:DK X c e fk)(hv:DP X c .s ev fv)(hN:X.N[i]? =some y:=by rfl)(hv':lR X.env.scope y:=by first|exact Or.inl rfl|exact Or.inr (Or.inl rfl)|exact Or.inr (Or.inr rfl))(hd:(y==("__debug__":Str))=false:=by decide)
 (hcd:(y==("__classdict__":Str))=false:=by decide) (hs:swapsWith ev (some (.Subscript (.Name y py) e pos')) pos.line X.env=pure false:=by rfl):
 DS X c k (.Assign [.Subscript (.Name y py) e pos'] ev pos) (p7 i fk fv):=λρ=>PS.imp (oX hu (pv i hN hv' hd hcd) (iH λhid=>hk hid ρ) (iH λhid=>hv hid ρ) hs) λD σ H hq_=>by
 obtain⟨hid,sr,q⟩:=hq_
 unfold p7 at q;split at q
 ·rename_i kvs e0
  split at q
  ·rename_i d e1
   split at q
   ·rename_i ns e2
    split at q
    ·rename_i hz
     obtain⟨a,us,a1,a2,a3,a4,a5⟩:=sr.dictT e0
     refine⟨hid,sr,d,e1,λv H1 s1 r1=>⟨.ref a,a1,hid,sr.ext s1,ns,e2,λb H2 s2 hb=>?_⟩⟩
     have s13:=s1.trans s2
     have hb':H2 b=some (.tup ((iK ns).map kV)):=by rw[hb];unfold iK;rw[List.map_map];rfl
     refine⟨a,_,rfl,DPut.t (k:=iK ns) (s13 _ _ a4) hb' (by rw[a5.len];exact Nat.lt_of_le_of_lt hz (by decide)),?_⟩
     have r1':Rep X.K (vw H1 hid) v d:=r1
     refine q _ _ hid ((sr.ext s13).putDT e0 a1 (KRt.put (iK ns) (r1'.mono (aw s2)) ⟨a5.1,a5.2.mono (aw s13)⟩)) ?_
     rw[bS a2];exact aw s13
    ·exact q.elim
   ·exact q.elim
  ·exact q.elim
 ·exact q.elim
def ye(i:Nat)(fk:ay->Option (List Int))(fd:FE):FE:=λρ=>(kH i ρ).bind λkvs=>(fk ρ).bind λns=>(fd ρ).map λd=>(gx kvs (iK ns)).getD d
theorem q5(i:Nat)(hu:X.A.units+1<cLine){fk:ay->Option (List Int)}(he:DK X c e fk)(hf:DP X c .s f ff)(m:M2 X (.Name y py) "get" apos e f cpos)(hN:X.N[i]? =some y:=by rfl)(hv':lR X.env.scope y:=by first|exact Or.inl rfl|exact Or.inr (Or.inl rfl)|exact Or.inr (Or.inr rfl))(hd:(y==("__debug__":Str))=false:=by decide)
 (hcd:(y==("__classdict__":Str))=false:=by decide):DP X c .s (.Call (.Attribute (.Name y py) "get" apos) [e,f] [] cpos) (ye i fk ff):=λhid ρ=>
 PE.imp (yB hu (pv i hN hv' hd hcd) (he hid ρ) (hf hid ρ) m) λσ H Q hq_=>by
  obtain⟨sr,d,hd,q⟩:=hq_
  obtain⟨kvs,e0,hd⟩:=Option.bind_eq_some_iff.mp hd
  obtain⟨ns,e1,hd⟩:=Option.bind_eq_some_iff.mp hd
  obtain⟨dd,e2,rfl⟩:=Option.map_eq_some_iff.mp hd
  obtain⟨a,us,a1,a2,a3,a4,a5⟩:=sr.dictT e0
  refine⟨.ref a,a1,a,rfl,.inr ⟨us,.inl a4⟩,sr,ns,e1,λb H2 s2 hb=>⟨sr.ext s2,_,e2,λw H3 s3 r3=>?_⟩⟩
  have s23:=s2.trans s3
  have rr:KRt X.K (vw H3 hid) us kvs:=⟨a5.1,a5.2.mono (aw s23)⟩
  have hb':H3 b=some (.tup ((iK ns).map kV)):=by rw[s3 _ _ hb];unfold iK;rw[List.map_map];rfl
  refine⟨_,DGet.t (k:=iK ns) (s23 _ _ a4) hb',q _ H3 s23 ?_⟩
  rcases rr.val (iK ns) with⟨v1,v2⟩|⟨v,d,v1,v2,v3⟩
  ·rw[v1,v2];exact r3
  ·rw[v1,v2];exact v3
end
section
variable {K:W.Frag}{c:Ct}{hid:aX}{ρ:ay}{σ:St}{H:Hp}{a x:Addr}
theorem nn {b:Addr}(h:ft hid x b=true):hid b=true/\b≠x:=by
 unfold ft at h;rw[Bool.and_eq_true] at h;exact⟨h.1,by simpa using h.2⟩
theorem jn {b:Addr}(n:b≠x):ft hid x b=hid b:=by unfold ft;simp[n]
theorem nZ {u':HO}(hh:hid x=true):Same (vw H hid) (vw (aV H x u') (ft hid x)):=λb o q=>by
 obtain⟨q1,q2⟩:=vw_some.mp q
 have n:b≠x:=λe=>by subst e;rw[hh] at q1;cases q1
 exact vw_some.mpr ⟨by rw[jn n];exact q1,by rw[ax n];exact q2⟩
theorem Em {u':HO}:vw (aV H x u') (ft hid x) x=some u':=vw_some.mpr ⟨by unfold ft;simp,aA⟩
theorem SR.reveal {u':HO}(h:SR K c hid ρ σ H)(hh:hid x=true)(h0:c.H₀ x=none)(no: ∀(i:Nat) a',Ow ρ[i]? ->σ[i]? =some (some (.ref a'))-> ¬At H a' x):SR K c (ft hid x) ρ σ (aV H x u'):=by
 have sm:Same (vw H hid) (vw (aV H x u') (ft hid x)):=nZ hh
 have n0: ∀b o,c.H₀ b=some o->b≠x:=λb o q e=>by subst e;rw[h0] at q;cases q
 have ne: ∀(i:Nat) (s:Sl) (a' y:Addr),ρ[i]? =some s->Ow (some s)->σ[i]? =some (some (.ref a'))->At H a' y->y≠x:=λi s a' y e o q hy z=>by
  subst z;exact no i a' (by rw[e];exact o) q hy
 refine⟨λb hb=>?_,λb xs hb=>?_,λb hb=>?_,λb o q m=>by rw[ax (n0 b o q)];exact h.kp b o q m,λb o q=>by rw[ax (n0 b o q)];exact h.t0 b o q,h.c0,h.m0,h.len,λi s e=>?_,h.ap⟩
 ·obtain⟨h1,h2⟩:=nn hb
  rw[ax h2];exact h.tr b h1
 ·obtain⟨h1,h2⟩:=nn hb
  rw[ax h2];exact h.ht b xs h1
 ·obtain⟨o,q⟩:=h.c0 b hb
  rw[jn (n0 b o q)];exact h.h0 b hb
 ·have z:=h.sl i s e
  cases s with
  |no=>trivial
  |v d=>obtain⟨x,h1,h2⟩:=z;exact⟨x,h1,h2.mono sm⟩
  |own ds=>
   obtain⟨a',xs,h1,h2,h3,h4,h5⟩:=z
   have n:=ne i _ a' a' e trivial h1 (.inl rfl)
   exact⟨a',xs,h1,by rw[ax n];exact h2,by rw[jn n];exact h3,h4,h5.mono sm⟩
  |arg ds=>
   obtain⟨a',xs,h1,h2,h3,h4,h5⟩:=z
   have n:=ne i _ a' a' e trivial h1 (.inl rfl)
   exact⟨a',xs,h1,by rw[ax n];exact h2,by rw[jn n];exact h3,h4,h5.mono sm⟩
  |ob b=>
   obtain⟨a',h1,h2⟩:=z
   exact⟨a',h1,h2.mono (λow y hy o q=>by rw[ax (ne i _ a' y e ow h1 hy)];exact q) sm λow y hy q=>by rw[jn (ne i _ a' y e ow h1 hy)];exact q⟩
theorem SR.mark {i:Nat}{s:Sl}(h:SR K c hid ρ σ H)(hs:SlOk K c hid σ H i s)(no: ¬Ow (some s)):SR K c hid (ρ.set i s) σ H:=by
 have ow: ∀j:Nat,Ow (ρ.set i s)[j]? ->Ow ρ[j]? :=λj o=>by
  by_cases e:j=i
  ·subst e
   by_cases lt:j<ρ.length
   ·rw[List.getElem?_set_self lt] at o;exact absurd o no
   ·rw[List.getElem?_eq_none (by simpa using lt)] at o;exact o.elim
  ·rw[List.getElem?_set_ne (Ne.symm e)] at o;exact o
 refine⟨h.tr,h.ht,h.h0,h.kp,h.t0,h.c0,h.m0,by simp[h.len],λj s' e=>?_,λj l z n o1 o2=>h.ap j l z n (ow j o1) (ow l o2)⟩
 by_cases ej:j=i
 ·subst ej
  have lt:j<ρ.length:=by
   have:=(List.getElem?_eq_some_iff.mp e).1
   simpa using this
  rw[List.getElem?_set_self lt] at e;cases e
  exact hs
 ·rw[List.getElem?_set_ne (Ne.symm ej)] at e
  exact h.sl j s' e
end
section
variable {X:Cx}{c:Ct}{k:Kd}{st:Stmt}{t:FS}
theorem A0 {ρ:ay}{i:Nat}{a b:Sl}:(ρ.set i a).set i b=ρ.set i b:=by simp
end
abbrev B4:=Hp->Hp->HO->List D->Prop
structure ACm(AC:B4):Prop where
 m: ∀ {L W W' o ad},Same W W'->AC L W o ad->AC L W' o ad
 l: ∀ {L L' W o ad},Same L L'->AC L' W o ad->AC L W o ad
def AR(Y:Cx)(c:Ct)(hid:aX)(D0:Addr)(L W:Hp)(AC:B4)(A:FA)(TA:pr)(ρ1:ay):Prop:= ∀(aa:List (Addr×Obj)) (s:Shared) (σ:St) (H:Hp) (o:HO) (ad zs:List D) (Q:Shared->Prop),Inv Y aa σ H s->SR Y.K c hid ρ1 σ H->
 H D0=some o->AC L (vw H hid) o ad->ad.length+zs.length<=sizeLine->Same L H->Same W (vw H hid)->(∀i:Nat,Ow ρ1[i]? ->σ[i]? ≠some (some (.ref D0)))->A ρ1=some zs->
 (∀(s':Shared) (σ':St) (H':Hp) (o':HO),Inv Y aa σ' H' s'->SR Y.K c hid ρ1 σ' H'->H' D0=some o'->AC L (vw H' hid) o' (ad++zs)->Same L H'->Same (vw H hid) (vw H' hid)->(∀i:Nat,Ow ρ1[i]? ->σ'[i]? ≠some (some (.ref D0)))->Q s')->TA Q s
section
variable {Y:Cx}{c:Ct}{tg:Expr}{ifs:List Expr}{g:FG}{p:FT}{A:FA}{TA:pr}{code:Code}{AC:B4}
structure CLA(Y:Cx)(aa:List (Addr×Obj))(c:Ct)(hid:aX)(ρ0:ay)(L W H3:Hp)(D0:Addr)(fp:List Addr)(tn:Nat->Heap->Prop)(AC:B4)(g:FG)(p:FT)(A:FA)(ds ys ad0:List D)(n i:Nat)(o:HO)(ad:List D)(σ':St)(H':Hp)(s':Shared):Prop where
 e:n=ds.length-i
 hi:i<=ds.length
 I:Inv Y aa σ' H' s'
 st:tn i s'.heap
 fr: ∀b∈fp,H' b=none
 sr:SR Y.K c hid ρ0 σ' H'
 sm:Same L H'
 ac:H' D0=some o
 rp:AC L (vw H' hid) o ad
 w:Same W (vw H' hid)
 v:Same (vw H3 hid) (vw H' hid)
 na: ∀i:Nat,Ow ρ0[i]? ->σ'[i]? ≠some (some (.ref D0))
 go: ∃rest,ka g p A ρ0 (ds.drop i)=some rest/\ad++rest=ad0++ys
theorem vP(M:ACm AC)(hcalm:Y.calm=true)(hxe:Y.xe=λ_ _=>False){n0:Nat}(hT:dO n0 g)(hg:lv Y c tg g)(hp:mM Y c ifs p)
 {aa:List (Addr×Obj)} {σ3:St} {H3 L W:Hp} {s4:Shared} {hid:aX} {ρ0:ay} {J:It} {it D0:Addr} {fp:List Addr} {tn:Nat->Heap->Prop} {ds ys ad0:List D} {o0:HO} {R:Result->Shared->Prop}
 (hA: ∀d ρ1,g d ρ0=some ρ1->AR Y c hid D0 L W AC A TA ρ1)
 (hN:Cg n0 ρ0) (I:Inv Y aa σ3 H3 s4) (sr:SR Y.K c hid ρ0 σ3 H3) (hh:hid D0=true) (na: ∀i:Nat,Ow ρ0[i]? ->σ3[i]? ≠some (some (.ref D0))) (hacc:H3 D0=some o0) (rp0:AC L (vw H3 hid) o0 ad0) (sm:Same L H3) (wv:Same W (vw H3 hid)) (T:Turn Y.prog Y.w Y.K tg J fp it tn) (st:tn 0 s4.heap) (hF: ∀b∈fp,eW Y aa H3 b)
 (io:AJ Y.K L W J ds) (hz:ad0.length+ys.length<=sizeLine) (hc:ka g p A ρ0 ds=some ys)
 (hTP:lQ Y.prog Y.w Y.A code tg ifs (.ref it) Y.env TA R)
 (hR: ∀(s':Shared) (σ':St) (H':Hp) (o:HO),Inv Y aa σ' H' s'->SR Y.K c hid ρ0 σ' H'->Same L H'->H' D0=some o->AC L (vw H' hid) o (ad0++ys)->Same (vw H3 hid) (vw H' hid)->(∀i:Nat,Ow ρ0[i]? ->σ'[i]? ≠some (some (.ref D0)))->R (.ok .next) s'):
 codeAny (model Y.prog Y.w) Y.A code R s4:=by
 have stat: ∀ {H':Hp},(∀b∈fp,H' b=none)-> ∀b∈fp,eW Y aa H' b:=λ{H'} hn b hb=>⟨hn b hb,(hF b hb).2⟩
 refine hTP (λn s'=> ∃(i:Nat) (o:HO) (ad:List D) (σ':St) (H':Hp),CLA Y aa c hid ρ0 L W H3 D0 fp tn AC g p A ds ys ad0 n i o ad σ' H' s') ?_ ds.length s4
  ⟨0,o0,ad0,σ3,H3,by simp,Nat.zero_le _,I,st,λb hb=>(hF b hb).1,sr,sm,hacc,rp0,wv,Same.refl _,na,ys,by simpa using hc,rfl⟩
 rintro n s5 ⟨i,xs,ad,σ5,H5,rfl,hi,I5,st5,f5,sr5,sm5,ac5,rp5,w5,v5,na5,rest,hc5,hy5⟩
 have wH:Same W H5:=w5.trans (bt _ _)
 by_cases hlt:i<ds.length
 ·have hd:ds[i]? =some ds[i]:=List.getElem?_eq_getElem hlt
  have e2:ds.drop i=ds[i]::ds.drop (i+1):=List.drop_eq_getElem_cons hlt
  rw[e2] at hc5;unfold ka at hc5;obtain⟨go,yl⟩:=io.1 i ds[i] H5 hd sm5 wH
  refine aZ (T.item Y rfl rfl rfl hcalm i aa s5 σ5 H5 (λ_ _=>False) I5 (stat f5) st5 go) λr s6 hq_=>?_
  obtain⟨u,hr,h6⟩:=hq_
  subst hr;refine aZ h6 λ_ s7 hq_=>?_
  obtain⟨x,H7,I7,r7,y7,st7,f7⟩:=hq_
  obtain⟨s7',rp⟩:=yl x H7 y7
  have rx:=rp hid sr5.tr w5
  have I7':=I7.pinned (stat f7) (T.obj _ _ st7)
  obtain⟨ρ1,e3,hc5⟩:=Option.bind_eq_some_iff.mp hc5
  obtain⟨b,e4,hc5⟩:=Option.bind_eq_some_iff.mp hc5
  obtain⟨tl1,tl2⟩:=hT _ _ _ e3
  have fg: ∀ {σ':St} {H':Hp},SR Y.K c hid ρ1 σ' H'->SR Y.K c hid ρ0 σ' H':=λ{σ' H'} z=>z.forget tl1 λj s e=>by
   by_cases hj:j<n0
   ·exact .inr ((tl2 j hj).trans e)
   ·exact .inl (hN j s (by omega) e)
  have ow01: ∀j:Nat,Ow ρ0[j]? ->Ow ρ1[j]? :=λj o=>by
   by_cases hj:j<n0
   ·rw[tl2 j hj];exact o
   ·exfalso
    cases e:ρ0[j]? with
    |none=>rw[e] at o;exact o
    |some s=>have:=hN j s (by omega) e;subst this;rw[e] at o;exact o
  have keepT: ∀ {σ':St} {H':Hp} {s':Shared},Inv Y (aa++iC fp s7.heap) σ' H' s'->tn (i+1) s'.heap/\ ∀b∈fp,H' b=none:=λ{σ' H' s'} J'=>by
   refine⟨T.keep _ _ _ st7 λb hb o e=>(J'.pin (b,o) (List.mem_append_right _ (List.mem_append_right _ (bL hb e)))).1,λb hb=>?_⟩
   obtain⟨o,e,_⟩:=T.obj _ _ st7 b hb
   exact(J'.pin (b,o) (List.mem_append_right _ (List.mem_append_right _ (bL hb e)))).2.1
  refine aZ (hxe▸hg hid ρ0 ds[i] _ s7 σ5 H7 x u (λσ' H'=>H'=H7/\SR Y.K c hid ρ1 σ' H7/\OwK ρ0 ρ1 σ5 σ') I7' r7 ⟨sr5.ext s7',rx,ρ1,e3,λσ' z o=>⟨rfl,z,o⟩⟩) λ_ s8 hq_=>?_
  obtain⟨σ8,H8,I8,e8,q8,o8⟩:=hq_
  subst e8;have na1: ∀j:Nat,Ow ρ1[j]? ->σ8[j]? ≠some (some (.ref D0)):=λj o=>by
   rw[(o8 j o).2];exact na5 j (o8 j o).1
  refine aZ (hxe▸hp hid ρ1 _ s8 σ8 H8 (λb' H'=>b'=b/\Same H8 H') I8 ⟨q8,b,e4,λH' s'=>⟨rfl,s'⟩⟩) λok s9 hq_=>?_
  obtain⟨H9,I9,e9,sm9⟩:=hq_
  subst e9;have w9:Same (vw H5 hid) (vw H9 hid):=aw (s7'.trans sm9)
  cases ok with
  |false=>
   have hc5:ka g p A ρ0 (ds.drop (i+1))=some rest:=hc5
   obtain⟨k1,k2⟩:=keepT I9
   exact⟨ds.length- (i+1),by omega,i+1,xs,ad,σ8,H9,rfl,hlt,I9.unpinned,k1,k2,fg (q8.ext sm9),sm5.trans (s7'.trans sm9),sm9 _ _ (s7' _ _ ac5),M.m w9 rp5,w5.trans w9,v5.trans w9,λj o=>na1 j (ow01 j o),rest,hc5,hy5⟩
  |true=>
   have hc5:((A ρ1).bind λys=>(ka g p A ρ0 (ds.drop (i+1))).map (ys++ ·))=some rest:=hc5
   obtain⟨zs,e5,hc5⟩:=Option.bind_eq_some_iff.mp hc5
   obtain⟨rest',e6,rfl⟩:=Option.map_eq_some_iff.mp hc5
   have l2:=congrArg List.length hy5
   simp only[List.length_append] at l2;refine hA ds[i] ρ1 e3 _ s9 σ8 H9 xs ad zs _ I9 (q8.ext sm9) (sm9 _ _ (s7' _ _ ac5)) (M.m w9 rp5) (by omega) (sm5.trans (s7'.trans sm9)) (w5.trans w9) na1 e5 λs10 σ10 H10 xs' I10 q10 a10 rp10 smL v10 na10=>?_
   obtain⟨k1,k2⟩:=keepT I10
   exact⟨ds.length- (i+1),by omega,i+1,xs',ad++zs,σ10,H10,rfl,hlt,I10.unpinned,k1,k2,fg q10,smL,a10,rp10,(w5.trans w9).trans v10,(v5.trans w9).trans v10,λj o=>na10 j (ow01 j o),rest',e6,by rw[<-hy5];simp⟩
 ·have e:i=ds.length:=by omega
  subst e;rw[List.drop_eq_nil_of_le (Nat.le_refl _)] at hc5;cases hc5
  rw[List.append_nil] at hy5;subst hy5;refine aZ (T.done Y rfl rfl rfl hcalm ds.length aa s5 σ5 H5 (λ_ _=>False) I5 (stat f5) st5 (io.2 H5 sm5 wH)) λr s6 hq_=>?_
  obtain⟨hr,I6⟩:=hq_
  subst hr;exact hR s6 σ5 H5 xs I6 sr5 sm5 ac5 rp5 v5 na5
end
section
variable {X:Cx}{c:Ct}{e t1 i1:Expr}{ifs1:List Expr}{scope:Scope}{pos:Pos}{N':List Str}{m:Nat}{gi1:FA}{g1:FG}{p1:FT}{A:FA}{AC:B4}{make:Sem Value}{ob:Obj}{o0:HO}{TA:Addr->Env->pr}
theorem De(M:ACm AC)(hmk: ∀ {A:Around} {Q:Value->Shared->Prop} {E:Value->Shared->Prop} {s:Shared},Q (.ref s.heap.objs.size) {s with heap:=s.heap.push ob}->wpAny (model X.prog X.w) A make Q E s)
 (ho0: ∀ {H:Hp} (h:Heap),sysModules<h.objs.size->ObjOk X.prog X.w H (h.push ob) h.objs.size o0) (hnt: ∀xs,o0≠ .tup xs) (ac0: ∀L W,AC L W o0 [])
 (hcalm:X.calm=true) (hk:scope.kind=.function) (hs:pY scope X.env.scope=true) (hn:qr X.N N' scope=true) (hm:N'.length-X.N.length=m) (hT1:dO X.N.length g1)
 (hg1: ∀C s₀ H₀ ex,lv (ar X N' scope C s₀ H₀ ex) c t1 g1) (hp1: ∀C s₀ H₀ ex,mM (ar X N' scope C s₀ H₀ ex) c ifs1 p1)
 (hA: ∀C s₀ H₀ ex hid D0 L W ρ0 d ρ1,Cg X.N.length ρ0->g1 d ρ0=some ρ1->hid D0=true->c.H₀ D0=none->L D0=none->AR (ar X N' scope C s₀ H₀ ex) c hid D0 L W AC A (TA D0 (ar X N' scope C s₀ H₀ ex).env) ρ1)
 (hTP: ∀C s₀ H₀ ex D0 it R,lQ X.prog X.w X.A (.compLoop e 0 (.ref it) (.ref D0) (ar X N' scope C s₀ H₀ ex).env) t1 ifs1 (.ref it) (ar X N' scope C s₀ H₀ ex).env (TA D0 (ar X N' scope C s₀ H₀ ex).env) R)
 (hst: ∀ {A:Around} {it acc:Value} {env:Env} {R:Result->Shared->Prop} {s:Shared},codeAny (model X.prog X.w) A (.compLoop e 0 it acc env) R s->wpAny (model X.prog X.w) A (pyIter it) (λit' s'=>codeAny (model X.prog X.w) A (.compLoop e 0 it' acc env) R s') (notedBy (model X.prog X.w) A env λx s'=>R (.error x) s') s->codeAny (model X.prog X.w) A (.compStart e 0 it acc env) R s)
 {E:Value->Shared->Prop} {aa:List (Addr×Obj)} {σ:St} {H:Hp} {s:Shared} {hid:aX} {ρ:ay} {J:It} {it:Addr} {fp:List Addr} {tn:Nat->Heap->Prop} {ds ys:List D} {RR:Value->Addr->Result->Shared->Prop}
 (I:Inv X aa σ H s) (sr:SR X.K c hid ρ σ H) (T:Turn X.prog X.w X.K t1 J fp it tn) (st:tn 0 s.heap) (hF: ∀b∈fp,eW X aa H b) (io:AJ X.K H (vw H hid) J ds) (hz:ys.length<=sizeLine) (hc:ka g1 p1 A (ρ++List.replicate m .no) ds=some ys)
 (hR: ∀(D C:Addr) (s':Shared) (H':Hp) (o:HO),s.heap.objs.size<=D->s.heap.objs.size<=C->D≠C->H D=none->Same H H'->H' D=some o->AC H (vw H' (a7 hid D)) o ys->(∃m,s'.heap.Ns C m)->H' C=none->s'.os=s.os->AllBare s'.gens->HOk X.prog X.w H' s'.heap->Un (frs X.stack) fp H H' s.heap s'.heap->RR (.ref D) C (.ok .next) s'):
 wpAny (model X.prog X.w) X.A make (λacc s₃=>wpAny (model X.prog X.w) X.A (newFunctionEnv scope X.env.globals (oK X.env.cells scope.names []) [] X.env.qual none .none (some X.env)) (λcenv s₄=>
  codeAny (model X.prog X.w) X.A (.compStart e 0 (.ref it) acc {cenv with scope:=relabel scope X.env}) (RR acc cenv.locals) s₄) E s₃) E s:=by
 refine hmk (oP λh₁ hns₁ kp1 oc₁=>?_)
 dsimp only at hns₁ kp1 oc₁⊢
 generalize hH2:s.heap.push ob=H2 at hns₁ kp1 oc₁⊢
 have hC:H2.objs.size=s.heap.objs.size+1:=by rw[<-hH2,Heap.size_push]
 have hD:H s.heap.objs.size=none:=I.hok.fresh (Nat.le_refl _)
 have I2:Inv X aa σ (aV H s.heap.objs.size o0) {s with heap:=H2}:=by
  rw[<-hH2];exact I.laid (t':=s.toks) (λb o e=>Heap.get?_push_of_some _ e) (Nat.le_refl _) (ho0 s.heap I.big)
 have fpLt: ∀b∈fp,b<s.heap.objs.size:=λb hb=>let⟨o,e,_⟩:=T.obj 0 s.heap st b hb;Heap.lt_size e
 have hF2: ∀b∈fp,eW X aa (aV H s.heap.objs.size o0) b:=λb hb=>⟨by rw[ax (Nat.ne_of_lt (fpLt b hb))];exact(hF b hb).1,(hF b hb).2⟩
 have kp0: ∀b o,s.heap.get? b=some o->H2.get? b=some o:=λb o e=>by rw[<-hH2];exact Heap.get?_push_of_some _ e
 have IY:=lI (tk:=s.toks) (N':=N') (fp:=fp) I2 hF2 (λb hb=>let⟨o,e,_⟩:=T.obj 0 s.heap st b hb;⟨o,kp0 b o e⟩) hk hs hn hns₁ kp1 oc₁
 rw[hm] at IY;dsimp only at IY;have sr0:SR X.K c (a7 hid s.heap.objs.size) (ρ++List.replicate m .no) (σ++List.replicate m none) (aV H s.heap.objs.size o0):=(sr.hide (aC hD _) hD aA hnt).more m
 have hρ:ρ.length=X.N.length:=by rw[<-sr.len];exact I.len
 have nf:hid s.heap.objs.size=false:=sr.fresh hD
 have st1:tn 0 h₁:=T.keep _ _ _ st λb hb o e=>kp1 b o (kp0 b o e)
 have na0: ∀i:Nat,Ow (ρ++List.replicate m Sl.no)[i]? ->(σ++List.replicate m none)[i]? ≠some (some (V.ref s.heap.objs.size)):=(sr.more m).notOw nf
 have wv:Same (vw H hid) (vw (aV H s.heap.objs.size o0) (a7 hid s.heap.objs.size)):=by rw[pI hD];exact Same.refl _
 have nos:Cg X.N.length (ρ++List.replicate m Sl.no):=λi s hi e=>by
  rw[List.getElem?_append_right (by omega),List.getElem?_replicate] at e
  split at e
  ·cases e;rfl
  ·cases e
 have loop: ∀s4:Shared,s4={s with heap:=h₁,toks:=s.toks}->
  codeAny (model X.prog X.w) X.A (.compLoop e 0 (.ref it) (.ref s.heap.objs.size) (compEnvC scope (jY X.env.cells scope H2.objs.size) H2.objs.size X.env)) (RR (.ref s.heap.objs.size) H2.objs.size) s4:=by
  rintro s4 rfl
  have fpY: ∀b∈fp,eW (ar X N' scope H2.objs.size {s with heap:=H2} (aV H s.heap.objs.size o0) fp) [] (aV H s.heap.objs.size o0) b:=λb hb=>
   ⟨(hF2 b hb).1,(IY.ok.exf b hb).1,IY.ok.exfs b hb,.inl hb,(IY.ok.exf b hb).2,λq hq=>by have hq':q∈([]:List (Addr×Obj))++[]:=hq;simp at hq'⟩
  refine vP (Y:=ar X N' scope H2.objs.size {s with heap:=H2} (aV H s.heap.objs.size o0) fp) (L:=H) (hid:=a7 hid s.heap.objs.size) (W:=vw H hid) (ad0:=[]) (o0:=o0) (A:=A) (TA:=TA s.heap.objs.size (compEnvC scope (jY X.env.cells scope H2.objs.size) H2.objs.size X.env))
   M hcalm rfl hT1 (hg1 _ _ _ _) (hp1 _ _ _ _) (λd ρ1 e=>hA H2.objs.size {s with heap:=H2} (aV H s.heap.objs.size o0) fp _ _ _ _ _ d ρ1 nos e bC (sr.fresh0 hD) hD) nos IY sr0 bC na0 aA (ac0 _ _) (aC hD _) wv T st1 fpY io (by simpa using hz) hc (hTP H2.objs.size {s with heap:=H2} (aV H s.heap.objs.size o0) fp _ _ _) ?_
  intro s' σ' H' o I' _ sm' hx' rp' _ _;have un1:Un (frs X.stack) fp H (aV H s.heap.objs.size o0) s.heap H2:=Un.laid (λb o e=>kp0 b o e) (Nat.le_refl _) hD
  exact hR s.heap.objs.size H2.objs.size s' H' o (Nat.le_refl _) (by rw[hC];exact Nat.le_succ _) (by rw[hC];exact Nat.ne_of_lt (Nat.lt_succ_self _)) hD sm' hx' rp' (let⟨m,hm,_⟩:=I'.loc;⟨m,hm⟩) I'.free I'.os I'.bare I'.hok (un1.trans I'.base)
 exact hst (loop _ rfl) (T.self X.A 0 _ _ _ st1 (loop _ rfl))
def Gu(X:Cx)(c:Ct)(AC:B4)(m:Nat)(gi1:FA)(g1:FG)(p1:FT)(A:FA)(hid:aX)(ρ:ay):TE:=λσ H Q=>SR X.K c hid ρ σ H/\ ∃ds ys,gi1 ρ=some ds/\ka g1 p1 A (ρ++List.replicate m .no) ds=some ys/\ys.length<=sizeLine/\
 ∀(D:Addr) (H':Hp) (o:HO),H D=none->Same H H'->H' D=some o->AC H (vw H' (a7 hid D)) o ys->Q (.ref D) H'
theorem Di(M:ACm AC)(hmk: ∀ {A:Around} {Q:Value->Shared->Prop} {E:Value->Shared->Prop} {s:Shared},Q (.ref s.heap.objs.size) {s with heap:=s.heap.push ob}->wpAny (model X.prog X.w) A make Q E s)
 (ho0: ∀ {H:Hp} (h:Heap),sysModules<h.objs.size->ObjOk X.prog X.w H (h.push ob) h.objs.size o0) (hnt: ∀xs,o0≠ .tup xs) (ac0: ∀L W,AC L W o0 [])
 (hcalm:X.calm=true) (hk:scope.kind=.function) (hs:pY scope X.env.scope=true) (hn:qr X.N N' scope=true) (hm:N'.length-X.N.length=m) (hT1:dO X.N.length g1)
 (hg1: ∀C s₀ H₀ ex,lv (ar X N' scope C s₀ H₀ ex) c t1 g1) (hp1: ∀C s₀ H₀ ex,mM (ar X N' scope C s₀ H₀ ex) c ifs1 p1)
 (hA: ∀C s₀ H₀ ex hid D0 L W ρ0 d ρ1,Cg X.N.length ρ0->g1 d ρ0=some ρ1->hid D0=true->c.H₀ D0=none->L D0=none->AR (ar X N' scope C s₀ H₀ ex) c hid D0 L W AC A (TA D0 (ar X N' scope C s₀ H₀ ex).env) ρ1)
 (hTP: ∀C s₀ H₀ ex D0 it R,lQ X.prog X.w X.A (.compLoop e 0 (.ref it) (.ref D0) (ar X N' scope C s₀ H₀ ex).env) t1 ifs1 (.ref it) (ar X N' scope C s₀ H₀ ex).env (TA D0 (ar X N' scope C s₀ H₀ ex).env) R)
 (hst: ∀ {A:Around} {it acc:Value} {env:Env} {R:Result->Shared->Prop} {s:Shared},codeAny (model X.prog X.w) A (.compLoop e 0 it acc env) R s->wpAny (model X.prog X.w) A (pyIter it) (λit' s'=>codeAny (model X.prog X.w) A (.compLoop e 0 it' acc env) R s') (notedBy (model X.prog X.w) A env λx s'=>R (.error x) s') s->codeAny (model X.prog X.w) A (.compStart e 0 it acc env) R s)
 {gs:List Comprehension} (hcl:clausesOf e=⟨t1,i1,ifs1,0⟩::gs) (hev:eval e X.env=comprehension e scope X.env i1.pos make false (eval i1 X.env)) (hi:zo X c t1 i1 gi1) (hset: ∀x,foldedSetIterable i1 X.env x=pure x) (hid:aX) (ρ:ay):PE X e (Gu X c AC m gi1 g1 p1 A hid ρ):=by
 intro aa s σ H Q I hq;obtain⟨sr,ds,ys,e1,hc,hz,q⟩:=hq
 rw[hev];refine wpAny_comprehension_free (use:=none) hcl hset (bM λx hx=>I.ok.has x (dB hs x hx)) hk (fF hs) ?_
 refine aZ (hi hid ρ aa s σ H (λJ H'=>Same H H'/\AJ X.K H' (vw H' hid) J ds) I ⟨sr,ds,e1,λJ H' s1 io=>⟨s1,io⟩⟩) λv s1 h1=>aZ h1 λitv s2 h2=>?_
 obtain⟨it,fp,tn,J,H2,rfl,I2,T,st2,f2,sm,io⟩:=h2
 refine De (RR:=λacc C=>compPost (model X.prog X.w) X.A X.xe none (EP X aa σ Q) acc C) M hmk ho0 hnt ac0 hcalm hk hs hn hm hT1 hg1 hp1 hA hTP hst I2 (sr.ext sm) T st2 f2 io hz hc ?_
 intro D C s' H' o hDge hCge hDC hD sm' hx rp ⟨mm,hns⟩ hC' hos hbare hok hun;refine⟨mm,hns,λh' hsb=>⟨.ref D,H',?_,rfl,q D H' o (sm.free hD) (sm.trans sm') hx (M.l sm rp)⟩⟩
 have neC: ∀b o,s2.heap.get? b=some o->b≠C:=λb o e z=>by subst z;exact absurd (Heap.lt_size e) (Nat.not_lt.mpr hCge)
 have hun':Un (frs X.stack) fp H2 H' s2.heap h':=⟨λb o e n h1 h2=>(hsb.2 b (neC b o e)).trans (hun.keep b o e n h1 h2),λb o e n h1 h2=>let⟨sl,z⟩:=hun.slot b o e n h1 h2;⟨sl,(hsb.2 b (neC b o e)).trans z⟩,hun.free,λb o e h2=>let⟨o',z⟩:=hun.there b o e h2;⟨o',(hsb.2 b (neC b o e)).trans z⟩,hun.tups,hun.frzs,hun.tbls⟩
 have hok':HOk X.prog X.w H' h':=λb o e=>by
  have nb: ∀b' o',H' b'=some o'->b'≠C:=λb' o' e' z=>by subst z;rw[hC'] at e';cases e'
  refine(hok b o e).stay (λc' u hc' z=>(hsb.2 c' ?_).trans z) (λ_ z=>z) λ_ _ z=>z
  rcases hc' with z'|z'
  ·rw[z'];exact nb b o e
  ·exact nb c' _ z'
 exact I2.call' (s':={s' with heap:=h'}) (ch:=fp) hos hun' hok' hbare λb hb=>⟨(f2 b hb).2.2.2.1,(f2 b hb).2.1,(f2 b hb).2.2.2.2.1,(f2 b hb).2.2.2.2.2⟩
end
section
variable {prog:Program}{w:World}{A:Around}{R:Result->Shared->Prop}{s:Shared}{kx vx t1 t2 i1 i2:Expr}{ifs1 ifs2:List Expr}{scope:Scope}{pos:Pos}{it acc:Value}{env:Env}{D0:Addr}
def uy(prog:Program)(w:World)(A:Around)(kx vx:Expr)(D0:Addr)(env:Env):pr:=λQ s=>
 wpAny (model prog w) A (eval kx env) (λx s₄=>wpAny (model prog w) A (eval vx env) (λy s₅=>wpAny (model prog w) A (dictSet D0 x y) (λ_ s₆=>Q s₆) (λ_ _=>False) s₅) (λ_ _=>False) s₄) (λ_ _=>False) s
end
section
variable {X:Cx}{c:Ct}{kx vx elt t1 t2 i1 i2:Expr}{ifs1 ifs2:List Expr}{scope:Scope}{pos pos' spos:Pos}{N':List Str}{m n1:Nat}{gi1 gi2:FA}{g1 g2:FG}{p1 p2:FT}{f fk fv:FE}{k:Kd}{x:Str}
theorem A4 {H H':Hp}{hid:aX}{a:Addr}(sm:Same H H')(ha:H a=none):Same (vw H hid) (vw H' (a7 hid a)):=λb o w=>by
 obtain⟨w1,w2⟩:=vw_some.mp w
 refine vw_some.mpr ⟨?_,sm b o w2⟩
 unfold a7;rw[w1];have:b≠a:=aM w2 ha
 simp[this]
end
end L2
namespace PySem
open PySem PySem.Spec PyProof.Rows
end PySem
namespace L2
open PySem PySem.Spec PyProof.Rows
set_option maxHeartbeats 1000000
open PySem PyProof.Rows
set_option maxHeartbeats 2000000
set_option maxHeartbeats 1000000
open PySem PySem.W PySem.Calls PyProof.Rows
open PySem PySem.W PyProof.Rows
section
variable {prog:Program}{w:World}{A:Around}{E:Value->Shared->Prop}{s:Shared}{a b:Addr}{o:Obj}{es:Array (Int×Value)}{ep:Nat}{t:SetTable}{xs:dS}{k:List Int}
theorem xt(S:SetAt w o es ep t xs){q mask:Nat}(h3:3<=q)(h12:q<=12)(hk:mask+1=2^q)(fg mv:Nat)(hl:xs.length*5<mask*3): ∃(place order:Array Nat),SetTable.laid mask fg mv t.led t.plain (es.map (·.1))=some (⟨mask,place, #[],fg,t.led,mv,t.plain⟩,order)/\
 order.toList.Perm (List.range xs.length)/\(∀(o':Obj) (ep':Nat),o'.ExactSet->o'.data=.set (order.filterMap (es[·]?)) ep' ⟨mask,place, #[],fg,t.led,mv,t.plain⟩->
  SetOk w o' (order.filterMap (es[·]?)) ep' ⟨mask,place, #[],fg,t.led,mv,t.plain⟩ (kK xs order.toList))/\(order.filterMap (es[·]?)).size=es.size:=by
 have sz:(es.map (·.1)).size=xs.length:=by rw[Array.size_map,S.size]
 obtain⟨place,order,g1,g2,g3⟩:=uS h3 h12 hk fg mv t.led t.plain (es.map (·.1)) (by rw[sz];omega)
 rw[sz] at g2;have lt: ∀i∈order.toList,i<xs.length:=λi hi=>List.mem_range.mp (g2.mem_iff.mp hi)
 have el:(order.filterMap (es[·]?)).toList=(kK xs order.toList).map qz:=by
  rw[Array.toList_filterMap];unfold kK;rw[List.map_map];have key: ∀l:List Nat,(∀i∈l,i<xs.length)->l.filterMap (λi=>es[i]?)=l.map (qz∘λi=>xs.getD i ([],0)):=by
   intro l
   induction l with
   |nil=>intro _;rfl
   |cons i l ih=>
    intro hl;have h1:=hl i List.mem_cons_self
    have e1:es[i]? =some (qz (xs.getD i ([],0))):=by
     rw[S.at_,List.getElem?_eq_getElem h1];simp[List.getD,h1]
    rw[List.filterMap_cons,e1,List.map_cons,ih λj hj=>hl j (List.mem_cons_of_mem _ hj)]
    rfl
  exact key _ lt
 have et:lY (kK xs order.toList)=order.toList.map λk=>(es.map (·.1)).toList.getD k 0:=by
  unfold lY kK;rw[List.map_map];refine List.map_congr_left λi hi=>?_
  have:=lt i hi
  rw[ny S];show th (xs.getD i ([],0)).1=(lY xs).getD i 0;unfold lY;simp[List.getD,this]
 have pp:=hB g2
 refine⟨place,order,g1,g2,λo' ep' hex hd=>?_,?_⟩
 ·refine⟨⟨hex,hd,el,by rw[et];exact g3,S.led,S.pl,?_⟩,?_⟩
  ·exact((pp.map (·.1)).nodup_iff).mpr S.nd
  ·have z:=g3.sz
   rw[List.length_map,g2.length_eq,List.length_range] at z;show(place.size+0)*5<mask*3;have z:place.size=xs.length:=z
   rw[z];omega
 ·rw[<-Array.length_toList,el,List.length_map,pp.length_eq,S.size]
theorem zJ(ho:s.heap.get? a=some o)(S:SetOk w o es ep t [])(hd0:t.fill=0){n:Nat}(hn:n<=1000){Q:Unit->Shared->Prop}
 (h: ∀h' o' es' ep' t',Heap.SameBut a s.heap h'->h'.get? a=some o'->SetOk w o' es' ep' t' []->t'.fill=0->n*5<t'.mask*3->Q () {s with heap:=h'}):wpAny (model prog w) A (setRoomFor a n) Q E s:=by
 unfold setRoomFor;have S':=S.toSetAt
 refine wpAny_bind (wpAny_setState_of ho S.hd S'.fits ?_)
 dsimp only;have p0:t.place.size=0:=by have:=S'.T.sz;simpa [lY] using this
 unfold SetTable.roomFor;rw[hd0,p0,Nat.zero_add]
 by_cases c:n*5≥t.mask*3
 ·rw[if_pos c]
  dsimp only;have hw:n*2<=4095:=by omega
  have mk:7<=t.mask:=by
   obtain⟨q,q3,_,qe⟩:=S.T.pw
   have p3:2^3<=2^q:=Nat.pow_le_pow_right (by omega) q3
   omega
  obtain⟨place,order,mv,g1,g2,g3,g4⟩:=nH S' hw (by show 0*5<_;omega)
  obtain⟨q,h3,h12,e,hlt⟩:=fR hw
  have e0:setRelay a (n*2)=(do
   let(es,_,t) <-setState a
   if SetTable.sizeAbove (n*2)>sizeLine then unsupported "set:memory"
   let(es,t) <-(do
    let some (t,order):=t.relaid (es.map (·.1)) (n*2)|unsupported "internal:set-table-without-room"
    let es':=order.filterMap (es[·]?)
    if es'.size !=es.size then unsupported "internal:set-table-lost-an-element"
    pure (es',t):Sem (Array (Int×Value)×SetTable))
   storeSet a es t):=rfl
  rw[e0];refine wpAny_bind (wpAny_setState_of ho S.hd S'.fits ?_)
  dsimp only;have p12:2^q<=2^12:=Nat.pow_le_pow_right (by omega) h12
  have t12:(2:Nat)^12=4096:=by decide
  rw[if_neg (by rw[e,sizeLine_eq];omega),g1]
  dsimp only;rw[g4,bne_self_eq_false];simp only[Bool.false_eq_true,if_false];refine wpAny_bind (wpAny_pure ?_)
  dsimp only;have sl:(order.filterMap (es[·]?)).size<=sizeLine:=by
   rw[g4,S'.size,sizeLine_eq];simp
  refine wpAny_storeSet_of ho S.hd ?_ sl
  have hg:=Heap.get?_update_self (Obj.putSet (order.filterMap (es[·]?)) ⟨SetTable.sizeAbove (n*2) -1,place, #[],t.finger,t.led,mv,t.plain⟩) ho (by rw[putSet_of _ _ S.hd];rfl)
  rw[putSet_of _ _ S.hd] at hg;have ord:order.toList=[]:=by
   have:=g2.length_eq
   simp at this;simpa using this
  have pn:kK ([]:dS) order.toList=[]:=by rw[ord];rfl
  have key: ∀(o':Obj) (ep':Nat),o'.ExactSet->o'.data=.set (order.filterMap (es[·]?)) ep' ⟨SetTable.sizeAbove (n*2) -1,place, #[],t.finger,t.led,mv,t.plain⟩->SetOk w o' (order.filterMap (es[·]?)) ep' ⟨SetTable.sizeAbove (n*2) -1,place, #[],t.finger,t.led,mv,t.plain⟩ []:=λo' ep' h1 h2=>by
   have:=g3 o' ep' h1 h2
   rw[pn] at this;exact this
  have G:=key {cls:=.type "set",dict:=none,data:=.set (order.filterMap (es[·]?)) 0 ⟨SetTable.sizeAbove (n*2) -1,place, #[],t.finger,t.led,mv,t.plain⟩} 0 ⟨rfl,rfl,rfl⟩ rfl
  refine h _ _ _ _ _ (Heap.SameBut.update s.heap a _) hg (key _ _ S.ex rfl) ?_ ?_
  ·have:=G.T.sz
   have z:place.size=0:=by simpa [lY] using this
   show place.size+0=0;omega
  ·show n*5<(SetTable.sizeAbove (n*2) -1)*3
   omega
 ·rw[if_neg c]
  dsimp only;exact wpAny_pure (h s.heap o es ep t (Heap.SameBut.refl a s.heap) ho S hd0 (by omega))
theorem qI(s o:Addr)(each:Sem Unit):setMerge s o each=(do
 if s==o then return
 let(eo,epoch,to) <-setState o
 if eo.isEmpty then return
 setRoomFor s eo.size
 let(_,_,ts) <-setState s
 match ts.road to with
 | .slotForSlot=>storeSet s eo {to with finger:=ts.finger,led:=ts.led&&to.led,moves:=ts.moves,plain:=ts.plain&&to.plain}
 | .clean=>
   let(es,t) <-(do
    let some (t,order):=(SetTable.laid ts.mask ts.finger ts.moves (led:=ts.led&&to.led) (plain:=ts.plain&&to.plain) (eo.map (·.1)))|unsupported "internal:set-table-without-room"
    let es':=order.filterMap (eo[·]?)
    if es'.size !=eo.size then unsupported "internal:set-table-lost-an-element"
    pure (es',t):Sem (Array (Int×Value)×SetTable))
   storeSet s es t
 | .oneByOne=>
   for (h,x) in<-setWalkUnseen o [s] (some s) do
    let _ <-holding [x] (setAddHashed s x h)
    each
    if(<-setState o).2.1 !=epoch then unsupported "set.changed-during-merge"):=rfl
theorem xW {l:Addr}{ol:Obj}{esl:Array (Int×Value)}{epl:Nat}{tl:SetTable}(ne:a≠l)(ho:s.heap.get? a=some o)(S:SetOk w o es ep t [])(hd0:t.fill=0)(hl:s.heap.get? l=some ol)(Sl:SetOk w ol esl epl tl xs)(hn:xs.length<=1000){each:Sem Unit}{Q:Unit->Shared->Prop}
 (h: ∀h' o' es' ep' t' xs',Heap.SameBut a s.heap h'->h'.get? a=some o'->SetOk w o' es' ep' t' xs'->xs'.Perm xs->Q () {s with heap:=h'}):wpAny (model prog w) A (setMerge a l each) Q E s:=by
 rw[qI,if_neg (by simpa using ne)]
 have Sl':=Sl.toSetAt
 refine wpAny_bind (wpAny_setState_of hl Sl.hd Sl'.fits ?_)
 dsimp only
 by_cases e1:esl.isEmpty=true
 ·rw[if_pos e1]
  have:xs=[]:=by
   have:=Sl'.size
   rw[Array.isEmpty_iff] at e1;rw[e1] at this;exact List.length_eq_zero_iff.mp this.symm
  subst this;exact wpAny_pure (h s.heap o es ep t [] (Heap.SameBut.refl a s.heap) ho S (.refl _))
 ·rw[if_neg e1]
  refine wpAny_bind (zJ ho S hd0 (by rw[Sl'.size];exact hn) λh1 o1 es1 ep1 t1 b1 g1 S1 f1 r1=>?_)
  have S1':=S1.toSetAt
  have hl1:h1.get? l=some ol:=(b1.2 l (Ne.symm ne)).trans hl
  refine wpAny_bind (wpAny_setState_of g1 S1.hd S1'.fits ?_)
  dsimp only;rw[Sl'.size] at r1;have ld:(t1.led&&tl.led)=tl.led:=by rw[S1.led,Sl.led,Bool.and_self]
  have pl:(t1.plain&&tl.plain)=tl.plain:=by rw[S1.pl,Sl.pl,Bool.and_self]
  have z:esl.size<=sizeLine:=by rw[Sl'.size,sizeLine_eq];omega
  unfold SetTable.road;rw[if_neg (by rw[f1];decide)]
  by_cases c:(t1.mask==tl.mask&&tl.dummies.isEmpty)=true
  ·rw[if_pos c]
   dsimp only;refine wpAny_storeSet_of g1 S1.hd ?_ z
   have hg:=Heap.get?_update_self (Obj.putSet esl {tl with finger:=t1.finger,led:=t1.led&&tl.led,moves:=t1.moves,plain:=t1.plain&&tl.plain}) g1 (by rw[putSet_of _ _ S1.hd];rfl)
   rw[putSet_of _ _ S1.hd] at hg;have T:=Sl.T
   exact h _ _ _ _ _ xs (b1.trans (Heap.SameBut.update h1 a _)) hg ⟨⟨S1.ex,rfl,Sl.he,⟨T.pw,T.sz,T.sp,T.sd,T.lp,T.ld,T.dj,T.fl,T.rc⟩,ld.trans Sl.led,pl.trans Sl.pl,Sl.nd⟩,Sl.f5⟩ (.refl _)
  ·rw[if_neg c]
   dsimp only;obtain⟨q,q3,q12,qe⟩:=S1.T.pw
   obtain⟨place,order,k1,k2,k3,k4⟩:=xt Sl' q3 q12 qe t1.finger t1.moves r1
   rw[ld,pl,k1];dsimp only;rw[k4,bne_self_eq_false];simp only[Bool.false_eq_true,if_false];refine wpAny_bind (wpAny_pure ?_)
   dsimp only;refine wpAny_storeSet_of g1 S1.hd ?_ (by rw[k4];exact z)
   have hg:=Heap.get?_update_self (Obj.putSet (order.filterMap (esl[·]?)) ⟨t1.mask,place, #[],t1.finger,tl.led,t1.moves,tl.plain⟩) g1 (by rw[putSet_of _ _ S1.hd];rfl)
   rw[putSet_of _ _ S1.hd] at hg;exact h _ _ _ _ _ _ (b1.trans (Heap.SameBut.update h1 a _)) hg (k3 _ _ S1.ex rfl) (hB k2)
end
open PySem PySem.W PyProof.Rows PySem.Builtin
section
variable {prog:Program}{w:World}{A:Around}{E:Value->Shared->Prop}{s:Shared}{a b:Addr}{o:Obj}{es:Array (Int×Value)}{ep:Nat}{t:SetTable}{xs:dS}{k:List Int}
theorem gA {h h':Heap}(x:(KI prog w).is h k b)(e: ∀o,h.get? b=some o->h'.get? b=some o):(KI prog w).is h' k b:=by
 obtain⟨o,items,n,ho,r⟩:=x
 exact⟨o,items,n,e o ho,r⟩
theorem l0 {h:Heap}(x:(KI prog w).is h k b)(ho:h.get? a=some o)(hc:o.cls=.type "set"):b≠a:=λe=>by
 obtain⟨o',items,n,h1,h2,_⟩:=x
 subst e;rw[ho] at h1;cases h1
 rw[hc] at h2;exact absurd h2 (by decide)
theorem Bc {h h':Heap}(x:nK prog w h xs)(ho:h.get? a=some o)(hc:o.cls=.type "set")(hs:Heap.SameBut a h h'):nK prog w h' xs:=λz hz=>gA (x z hz) λo' e=>(hs.2 _ (l0 (x z hz) ho hc)).trans e
theorem kZ {T:Value}(hT:s.TypeIs T "set"){Q:Bool->Shared->Prop}(h:Q true s):wpAny (model prog w) A (Frozenset.isAnySet T) Q E s:=by
 unfold Frozenset.isAnySet;refine wpAny_bind (wpAny_isInstance hT sub_set_self ?_)
 exact wpAny_pure h
theorem Bz {α:Type}{l:List α}(h:l.Nodup){i j:Nat}(hi:i<l.length)(hj:j<l.length)(e:l[i]=l[j]):i=j:=by
 rcases Nat.lt_trichotomy i j with q|q|q
 ·exact absurd e (List.pairwise_iff_getElem.mp h i j hi hj q)
 ·exact q
 ·exact absurd e.symm (List.pairwise_iff_getElem.mp h j i hj hi q)
structure Tog(K0 P:List (List Int))(zs:dS):Prop where
 nd:(zs.map (·.1)).Nodup
 mem: ∀k,k∈zs.map (·.1)↔(k∈K0/\k∉P)\/(k∈P/\k∉K0)
theorem Tog.out {K0 P:List (List Int)}{zs:dS}(T:Tog K0 P zs){k:List Int}(hk:k∉P){i:Nat}{c:Addr}(hi:zs[i]? =some (k,c)):Tog K0 (P++[k]) (zs.eraseIdx i):=by
 have hkm:k∈zs.map (·.1):=List.mem_map.mpr ⟨_,List.mem_of_getElem? hi,rfl⟩
 have hk0:k∈K0:=by
  rcases(T.mem k).mp hkm with h|h
  ·exact h.1
  ·exact absurd h.1 hk
 have em:(zs.eraseIdx i).map (·.1)=(zs.map (·.1)).eraseIdx i:=(j0 _ _ _).symm
 have hi':(zs.map (·.1))[i]? =some k:=by rw[List.getElem?_map,hi];rfl
 have hlt:i<(zs.map (·.1)).length:=by
  rcases Nat.lt_or_ge i (zs.map (·.1)).length with h|h
  ·exact h
  ·rw[List.getElem?_eq_none h] at hi';cases hi'
 refine⟨by rw[em];exact List.Nodup.sublist (List.eraseIdx_sublist _ _) T.nd,λk'=>?_⟩
 rw[em];have er: ∀k',k'∈(zs.map (·.1)).eraseIdx i↔k'∈zs.map (·.1)/\k'≠k:=λk'=>by
  rw[List.mem_eraseIdx_iff_getElem];have gi:(zs.map (·.1))[i]=k:=by rw[List.getElem?_eq_getElem hlt] at hi';exact Option.some.inj hi'
  constructor
  ·rintro⟨j,hj,hne,rfl⟩
   refine⟨List.getElem_mem _,λe=>hne ?_⟩
   exact Bz T.nd hj hlt (e.trans gi.symm)
  ·rintro⟨h1,h2⟩
   obtain⟨j,hj,rfl⟩:=List.getElem_of_mem h1
   exact⟨j,hj,λe=>h2 (by subst e;exact gi),rfl⟩
 rw[er,T.mem,List.mem_append,List.mem_singleton]
 by_cases e:k'=k
 ·subst e;simp[hk0,hk]
 ·simp[e]
theorem Tog.inn {K0 P:List (List Int)}{zs zs':dS}(T:Tog K0 P zs){k:List Int}{c:Addr}(hk:k∉P)(hn:k∉zs.map (·.1))(p:zs'.Perm (zs++[(k,c)])):Tog K0 (P++[k]) zs':=by
 have pm:(zs'.map (·.1)).Perm (zs.map (·.1)++[k]):=by have:=p.map (·.1);rwa [List.map_append] at this
 have hk0:k∉K0:=λh=>hn ((T.mem k).mpr (.inl ⟨h,hk⟩))
 refine⟨pm.nodup_iff.mpr ?_,λk'=>?_⟩
 ·rw[List.nodup_append]
  exact⟨T.nd,by simp,λx hx y hy=>by
   rw[List.mem_singleton] at hy;subst hy;exact λe=>hn (e▸hx)⟩
 ·rw[pm.mem_iff,List.mem_append,List.mem_singleton,T.mem,List.mem_append,List.mem_singleton]
  by_cases e:k'=k
  ·subst e;simp[hk0,hk]
  ·simp[e]
theorem A9(id:String){l:Addr}{ol:Obj}{esl:Array (Int×Value)}{epl:Nat}{tl:SetTable}{ys:dS}(ne:a≠l)(ho:s.heap.get? a=some o)(S:SetOk w o es ep t xs)(hE:nK prog w s.heap xs)(hl:s.heap.get? l=some ol)(Sl:SetOk w ol esl epl tl ys)(hEl:nK prog w s.heap ys)
 (hu:A.units<cLine) (hn:xs.length+ys.length<=1000) {Q:Unit->Shared->Prop}
 (h: ∀h' o' es' ep' t' zs,Heap.SameBut a s.heap h'->h'.get? a=some o'->SetOk w o' es' ep' t' zs->Tog (xs.map (·.1)) (ys.map (·.1)) zs->(∀z∈zs,z∈xs\/z∈ys)->Q () {s with heap:=h'}):wpAny (model prog w) A (Frozenset.symmetricDifferenceUpdate id a (.ref l)) Q E s:=by
 have Sl':=Sl.toSetAt
 have hTl:=SetAt.ty hl Sl'
 unfold Frozenset.symmetricDifferenceUpdate;rw[if_neg (by simpa using Ne.symm ne)]
 dsimp only;refine wpAny_bind (wpAny_typeOf hTl ?_)
 rw[if_neg (by decide)]
 refine wpAny_bind (kZ hTl ?_)
 rw[if_pos rfl];refine wpAny_bind (wpAny_pure ?_)
 unfold Frozenset.addrOf;refine wpAny_bind (wpAny_pure ?_)
 refine wpAny_bind (wpAny_setEpoch_of hl Sl.hd Sl'.fits ?_)
 refine wpAny_holding ?_
 refine wpAny_bind ?_
 unfold setWalkUnseen;refine wpAny_bind (wpAny_setState_of hl Sl.hd Sl'.fits ?_)
 dsimp only;refine wpAny_bind (bX ?_)
 rw[if_pos (by rw[Sl.led,Sl.pl];show(dw w||_||_)=true;unfold dw;cases w.params.followText "set-order"<;>rfl)]
 refine rP hl Sl' ?_
 have wp:=jL w l epl esl
 rw[Sl.he] at wp;obtain⟨us,pu,eu⟩: ∃us:dS,us.Perm ys/\(fh w l epl esl).toList=us.map qz:=by
  have key: ∀(m:List (Int×Value)) (zs:dS),m.Perm (zs.map qz)-> ∃us:dS,us.Perm zs/\m=us.map qz:=λm zs hp=>by
   generalize hq:zs.map qz=q at hp
   induction hp generalizing zs with
   |nil=>cases zs with
    |nil=>exact⟨[],.refl _,rfl⟩
    |cons z zs=>cases hq
   |cons x _ ih=>
    cases zs with
    |nil=>cases hq
    |cons z zs=>
     rw[List.map_cons] at hq;obtain⟨h1,h2⟩:=List.cons.inj hq
     obtain⟨us,u1,u2⟩:=ih zs h2
     exact⟨z::us,u1.cons z,by rw[List.map_cons,h1,u2]⟩
   |swap x y l=>
    cases zs with
    |nil=>cases hq
    |cons z zs=>cases zs with
     |nil=>cases hq
     |cons z2 zs=>
      rw[List.map_cons,List.map_cons] at hq;obtain⟨h1,h2⟩:=List.cons.inj hq
      obtain⟨h3,h4⟩:=List.cons.inj h2
      exact⟨z2::z::zs,.swap z z2 zs,by rw[List.map_cons,List.map_cons,h1,h3,h4]⟩
   |trans _ _ ih1 ih2=>
    obtain⟨us,u1,u2⟩:=ih2 zs hq
    obtain⟨vs,v1,v2⟩:=ih1 us u2.symm
    exact⟨vs,v1.trans u1,v2⟩
  exact key _ _ wp
 have ndu:(us.map (·.1)).Nodup:=(pu.map (·.1)).nodup_iff.mpr Sl.nd
 have hset:o.cls=.type "set":=S.ex.1
 refine wpAny_bind (PySem.MeetsSeq2.wpAny_forIn_array _ (λrest _ st=> ∃(P rs:dS) (h':Heap) (o':Obj) (es':Array (Int×Value)) (ep':Nat) (t':SetTable) (zs:dS),rest=rs.map qz/\us=P++rs/\st={s with heap:=h'}/\Heap.SameBut a s.heap h'/\h'.get? a=some o'/\SetOk w o' es' ep' t' zs/\Tog (xs.map (·.1)) (P.map (·.1)) zs/\(∀z∈zs,z∈xs\/z∈P)/\zs.length<=xs.length+P.length) (λ_ st=>wpAny (model prog w) A (pure ()) Q E st) ?turn ?fin _ _ ⟨[],us,s.heap,o,es,ep,t,xs,eu,rfl,rfl,Heap.SameBut.refl a s.heap,ho,S,⟨S.nd,λk=>by simp⟩,λz hz=>.inl hz,by simp⟩)
 case fin=>
  rintro _ st ⟨P,rs,h',o',es',ep',t',zs,e1,e2,rfl,sb,g,S2,T,hm,_⟩
  have:rs=[]:=List.map_eq_nil_iff.mp e1.symm
  subst this;rw[List.append_nil] at e2;subst e2;refine wpAny_pure (h _ _ _ _ _ zs sb g S2 ⟨T.nd,λk=>by rw[T.mem,(pu.map (·.1)).mem_iff]⟩ λz hz=>?_)
  rcases hm z hz with q|q
  ·exact .inl q
  ·exact .inr (pu.mem_iff.mp q)
 case turn=>
  rintro x rest _ st ⟨P,rs,h',o',es',ep',t',zs,e1,e2,rfl,sb,g,S2,T,hm,hlen⟩
  cases rs with
  |nil=>cases e1
  |cons y rs=>
   rw[List.map_cons] at e1;obtain⟨hx,hr⟩:=List.cons.inj e1
   subst hx;have ylen:us.length=ys.length:=pu.length_eq
   have lP:P.length+1<=ys.length:=by
    have:=congrArg List.length e2
    rw[List.length_append,List.length_cons] at this;omega
   have hyl:y∈ys:=pu.mem_iff.mp (by rw[e2];simp)
   have hyP:y.1∉P.map (·.1):=λhq=>by
    rw[e2,List.map_append,List.map_cons,List.nodup_append] at ndu;exact ndu.2.2 _ hq _ List.mem_cons_self rfl
   have kk:(KI prog w).is h' y.1 y.2:=gA (hEl y hyl) λo2 e=>(sb.2 _ (l0 (hEl y hyl) ho hset)).trans e
   have E2:nK prog w h' zs:=λz hz=>by
    rcases hm z hz with q|q
    ·exact gA (hE z q) λo2 e=>(sb.2 _ (l0 (hE z q) ho hset)).trans e
    ·have:z∈ys:=pu.mem_iff.mp (by rw[e2];exact List.mem_append_left _ q)
     exact gA (hEl z this) λo2 e=>(sb.2 _ (l0 (hEl z this) ho hset)).trans e
   have hl2:h'.get? l=some ol:=(sb.2 l (Ne.symm ne)).trans hl
   show wpAny _ _ (do
    holding [Value.ref y.2] (do
     if !(<-setDiscardHashed a (.ref y.2) (th y.1)) then do
      let _ <-setAddHashed a (.ref y.2) (th y.1)
      pure ()
     else pure ())
    Frozenset.unchanged id l epl
    pure (ForInStep.yield PUnit.unit)) _ _ _
   have done: ∀(h2:Heap),Heap.SameBut a h' h2-> ∀R:ForInStep PUnit->Shared->Prop,R (.yield PUnit.unit) {s with heap:=h2}->wpAny (model prog w) A (do
    Frozenset.unchanged id l epl
    pure (ForInStep.yield PUnit.unit)) R E {s with heap:=h2}:=λh2 q1 R hR=>by
    have hl3:h2.get? l=some ol:=(q1.2 l (Ne.symm ne)).trans hl2
    unfold Frozenset.unchanged;refine wpAny_bind ?_
    refine wpAny_bind (wpAny_setEpoch_of hl3 Sl.hd Sl'.fits ?_)
    rw[if_neg (by simp)]
    exact wpAny_pure (wpAny_pure hR)
   refine wpAny_bind (wpAny_holding ?_)
   refine wpAny_bind (kq (s:={s with heap:=h'}) g S2 E2 hu kk (by omega) (λnm=>?_) λhm2 h2 o2 es2 ep2 t2 zs2 q1 q2 q3 q4=>?_)
   ·rw[if_pos (show(!false)=true from rfl)]
    refine wpAny_bind (oo (s:={s with heap:=h'}) g S2 E2 hu kk (by omega) (λhm2=>absurd hm2 nm) λnm2 h2 o2 es2 ep2 t2 zs2 q1 q2 q3 q4=>?_)
    refine wpAny_pure (done h2 q1 _ ⟨P++[y],rs,h2,o2,es2,ep2,t2,zs2,hr,by rw[e2,List.append_assoc];rfl,rfl,sb.trans q1,q2,q3,by rw[List.map_append];exact T.inn hyP nm q4,λz hz=>?_,by rw[q4.length_eq,List.length_append,List.length_append,List.length_singleton];omega⟩)
    rcases List.mem_append.mp (q4.mem_iff.mp hz) with q|q
    ·rcases hm z q with q|q
     ·exact .inl q
     ·exact .inr (List.mem_append_left _ q)
    ·exact .inr (List.mem_append_right _ (by rw[List.mem_singleton] at q⊢;exact q))
   ·rw[if_neg (show¬(!true)=true by decide)]
    obtain⟨i,c,hi,rfl⟩:=q4
    refine wpAny_pure (done h2 q1 _ ⟨P++[y],rs,h2,o2,es2,ep2,t2,_,hr,by rw[e2,List.append_assoc];rfl,rfl,sb.trans q1,q2,q3,by rw[List.map_append];exact T.out hyP hi,λz hz=>?_,Nat.le_trans (List.length_eraseIdx_le _ _) (by rw[List.length_append];omega)⟩)
    rcases hm z (List.mem_of_mem_eraseIdx hz) with q|q
    ·exact .inl q
    ·exact .inr (List.mem_append_left _ q)
end
set_option maxHeartbeats 3200000
theorem iT:Slot "set" (dunder Operator.BitXor.info.2) "set.__xor__":=.of (owner:="set") (n:="__xor__") (by rw[typeLookup_type,builtinLookup_eq_fast];kernel_rfl) (by decide+kernel) (by decide+kernel) (by decide+kernel) (by first|exact .inl (by decide+kernel)|exact .inr (by decide+kernel)) sub_set_self
theorem mN:entryFor table "set.__xor__"=some Builtin.«frozenset.__xor__»:=entryFor_alias (id':="frozenset.__xor__") (by kernel_rfl) rfl (by decide+kernel) (by kernel_rfl)
theorem vE:Manifest.owners.lookup (String.ofList ['t','e','s'].reverse)=some Manifest.sig_set:=by kernel_rfl
theorem pc(a b:Value):argsOk "set.__xor__" ⟨[a,b],[]⟩:=by unfold argsOk;rw[signature?_of (id:="set.__xor__") (n:=['_','_','r','o','x','_','_']) (o:=['t','e','s']) (by kernel_rfl) vE];kernel_rfl
theorem oV:fillsNumberSlot (.type "set") "xor"=pure true:=by
 refine fillsNumberSlot_of (id:="set.__xor__") (r:=some (.builtin "set.__rxor__")) ?_ (by decide+kernel) ?_
 ·show typeLookup (.type "set") "__xor__"=_
  rw[typeLookup_type,builtinLookup_eq_fast];kernel_rfl
 ·show typeLookup (.type "set") "__rxor__"=_
  rw[typeLookup_type,builtinLookup_eq_fast];kernel_rfl
theorem C3(l r:Value):Builtin.«frozenset.__xor__» ⟨[l,r],[]⟩=(do
 let(self,other) <-Frozenset.slot1 "__xor__" ⟨[l,r],[]⟩
 let(l,r):=if false then(other,self) else(self,other)
 if !(<-Frozenset.isAnySet l<&&>Frozenset.isAnySet r) then
  rule s!"frozenset.{"__xor__"}.declined"
  return<-ret .notImplemented
 let la <-Frozenset.addrOf l
 let v <-(do
  let result <-Frozenset.newFrom s!"frozenset.{"__xor__"}" (<-Frozenset.baseOf la) r
  let ra <-Frozenset.addrOf result
  holding [result] (Frozenset.symmetricDifferenceUpdate s!"frozenset.{"__xor__"}" ra (.ref la))
  return result:Sem Value)
 ret v):=rfl
section
variable {prog:Program}{w:World}{A:Around}{E:Value->Shared->Prop}{s:Shared}{a b:Addr}{o:Obj}{es:Array (Int×Value)}{ep:Nat}{t:SetTable}{xs ys:dS}{k:List Int}
theorem zj {l r:Addr}{ol or:Obj}{esl esr:Array (Int×Value)}{epl epr:Nat}{tl tr:SetTable}(hl:s.heap.get? l=some ol)(Sl:SetOk w ol esl epl tl xs)(hEl:nK prog w s.heap xs)(hr:s.heap.get? r=some or)(Sr:SetOk w or esr epr tr ys)(hEr:nK prog w s.heap ys)
 (hu:A.units+1<cLine) (hn:xs.length+ys.length<=1000) {Q:Value->Shared->Prop}
 (h: ∀h' o' es' ep' t' zs,Heap.SameBut s.heap.objs.size (s.heap.push (aF w)) h'->h'.get? s.heap.objs.size=some o'->SetOk w o' es' ep' t' zs->Tog (ys.map (·.1)) (xs.map (·.1)) zs->(∀z∈zs,z∈ys\/z∈xs)->Q (.ref s.heap.objs.size) {s with heap:=h'}):
 wpAny (model prog w) A (binaryOp .BitXor (.ref l) (.ref r)) Q E s:=by
 have hTl:=SetAt.ty hl Sl.toSetAt
 have hTr:=SetAt.ty hr Sr.toSetAt
 refine wpAny_binaryOp_same hTl hTr oV iT ?_
 refine wpAny_call_entry iT hTl mN ?_ (pc _ _)
 rw[C3];unfold Frozenset.slot1;have sa:slotArgs "__xor__" 1 ⟨[Value.ref l,Value.ref r],[]⟩=pure (.ref l,[.ref r]):=rfl
 rw[sa,pure_bind];dsimp only;rw[pure_bind];dsimp only;rw[if_neg (by decide)]
 dsimp only;refine wpAny_bind ?_
 refine wpAny_bind (kZ hTl ?_)
 refine kZ hTr ?_
 rw[if_neg (by decide)]
 unfold Frozenset.addrOf;rw[pure_bind];refine wpAny_bind ?_
 unfold Frozenset.baseOf;refine wpAny_bind ?_
 refine wpAny_bind (wpAny_isInstance hTl sub_set_self ?_)
 rw[if_pos rfl];refine wpAny_pure ?_
 unfold Frozenset.newFrom;refine wpAny_bind ?_
 refine wpAny_bind (AQ ?_)
 unfold Frozenset.addrOf;rw[pure_bind];have sz:(s.heap.push (aF w)).get? s.heap.objs.size=some (aF w):=Heap.get?_push_size _ rfl
 have hr1:(s.heap.push (aF w)).get? r=some or:=Heap.get?_push_of_some _ hr
 have hl1:(s.heap.push (aF w)).get? l=some ol:=Heap.get?_push_of_some _ hl
 have ner:s.heap.objs.size≠r:=Nat.ne_of_gt (Heap.lt_size hr)
 have nel:s.heap.objs.size≠l:=Nat.ne_of_gt (Heap.lt_size hl)
 have hTr1:Shared.TypeIs {s with heap:=s.heap.push (aF w)} (.ref r) "set":=SetAt.ty (s:={s with heap:=s.heap.push (aF w)}) hr1 Sr.toSetAt
 refine wpAny_bind (wpAny_holding ?_)
 unfold Frozenset.updateFrom;refine wpAny_bind (kZ hTr1 ?_)
 rw[if_pos rfl];unfold Frozenset.addrOf Frozenset.merge;rw[pure_bind];refine wpAny_bind (wpAny_setEpoch_of hr1 Sr.hd Sr.toSetAt.fits ?_)
 refine xW (s:={s with heap:=s.heap.push (aF w)}) ner sz (lH w) rfl hr1 Sr (by omega) λh1 o1 es1 ep1 t1 zs1 b1 g1 S1 p1=>?_
 refine wpAny_pure ?_
 rw[pure_bind];have hl2:h1.get? l=some ol:=(b1.2 l nel.symm).trans hl1
 have fc:(aF w).cls=.type "set":=rfl
 have E0: ∀us:dS,nK prog w s.heap us->nK prog w h1 us:=λus hE=>Bc (λz hz=>gA (hE z hz) λo' e=>Heap.get?_push_of_some _ e) sz fc b1
 have E1:nK prog w h1 zs1:=λz hz=>E0 ys hEr z (p1.mem_iff.mp hz)
 refine wpAny_bind (wpAny_holding ?_)
 refine A9 (s:={s with heap:=h1}) _ nel g1 S1 E1 hl2 Sl (E0 xs hEl) (show A.in1.units<cLine by have:A.in1.units<=A.units+1:=Nat.le_refl _;omega) (by rw[p1.length_eq];omega) λh2 o2 es2 ep2 t2 zs2 b2 g2 S2 T2 m2=>?_
 refine wpAny_pure (wpAny_pure ⟨_,rfl,(λe=>by cases e),h h2 o2 es2 ep2 t2 zs2 (b1.trans b2) g2 S2 ⟨T2.nd,λk=>by rw[T2.mem,(p1.map (·.1)).mem_iff]⟩ λz hz=>?_⟩)
 rcases m2 z hz with q|q
 ·exact .inl (p1.mem_iff.mp q)
 ·exact .inr q
end
section
variable {prog:Program}{w:World}{A:Around}{R:Result->Shared->Prop}{I:Addr}{fp wr:List Addr}{G:Array GenState->Array GenState->Prop}{n:Nat}{P:Nat->Value->Prop}{St:Nat->Shared->Prop}
theorem xZ(W:WalksS prog w A.in1 I fp wr G n P St)(S:Addr)(hSf:S∉fp)(ks:List (List Int×Addr))(hk:ks.length=n)(nd:(ks.map (·.1)).Nodup)(hn:n<=1000)(hu:A.in1.units<cLine)
 (hval: ∀i v,P i v->v=.ref (ks.getD i ([],0)).2) (hw: ∀z∈ks,z.2∉wr):
 ∀(k i:Nat) (s:Shared),n-i=k->i<=n->St i s->
  (∀z∈ks,(KI prog w).is s.heap z.1 z.2)->
  ∀(o:Obj) (es:Array (Int×Value)) (ep:Nat) (t:SetTable) (xs:dS),s.heap.get? S=some o->SetOk w o es ep t xs->xs.Perm (ks.take i)->
  (∀s' o' es' ep' t' xs',Moved (S::wr) G s s'->s'.heap.get? S=some o'->SetOk w o' es' ep' t' xs'->xs'.Perm ks->R (.ok (.ret .none)) s')->
  codeAny (model prog w) A (.builtin "set.update.loop" ⟨[.ref S,.ref I],[]⟩) R s:=by
 have hSw:S∉wr:=λh=>hSf (W.sub _ h)
 have hsub: ∀b∈wr,b∈S::wr:=λb hb=>List.mem_cons_of_mem _ hb
 intro k
 induction k with
 |zero=>
  intro i s hk0 hi hst hE o es ep t xs ho hS hp hR;have hin:i=n:=by omega
  subst hin;refine codeAny_builtin F.entry_set_update_loop ?_
  rw[Around.under_plainId F.plain_set_update_loop _];show wpAny _ A.in1 (pyNext (.ref I)>>=_) _ _ s;refine wpAny_bind (W.done s _ _ hst λs' hm=>?_)
  show wpAny _ A.in1 (ret Value.none) _ _ s';exact wpAny_pure (hR s' o es ep t xs (hm.mono hsub) (hm.heap S _ hSw ho) hS (by rw[List.take_of_length_le (by omega)] at hp;exact hp))
 |succ k ih=>
  intro i s hk0 hi hst hE o es ep t xs ho hS hp hR;have hlt:i<n:=by omega
  refine codeAny_builtin F.entry_set_update_loop ?_
  rw[Around.under_plainId F.plain_set_update_loop _];show wpAny _ A.in1 (pyNext (.ref I)>>=_) _ _ s;refine wpAny_bind (W.item i s _ _ hlt hst λv s' hP hst' hm=>?_)
  have hv:=hval i v hP
  subst hv;have hz:ks.getD i ([],0)∈ks:=by
   rw[List.getD_eq_getElem?_getD,List.getElem?_eq_getElem (by omega)]
   exact List.getElem_mem _
  have hgi:ks[i]? =some (ks.getD i ([],0)):=by rw[List.getD_eq_getElem?_getD,List.getElem?_eq_getElem (by omega)];rfl
  generalize hzz:ks.getD i ([],0)=z at hz hgi
  have ho':s'.heap.get? S=some o:=hm.heap S _ hSw ho
  have hE': ∀z∈ks,(KI prog w).is s'.heap z.1 z.2:=λy hy=>gA (hE y hy) λo2 e=>hm.heap _ _ (hw y hy) e
  have hEx:nK prog w s'.heap xs:=λy hy=>hE' y (List.mem_of_mem_take (hp.mem_iff.mp hy))
  have hfr:z.1∉xs.map (·.1):=λhq=>by
   have:=(hp.map (·.1)).mem_iff.mp hq
   rw[List.map_take] at this;obtain⟨j,hj,e⟩:=List.getElem_of_mem this
   rw[List.getElem_take] at e;have hj2:j<i:=by simp at hj;omega
   have hi2:i<(ks.map (·.1)).length:=by rw[List.length_map];omega
   have e2:(ks.map (·.1))[i]=z.1:=by
    have:(ks.map (·.1))[i]? =some z.1:=by rw[List.getElem?_map,hgi];rfl
    rw[List.getElem?_eq_getElem hi2] at this;exact Option.some.inj this
   exact absurd (Bz nd (by omega) hi2 (e.trans e2.symm)) (by omega)
  have hsc:o.cls=.type "set":=hS.ex.1
  show wpAny _ A.in1 (holding [Value.ref z.2] (setAdd S (.ref z.2))>>=_) _ _ s';refine wpAny_bind (wpAny_holding ?_)
  unfold setAdd;refine wpAny_holding ?_
  refine wpAny_bind ((KI prog w).pyHash (show(KI prog w).room A.in1 from hu) (hE' z hz) ?_)
  rw[uD];refine oo (s:={s' with toks:=s'.toks+(KI prog w).draws z.1}) ho' hS hEx hu (hE' z hz) (by rw[hp.length_eq,List.length_take];omega) (λhq=>absurd hq hfr) λ_ h' o' es' ep' t' xs' g1 g2 g3 g4=>?_
  refine wpAny_pure ⟨plainId_quiet F.plain_set_update_loop _,ih (i+1) _ (by omega) hlt (W.frame _ s' _ _ hst' (Nat.le_add_right _ _) λb hb o2 e=>?_) (λy hy=>?_) o' es' ep' t' xs' g2 g3 ?_ λs'' o2 es2 ep2 t2 xs2 hm2 q1 q2 q3=>?_⟩
  ·rw[g1.2 b (λh:b=S=>hSf (by rw[<-h];exact hb))];exact e
  ·exact gA (hE' y hy) λo2 e=>(g1.2 _ (l0 (hE' y hy) ho' hsc)).trans e
  ·refine g4.trans ?_
   rw[List.take_succ,hgi];exact List.Perm.append_right _ hp
  ·refine hR s'' o2 es2 ep2 t2 xs2 (Moved.trans W.gtrans ((hm.mono hsub).then_heap (Nat.le_add_right _ _) λb o3 hb e=>?_) hm2) q1 q2 q3
   rw[g1.2 b (λh:b=S=>hb (by rw[h];exact List.mem_cons_self))];exact e
end
section
variable {prog:Program}{w:World}{A:Around}{E:Value->Shared->Prop}{s:Shared}
theorem vz {l:Addr}{items:Array Value}{ks:List (List Int×Addr)}{Q:Value->Shared->Prop}(hh:A.handled=none)(hl:s.heap.IsList l items)(hi:items.toList=ks.map λz=>Value.ref z.2)(nd:(ks.map (·.1)).Nodup)(hn:ks.length<=1000)(hu:A.units+10<cLine)(hE: ∀z∈ks,(KI prog w).is s.heap z.1 z.2)
 (h: ∀(h':Heap) (tk:Nat) (o':Obj) (es':Array (Int×Value)) (ep':Nat) (t':SetTable) (xs:dS),h'.get? s.heap.objs.size=some o'->SetOk w o' es' ep' t' xs->xs.Perm ks->(∀b o,b<s.heap.objs.size->s.heap.get? b=some o->h'.get? b=some o)->Q (.ref s.heap.objs.size) {s with heap:=h',toks:=tk}):
 wpAny (model prog w) A (call (.type "set") [.ref l]) Q E s:=by
 obtain⟨c,tl,hmro⟩:=F.called_set.mro
 have hmade:=F.called_set.made
 have hsub:=F.called_set.sub
 refine wpAny_call (codeAny_of_tree ?_)
 show wpAny _ _ (callAny (.type "set") _) _ _ _;refine wpAny_pure ⟨Code.quiet_builtin _ (by decide+kernel),codeAny_builtin F.entry_type_call ?_⟩
 rw[Around.under_plain (weight_type_call_type "set" [.ref l] []) rfl];have h1:=F.called_set.notType
 have h2:=F.called_set.canCreate
 have hct:=F.typeCall_set_1 (.ref l)
 repeat (any_goals (first|assumption|wp_step))
 refine codeAny_mono (rJ (as:=[.ref l]) (E:=E) (F.newCall_set_1 (.ref l)) (Q₁:=λobj s₁=>obj=.ref s.heap.objs.size/\s₁={s with heap:=s.heap.push (aF w)}) ⟨rfl,rfl⟩) λr s₁ hr=>?_
 cases r with
 |error e=>exact hr
 |ok fl=>
  cases fl with
  |ret obj=>
   obtain⟨rfl,rfl⟩:=hr
   have hS0:(s.heap.push (aF w)).get? s.heap.objs.size=some (aF w):=Heap.get?_push_size _ rfl
   have hS:(s.heap.push (aF w)).get? s.heap.objs.size=some {cls:=.type "set",dict:=none,data:=.set #[] 0 (.fresh 0 0 (!dw w))}:=hS0
   have hT:Shared.TypeIs {s with heap:=s.heap.push (aF w)} (.ref s.heap.objs.size) "set":=⟨_,hS,rfl⟩
   have hli:=F.called_set.init.lookup
   have hbi:=F.called_set.init.bind (.ref s.heap.objs.size)
   repeat (any_goals (first|assumption|wp_step))
   refine codeAny_mono (codeAny_call_builtin (R:=wants (λr s₂=>r=.none/\ ∃h' tk o' es' ep' t' xs,s₂={s with heap:=h',toks:=tk}/\h'.get? s.heap.objs.size=some o'/\SetOk w o' es' ep' t' xs/\xs.Perm ks/\
    (∀b o,b<s.heap.objs.size->s.heap.get? b=some o->h'.get? b=some o)) E) F.called_set.init.plain F.entry_set_init (check_set_init_1 hT ?_)) λr₂ s₂ hr₂=>?_
   ·obtain⟨ol,hol,hcl,nl,hdl⟩:=hl
    obtain⟨ocls,odict,odata,oslots⟩:=ol
    simp only at hcl hdl;subst hcl;subst hdl;have hol':(s.heap.push (aF w)).get? l=some {cls:=.type "list",dict:=odict,data:=.seq items nl,slots:=oslots}:=Heap.get?_push_of_some _ hol
    have hsls:=F.sub_list_set
    have hslf:=F.sub_list_frozenset
    have hne:(Value.type "list"==Value.type "dict")=false:=by decide
    have hl1:(s.heap.push (aF w)).IsList l items:=⟨_,hol',rfl,nl,rfl⟩
    unfold Builtin.«set.__init__» noKeywords Builtin.Frozenset.updateFrom
    generalize hPI:pyIter=PI
    wp_walk
    subst hPI;refine wpAny_pyIter_list hl1 ?_
    refine wpAny_bind (wpAny_runValue ?_)
    have hlS:l<s.heap.objs.size:=Heap.lt_size hol
    have hh3:A.in1.in1.in1.handled=none:=by simp[hh]
    have hneI:l≠(s.heap.push (aF w)).objs.size:=by
     rw[Heap.size_push];exact Nat.ne_of_lt (Nat.lt_succ_of_lt hlS)
    have hSf:s.heap.objs.size∉ [(s.heap.push (aF w)).objs.size,l]:=by
     rw[Heap.size_push];simp only[List.mem_cons,List.mem_singleton,List.not_mem_nil,or_false,not_or];exact⟨Nat.ne_of_lt (Nat.lt_succ_self _),Nat.ne_of_gt hlS⟩
    have zi:ks.length=items.size:=by
     have:=congrArg List.length hi
     rw[List.length_map,Array.length_toList] at this;exact this.symm
    have hlt: ∀z∈ks,z.2<s.heap.objs.size:=λz hz=>by
     obtain⟨o,_,_,e,_⟩:=hE z hz
     exact Heap.lt_size e
    refine xZ ((Walks.list hh3 _ l hneI items).toS) s.heap.objs.size hSf ks zi nd (by omega) (show A.in1.in1.in1.units<cLine by
     have a1:A.in1.in1.in1.units<=A.units+3:=Nat.le_refl _
     omega) (λi v hv=>?_) (λz hz=>?_) (items.size-0) 0 _ (by omega) (Nat.zero_le _)
     ⟨⟨_,Heap.get?_push_size _ rfl,rfl,rfl⟩,(hl1.push _)⟩ (λz hz=>gA (hE z hz) λo e=>Heap.get?_push_of_some _ (Heap.get?_push_of_some _ e)) _ _ _ _ [] (Heap.get?_push_of_some _ hS0) (lH w) (.refl _) ?hR
    ·have:items.toList[i]? =some v:=by rw[Array.getElem?_toList];exact hv
     rw[hi,List.getElem?_map] at this;obtain⟨z,hz,rfl⟩:=Option.map_eq_some_iff.mp this
     rw[List.getD_eq_getElem?_getD,hz];rfl
    ·have:=hlt z hz
     simp only[List.mem_cons,List.mem_singleton,List.not_mem_nil,or_false];rw[Heap.size_push];exact Nat.ne_of_lt (Nat.lt_succ_of_lt this)
    case hR=>
     intro s' o' es' ep' t' xs' hm g1 g2 g3;obtain⟨h',g',d',tk',os'⟩:=s'
     have eg:g'=s.gens:=hm.gens
     have ed:d'=s.drawn:=hm.drawn
     have eo:os'=s.os:=hm.os
     subst eg;subst ed;subst eo;show wpAny _ _ _ _ _ _;refine wpAny_pure ?_
     show wpAny _ _ (ret Value.none) _ _ _;refine wpAny_pure ⟨rfl,h',tk',o',es',ep',t',xs',rfl,g1,g2,g3,λb o hb e=>?_⟩
     have hb1:b≠s.heap.objs.size:=Nat.ne_of_lt hb
     have hb2:b≠(s.heap.push (aF w)).objs.size:=by
      rw[Heap.size_push];exact Nat.ne_of_lt (Nat.lt_succ_of_lt hb)
     exact hm.heap b o (by simp only[List.mem_cons,List.mem_singleton,List.not_mem_nil,or_false,not_or];exact⟨hb1,hb2⟩) (Heap.get?_push_of_some _ (Heap.get?_push_of_some _ e))
   ·cases r₂ with
    |error e=>exact hr₂
    |ok fl₂=>
     cases fl₂ with
     |ret r=>
      obtain⟨rfl,h',tk,o',es',ep',t',xs,rfl,g1,g2,g3,hk'⟩:=hr₂
      repeat (any_goals (first|assumption|wp_step))
      exact h _ _ _ _ _ _ _ g1 g2 g3 hk'
     |_=>exact hr₂.elim
  |_=>exact hr.elim
end
set_option maxHeartbeats 1000000
section
variable {X:Cx}
def Do(K:W.Frag):List V->Hp->VK->Prop:=λxs H Q=> ∃l ks,xs=[.ref l]/\SqL K H l (iz ks)/\(∀z∈ks,SqT K H z.2 (z.1.map V.int))/\(ks.map (·.1)).Nodup/\ks.length<=1000/\ ∀a zs,H a=none->zs.Perm ks->Q (.ref a) (aV H a (.tst zs))
theorem mt(hc:X.calm=true)(hu:X.A.units+10<cLine):bU X (.type "set") (Do X.K):=by
 intro aa s σ H xs us Q I r h;obtain⟨l,ks,rfl,hL,hsq,nd,hn,q⟩:=h
 obtain⟨u,rfl,rx⟩:=dU r
 cases rx
 obtain⟨its,r,hl,z1⟩:=I.list hL
 have hi:its=ks.map λz=>Value.ref z.2:=by
  have rv:=lX ks
  have: ∀(vs:List V) (a b:List Value),(∀v∈vs,∃p,v=V.ref p)->Vals vs a->Vals vs b->a=b:=λvs=>by
   induction vs with
   |nil=>intro a b _ h1 h2;cases h1;cases h2;rfl
   |cons v vs ih=>
    intro a b hv h1 h2;cases h1 with
    |cons x1 t1=>cases h2 with
     |cons x2 t2=>
      obtain⟨p,rfl⟩:=hv v List.mem_cons_self
      cases x1;cases x2
      rw[ih _ _ (λw hw=>hv w (List.mem_cons_of_mem _ hw)) t1 t2]
  exact this _ _ _ (λv hv=>by obtain⟨z,_,rfl⟩:=List.mem_map.mp hv;exact⟨_,rfl⟩) r rv
 refine vz (ks:=ks) (items:=its.toArray) (I.ok.hd hc) ?_ (by simpa using hi) nd hn hu (λz hz=>jj I (hsq z hz)) λh' tk o' es' ep' t' zs g1 g2 g3 g4=>?_
 ·obtain⟨o,n,e,c1,d1,t1⟩:=hl
  exact⟨o,e,c1,n,by first|exact d1|exact t1⟩
 ·exact⟨.ref s.heap.objs.size,_,I.laid (t':=tk) (λb o e=>g4 b o (Heap.lt_size e) e) (Nat.le_refl _) (show ObjOk X.prog X.w _ _ _ (.tst zs) from⟨_,_,_,_,g1,g2⟩),rfl,q _ _ (I.hok.fresh (Nat.le_refl _)) g3⟩
def EW(K:W.Frag):R2:=λx y H Q=> ∃l r xs ys,x=.ref l/\y=.ref r/\H l=some (.tst xs)/\H r=some (.tst ys)/\(∀z∈xs,SqT K H z.2 (z.1.map V.int))/\(∀z∈ys,SqT K H z.2 (z.1.map V.int))/\xs.length+ys.length<=1000/\
 ∀a zs,H a=none->Tog (ys.map (·.1)) (xs.map (·.1)) zs->(∀z∈zs,z∈ys\/z∈xs)->Q (.ref a) (aV H a (.tst zs))
theorem A1(hu:X.A.units+1<cLine):jD X (binaryOp .BitXor) (EW X.K):=by
 intro aa s σ H x y v u Q I rx ry h;obtain⟨l,r,xs,ys,rfl,rfl,hl,hr,sl,sr,hn,q⟩:=h
 cases rx
 cases ry
 obtain⟨ol,esl,epl,tl,hol,Sl⟩:=(show ObjOk X.prog X.w H s.heap l (.tst xs) from I.hok l _ hl)
 obtain⟨or,esr,epr,tr,hor,Sr⟩:=(show ObjOk X.prog X.w H s.heap r (.tst ys) from I.hok r _ hr)
 refine zj hol Sl (l6 I sl) hor Sr (l6 I sr) hu hn λh' o' es' ep' t' zs b g S T m=>?_
 refine⟨.ref s.heap.objs.size,_,I.laid (t':=s.toks) (λc o e=>?_) (Nat.le_refl _) (show ObjOk X.prog X.w _ _ _ (.tst zs) from⟨_,_,_,_,g,S⟩),rfl,q _ _ (I.hok.fresh (Nat.le_refl _)) T m⟩
 exact(b.2 c (Nat.ne_of_lt (Heap.lt_size e))).trans (Heap.get?_push_of_some _ e)
end
theorem l8 {K:W.Frag}{H:Hp}{hid:aX}: ∀ {vs:List V} {ks:List (List Int)},Reps K (vw H hid) vs (ks.map nR)-> ∃xs:dS,vs=iz xs/\xs.map (·.1)=ks/\Reps K (vw H hid) (iz xs) (tD xs)
 |vs,[],r=>by cases r;exact⟨[],rfl,rfl,.nil⟩
 |vs,k::ks,r=>by
  rw[List.map_cons] at r;cases r with
  |cons r rs=>
   obtain⟨xs,rfl,rfl,r3⟩:=l8 rs
   obtain⟨b,z,rfl,_⟩:=(show Rep1 K H (vw H hid) _ (.tup (k.map D.int)) from .inl r).tup
   exact⟨(k,b)::xs,rfl,rfl,.cons r r3⟩
def uA:List D->Option (List (List Int))
 | []=>some []
 | .tup ds::r=>(c5 ds).bind λk=>(uA r).map (k:: ·)
 |_=>none
theorem lZ: ∀ {ds:List D} {ks:List (List Int)},uA ds=some ks->ds=ks.map nR
 | [],ks,h=>by cases h;rfl
 | .tup es::r,ks,h=>by
   obtain⟨k,e1,h⟩:=Option.bind_eq_some_iff.mp (show(c5 es).bind _=_ from h)
   obtain⟨t,e2,rfl⟩:=Option.map_eq_some_iff.mp h
   rw[List.map_cons,<-lZ e2,cB e1];rfl
 | .non::_,_,h| .bl _::_,_,h| .int _::_,_,h| .str _::_,_,h| .lst _::_,_,h| .scr _::_,_,h| .dct _ _::_,_,h=>by cases h
theorem AI {A:Around}{k:Nat}(hr:Room k A):A.units+10<cLine:=Nat.lt_of_le_of_lt (Nat.add_le_add_left (by decide:10<=64) _) hr.units
def rA(a b:List (List Int)):List (List Int):=a.filter (λk=>decide (k∉b))++b.filter (λk=>decide (k∉a))
theorem AK {a b:List (List Int)}(ha:a.Nodup)(hb:b.Nodup):(rA a b).Nodup:=by
 unfold rA;rw[List.nodup_append];refine⟨ha.filter _,hb.filter _,λx hx y hy e=>?_⟩
 subst e;have h1:=(List.mem_filter.mp hx).1
 have h2:=(List.mem_filter.mp hy).2
 simp at h2;exact h2 h1
theorem xK {a b:List (List Int)}{k:List Int}:k∈rA a b↔(k∈a/\k∉b)\/(k∈b/\k∉a):=by
 unfold rA;simp
theorem yz {a b:List (List Int)}{zs:dS}(T:Tog b a zs)(ha:a.Nodup)(hb:b.Nodup):(zs.map (·.1)).Perm (rA a b):=
 (List.perm_ext_iff_of_nodup T.nd (AK ha hb)).mpr λk=>by rw[T.mem,xK];constructor<;>(rintro(h|h);exact .inr h;exact .inl h)
def Cb(i j:Nat):FE:=λρ=>match ρ[i]?,ρ[j]? with
 |some (.v (.lst d1)),some (.v (.lst d2))=>(uA d1).bind λk1=>(uA d2).bind λk2=>if(k1.Nodup/\k2.Nodup)/\k1.length+k2.length<64/\(∀k∈k1,k≠[])/\(∀k∈k2,k≠[]) then some (.lst ((aU aY (rA k1 k2)).map nR)) else none
 |_,_=>none
theorem ym {K:W.Frag}{H:Hp}{hid:aX}{v:V}{ds:List D}(h:Rep K (vw H hid) v (.lst ds)): ∃l xs,v=.ref l/\SqL K H l xs/\Reps K (vw H hid) xs ds:=by
 obtain⟨a,xs,rfl,h1,h2⟩:=(show Rep1 K H (vw H hid) v (.lst ds) from .inl h).lst
 exact⟨a,xs,rfl,h1,h2⟩
section
variable {X:Cx}{c:Ct}{pos p p1 p2 p3 p4 p5 q1 q2 q3:Pos}{x y:Str}
theorem x6(i j:Nat)(hcm:X.calm=true)(hu:X.A.units+10<cLine)(hm:X.mg "sorted"=none)(hms:X.mg "set"=none)(hN:X.N[i]? =some x:=by rfl)(hN2:X.N[j]? =some y:=by rfl)(hv':lR X.env.scope x:=by first|exact Or.inl rfl|exact Or.inr (Or.inl rfl)|exact Or.inr (Or.inr rfl))(hv2:lR X.env.scope y:=by first|exact Or.inl rfl|exact Or.inr (Or.inl rfl)|exact Or.inr (Or.inr rfl))(hd:(x==("__debug__":Str))=false:=by decide)(hd2:(y==("__debug__":Str))=false:=by decide)
 (hcd:(x==("__classdict__":Str))=false:=by decide) (hcd2:(y==("__classdict__":Str))=false:=by decide) (hg:Gl X "sorted":=by rfl) (hgs:Gl X "set":=by rfl) (hv:bootBuiltins "sorted"=some (.builtin "sorted"):=by kernel_rfl) (hvs:bootBuiltins "set"=some (.type "set"):=by kernel_rfl)
 (he1:starEach [.Name x p2] X.env=(false,eval (.Name x p2) X.env)::starEach [] X.env:=by rfl) (he2:starEach [.Name y p4] X.env=(false,eval (.Name y p4) X.env)::starEach [] X.env:=by rfl) (he3:starEach [.BinOp (.Call (.Name "set" p1) [.Name x p2] [] q1) .BitXor (.Call (.Name "set" p3) [.Name y p4] [] q2) q3] X.env=(false,eval (.BinOp (.Call (.Name "set" p1) [.Name x p2] [] q1) .BitXor (.Call (.Name "set" p3) [.Name y p4] [] q2) q3) X.env)::starEach [] X.env:=by rfl) (hpl: ∀pos,(backTo pos (starEach [] X.env)).any (·.1)=false:=by intro _;rfl):
 DP X c .n (.Call (.Name "sorted" p) [.BinOp (.Call (.Name "set" p1) [.Name x p2] [] q1) .BitXor (.Call (.Name "set" p3) [.Name y p4] [] q2) q3] [] pos) (Cb i j):=λhid ρ=>
 PE.imp (fC (jt hcm) hg hm hv (a8 (wV (A1 (by omega)) (fq (mt hcm hu) hgs hms hvs (a8 (pv i hN hv' hd hcd) bJ he1) (by decide) (by decide) he1 (hpl _)) (fq (mt hcm hu) hgs hms hvs (a8 (pv j hN2 hv2 hd2 hcd2) bJ he2) (by decide) (by decide) he2 (hpl _))) bJ he3) (by decide) (by decide) he3 (hpl _)) λσ H Q hq_=>by
  obtain⟨sr,d,hd,q⟩:=hq_
  unfold Cb at hd;split at hd
  ·rename_i d1 d2 e1 e2
   obtain⟨k1,f1,hd⟩:=Option.bind_eq_some_iff.mp hd
   obtain⟨k2,f2,hd⟩:=Option.bind_eq_some_iff.mp hd
   split at hd
   ·rename_i hc
    cases hd
    obtain⟨⟨nd1,nd2⟩,hl,ne1,ne2⟩:=hc
    have:=lZ f1;subst this
    have:=lZ f2;subst this
    obtain⟨v1,s1,r1⟩:=sr.sl i _ e1
    obtain⟨v2,s2,r2⟩:=sr.sl j _ e2
    obtain⟨l1,u1,rfl,g1,w1⟩:=ym r1
    obtain⟨l2,u2,rfl,g2,w2⟩:=ym r2
    obtain⟨x1,rfl,rfl,y1⟩:=l8 w1
    obtain⟨x2,rfl,rfl,y2⟩:=l8 w2
    rw[List.length_map,List.length_map] at hl;have t1: ∀z∈x1,SqT X.K H z.2 (z.1.map V.int):=λz hz=>jy (bx y1 z hz)
    have t2: ∀z∈x2,SqT X.K H z.2 (z.1.map V.int):=λz hz=>jy (bx y2 z hz)
    refine⟨.ref l1,s1,l1,x1,rfl,g1,t1,nd1,by omega,λa1 z1 n1 pm1=>?_⟩
    have S1:Same H (aV H a1 (.tst z1)):=aC n1 _
    refine⟨.ref l2,s2,l2,x2,rfl,Same.seq S1 g2,λz hz=>Same.seqT S1 (t2 z hz),nd2,by omega,λa2 z2 n2 pm2=>?_⟩
    have S2:Same (aV H a1 (.tst z1)) (aV (aV H a1 (.tst z1)) a2 (.tst z2)):=aC n2 _
    have S12:=S1.trans S2
    refine⟨a1,a2,z1,z2,rfl,rfl,S2 _ _ aA,aA,λz hz=>Same.seqT S12 (t1 z (pm1.mem_iff.mp hz)),λz hz=>Same.seqT S12 (t2 z (pm2.mem_iff.mp hz)),by rw[pm1.length_eq,pm2.length_eq];omega,λa3 z3 n3 T m3=>?_⟩
    have S3:=aC n3 (.tst z3)
    have S13:=S12.trans S3
    have m3': ∀z∈z3,z∈x1\/z∈x2:=λz hz=>(m3 z hz).elim (λh=>.inr (pm2.mem_iff.mp h)) λh=>.inl (pm1.mem_iff.mp h)
    have T':Tog (x2.map (·.1)) (x1.map (·.1)) z3:=⟨T.nd,λk=>by rw[T.mem,(pm1.map (·.1)).mem_iff,(pm2.map (·.1)).mem_iff]⟩
    have P3:=yz T' nd1 nd2
    have l3:z3.length<=x1.length+x2.length:=by
     have:=P3.length_eq
     rw[List.length_map] at this;rw[this];unfold rA;rw[List.length_append];have a:=List.length_filter_le (λk=>decide (k∉x2.map (·.1))) (x1.map (·.1))
     have b:=List.length_filter_le (λk=>decide (k∉x1.map (·.1))) (x2.map (·.1))
     rw[List.length_map] at a b;omega
    have rp: ∀z∈z3,Rep X.K (vw H hid) (.ref z.2) (.tup (z.1.map D.int)):=λz hz=>(m3' z hz).elim (bx y1 z) (bx y2 z)
    refine⟨a3,z3,rfl,aA,λz hz=>Same.seqT S13 (jy (rp z hz)),by omega,λz hz=>(m3' z hz).elim (λh=>ne1 _ (List.mem_map_of_mem h)) λh=>ne2 _ (List.mem_map_of_mem h),λl zs' hl hm hk=>q _ _ (S13.trans (aC hl _)) (c8 hl S13 ?_)⟩
    have:(aU aY (rA (x1.map (·.1)) (x2.map (·.1)))).map nR=tD zs':=by
     rw[<-j7 P3,<-hk,List.map_map];rfl
    rw[this];exact gz λz hz=>(rp z (hm z hz)).mono (aw S13)
   ·cases hd
  ·cases hd
end
open PySem PySem.W PySem.Spec PyProof.Rows
open PySem PySem.Spec PyProof.Rows HT
theorem xx {α β:Type}: ∀l:List (α×β),(l.map (·.1)).zip (l.map (·.2))=l
 | []=>rfl
 |(a,b)::l=>by rw[List.map_cons,List.map_cons,List.zip_cons_cons,xx l]
theorem qt {α β:Type}: ∀ {k:List α} {x:List β},k.length=x.length->(k.zip x).map (·.1)=k/\(k.zip x).map (·.2)=x
 | [],[],_=>⟨rfl,rfl⟩
 |a::k,b::x,h=>by
  obtain⟨h1,h2⟩:=qt (k:=k) (x:=x) (Nat.succ.inj h)
  rw[List.zip_cons_cons,List.map_cons,List.map_cons,h1,h2];exact⟨rfl,rfl⟩
def vp:D->Option zn
 | .dct ks ds=>some (ks.zip ds)
 |_=>none
def Dr(kvs:zn):D:=.dct (kvs.map (·.1)) (kvs.map (·.2))
theorem i5 {K:W.Frag}{H:Hp}{hid:aX}{v:V}{d:D}{kvs:zn}(h:Rep1 K H (vw H hid) v d)(e:vp d=some kvs): ∃a o us,v=.ref a/\vw H hid a=some (.frz o (.dT us))/\KRt K (vw H hid) us kvs:=by
 cases d with
 |dct ks ds=>
  cases e
  rcases h with h|⟨_,_,_,_,h2,_⟩
  ·cases h with
   |dct q l r=>
    refine⟨_,_,_,rfl,q,?_,?_⟩
    ·rw[(qt l).1,(qt (l.trans r.length)).1]
    ·rw[(qt l).2,(qt (l.trans r.length)).2];exact r
  ·cases h2
 |_=>cases e
theorem AL {K:W.Frag}{F:Hp}{a:Addr}{o:Obj}{us:List (List aS×V)}{kvs:zn}(h:F a=some (.frz o (.dT us)))(r:KRt K F us kvs):Rep K F (.ref a) (Dr kvs):=by
 refine .dct (o:=o) (xs:=us.map (·.2)) ?_ ?_ r.2
 ·rw[<-r.1,xx];exact h
 ·rw[<-r.1,List.length_map,List.length_map]
def Gn(i:Nat)(ρ:ay):Option ay:=(kH i ρ).map λkvs=>ρ.set i (.v (Dr kvs))
def wj(i:Nat)(t:FS):FS:=λρ=>match Gn i ρ with
 |some ρ'=>t ρ'
 |none=>.no
section
variable {X:Cx}{c:Ct}{k k1 k2:Kd}{st:Stmt}{t:FS}
theorem oz(i:Nat)(h:DS X c k st t):DS X c k st (wj i t):=λρ aa s σ H D I hq_=>by
 obtain⟨hid,sr,q⟩:=hq_
 unfold wj at q;split at q
 ·rename_i ρ' e
  obtain⟨kvs,e0,rfl⟩:=Option.map_eq_some_iff.mp e
  obtain⟨a,us,a1,a2,a3,a4,a5⟩:=sr.dictT e0
  obtain⟨z,y,xs,r,o,es,ep,g1,g2⟩:=(show ObjOk X.prog X.w H s.heap a (.dT us) from I.hok a _ a4)
  have na: ∀b xs,H b=some (.tup xs)->b≠a:=λb xs w e=>by subst e;rw[a4] at w;cases w
  have new:ObjOk X.prog X.w (aV H a (.frz o (.dT us))) s.heap a (.frz o (.dT us)):=⟨g1,z,y,xs,Paired.mapP r λp q z=>⟨z.1,by rw[ax (na _ _ z.2.1)];exact z.2.1,z.2.2⟩,o,es,ep,g1,g2⟩
  have I2:Inv X aa σ (aV H a (.frz o (.dT us))) {s with heap:=s.heap,toks:=s.toks}:=I.write (x:=a) (e:=a) (by rw[a4];trivial) (.inl rfl) (λb u _ hu=>hu) ⟨o,g1⟩ new
  have lt:=(List.getElem?_eq_some_iff.mp (g7 e0)).1
  have sr0:SR X.K c hid (ρ.set i .no) σ H:=sr.forget (by simp) λj s' q=>by
   by_cases ej:j=i
   ·subst ej
    rw[List.getElem?_set_self lt] at q;cases q;exact .inl rfl
   ·rw[List.getElem?_set_ne (Ne.symm ej)] at q;exact .inr q
  have sr1:=sr0.reveal (u':=.frz o (.dT us)) a2 a3 λj a' ow q hat=>by
   have ej:j≠i:=λz=>by
    subst z;rw[List.getElem?_set_self lt] at ow;exact ow
   rw[List.getElem?_set_ne (Ne.symm ej)] at ow;rcases hat with z|⟨w',hw'⟩
   ·subst z;exact sr.ap j i a ej ow (by rw[g7 e0];trivial) q a1
   ·rw[a4] at hw';cases hw'
  have sm:Same (vw H hid) (vw (aV H a (.frz o (.dT us))) (ft hid a)):=nZ a2
  have at1:vw (aV H a (.frz o (.dT us))) (ft hid a) a=some (.frz o (.dT us)):=Em
  have sr2:=sr1.mark (i:=i) (s:=.v (Dr kvs)) ⟨_,a1,AL at1 ⟨a5.1,a5.2.mono sm⟩⟩ id
  rw[A0] at sr2;exact h _ aa s σ _ D I2 ⟨ft hid a,sr2,q.mono sm⟩
 ·exact q.elim
end
theorem C0 {K:W.Frag}{hid:aX}{H':Hp}{z:V}{ns:List Int}(h:Rep1 K H' (vw H' hid) z (.tup (ns.map D.int))): ∃b,z=.ref b/\H' b=some (.tup (ns.map V.int)):=by
 obtain⟨b,xs,rfl,h1,_,h3⟩:=h.tup
 rw[pi h3] at h1;exact⟨b,rfl,bt _ _ _ _ h1⟩
theorem uH(ns:List Int):(iK ns).map kV=ns.map V.int:=by unfold iK;rw[List.map_map];rfl
section
variable {X:Cx}{c:Ct}{k k1 k2:Kd}{o e f ev:Expr}{fo fe ff:FE}{pos pos' py apos cpos p:Pos}{y:Str}
def oD(f:FE):ay->Option (List Int):=λρ=>(f ρ).bind om
theorem jC(he:DP X c k1 e fe):DK X c e (oD fe):=λhid ρ=>PE.imp (he hid ρ) λσ H Q hq_=>by
 obtain⟨sr,ns,e,q⟩:=hq_
 obtain⟨d,e1,e2⟩:=Option.bind_eq_some_iff.mp e
 have e3:=di e2
 subst e3;refine⟨sr,_,e1,λv H' s r=>?_⟩
 obtain⟨b,rfl,hb⟩:=C0 (RK.b k1 r λa n=>sr.fresh n)
 exact q b H' s hb
def BU(fo:FE)(fk:ay->Option (List Int)):FE:=λρ=>((fo ρ).bind vp).bind λkvs=>(fk ρ).bind λk=>gx kvs (iK k)
theorem uR {fk:ay->Option (List Int)}(hu:X.A.units+1<cLine)(ho:DP X c k2 o fo)(he:DK X c e fk)(hs:xf e):DP X c .s (.Subscript o e pos) (BU fo fk):=λhid ρ=>
 PE.imp (zq hu (ho hid ρ) (he hid ρ) hs) λσ H Q hq_=>by
  obtain⟨sr,d,hd,q⟩:=hq_
  obtain⟨kvs,e0,hd⟩:=Option.bind_eq_some_iff.mp hd
  obtain⟨d0,e1,e0⟩:=Option.bind_eq_some_iff.mp e0
  obtain⟨kk,e2,hd⟩:=Option.bind_eq_some_iff.mp hd
  refine⟨sr,_,e1,λx H1 s1 r1=>⟨sr.ext s1,_,e2,λb H2 s2 hb=>?_⟩⟩
  obtain⟨a,o',us,rfl,h1,h2⟩:=i5 (Rep1.ext (RK.b k2 r1 λa n=>sr.fresh n) s2) e0
  rcases h2.val (iK kk) with⟨v1,v2⟩|⟨v,d',v1,v2,v3⟩
  ·rw[v2] at hd;cases hd
  ·rw[v2] at hd;cases hd
   exact⟨a,v,rfl,.inr ⟨us,iK kk,b,.inr ⟨o',bt _ _ _ _ h1⟩,rfl,by rw[uH];exact hb,v1.symm⟩,q _ H2 (s1.trans s2) v3⟩
def DY(ng:Bool)(fk:ay->Option (List Int))(fo:FE):FT:=λρ=>(fk ρ).bind λk=>((fo ρ).bind vp).map λkvs=>if ng then !(gx kvs (iK k)).isSome else(gx kvs (iK k)).isSome
theorem KRt.is {K:W.Frag}{F:Hp}{us:List (List aS×V)}{kvs:zn}(h:KRt K F us kvs)(k:List aS):(eI us k).isSome=(gx kvs k).isSome:=by
 rcases h.val k with⟨v1,v2⟩|⟨v,d',v1,v2,v3⟩<;>rw[v1,v2]<;>rfl
theorem se {fk:ay->Option (List Int)}(hu:X.A.units+1<cLine)(he:DK X c e fk)(ho:DP X c k2 o fo)(hm:behindInMarks .NotIn o=false:=by rfl):DT X c (.Compare e [.NotIn] [o] pos) (DY true fk fo):=λhid ρ=>
 PT.imp (tm (vV hu (he hid ρ) (ho hid ρ)) hm) λσ H Q hq_=>by
  obtain⟨sr,d,hd,q⟩:=hq_
  obtain⟨kk,e2,hd⟩:=Option.bind_eq_some_iff.mp hd
  obtain⟨kvs,e0,rfl⟩:=Option.map_eq_some_iff.mp hd
  obtain⟨d0,e1,e0⟩:=Option.bind_eq_some_iff.mp e0
  refine⟨sr,_,e2,λb H1 s1 hb=>⟨sr.ext s1,_,e1,λx H2 s2 r2=>?_⟩⟩
  obtain⟨a,o',us,rfl,h1,h2⟩:=i5 (RK.b k2 r2 λa n=>(sr.ext s1).fresh n) e0
  refine⟨a,_,rfl,.inr ⟨us,iK kk,b,.inr ⟨o',bt _ _ _ _ h1⟩,rfl,by rw[uH];exact s2 _ _ hb,rfl⟩,_,rfl,?_⟩
  rw[h2.is];exact q H2 (s1.trans s2)
def Ey(f:FE):FA:=λρ=>((f ρ).bind vp).bind λkvs=>(intKs kvs).map λkss=>kss.map nR
theorem xF {tg:Expr}(he:DP X c .s e fe):DIp X c tg e (Ey fe):=λhid ρ=>PI.imp (BZ (he hid ρ)) λσ H R hq_=>by
 obtain⟨sr,ds,e,q⟩:=hq_
 obtain⟨kvs,e0,e⟩:=Option.bind_eq_some_iff.mp e
 obtain⟨d0,e1,e0⟩:=Option.bind_eq_some_iff.mp e0
 obtain⟨kss,e2,rfl⟩:=Option.map_eq_some_iff.mp e
 refine⟨sr,_,e1,λv H1 s1 r1=>?_⟩
 have sr1:=sr.ext s1
 obtain⟨a,o',us,rfl,h1,h2⟩:=i5 (RK.b .s r1 λa n=>sr.fresh n) e0
 refine⟨a,o',us,rfl,bt _ _ _ _ h1,λxs kt=>?_⟩
 have ky:=pe kt (by rw[h2.1];exact gR e2)
 have rr:=gH (K:=X.K) sr1.ht ky
 have ll:=rr.length
 refine q _ H1 s1 ⟨λj d H2 hj w=>?_,λH2 w=>⟨w _ _ h1,ll.symm⟩⟩
 obtain⟨v,g1,g2⟩:=rr.get hj
 have hlt:j<(xs.map λx=>V.ref x.2.1).length:=(List.getElem?_eq_some_iff.mp g1).1
 refine⟨⟨w _ _ h1,hlt⟩,λx H' ⟨y1,y2⟩=>?_⟩
 subst y1;rw[g1] at y2;cases y2;exact⟨Same.refl _,λhid' _ sw=>g2.mono sw⟩
def jQ(i:Nat)(fk:ay->Option (List Int))(fv:GE):FS:=λρ=>match fv ρ with
 |some (d,ρ')=>(match kH i ρ' with
  |some kvs=>(match fk ρ' with
   |some ns=>if kvs.length<=1000 then .nx (ρ'.set i (.ob (.dT (lw kvs (iK ns) d)))) else .no
   |none=>.no)
  |none=>.no)
 |none=>.no
theorem we(i:Nat)(hu:X.A.units+1<cLine){fk:ay->Option (List Int)}{fv:GE}(hk:DK X c e fk)(hv:DE X c .s ev fv)(hN:X.N[i]? =some y:=by rfl)(hv':lR X.env.scope y:=by first|exact Or.inl rfl|exact Or.inr (Or.inl rfl)|exact Or.inr (Or.inr rfl))(hd:(y==("__debug__":Str))=false:=by decide)
 (hcd:(y==("__classdict__":Str))=false:=by decide) (hs:swapsWith ev (some (.Subscript (.Name y py) e pos')) pos.line X.env=pure false:=by rfl):
 DS X c k (.Assign [.Subscript (.Name y py) e pos'] ev pos) (jQ i fk fv):=λρ=>PS.imp (oX hu (pv i hN hv' hd hcd) (iH λz:aX×ay=>hk z.1 z.2) (iH λhid=>hv hid ρ) hs) λD σ H hq_=>by
 obtain⟨hid,sr,q⟩:=hq_
 unfold jQ at q;split at q
 ·rename_i d ρ' e1
  split at q
  ·rename_i kvs e0
   split at q
   ·rename_i ns e2
    split at q
    ·rename_i hz
     refine⟨hid,sr,d,ρ',e1,λv H1 ⟨kp,sr1,r1⟩=>?_⟩
     obtain⟨a,us,a1,a2,a3,a4,a5⟩:=sr1.dictT e0
     refine⟨.ref a,a1,(hid,ρ'),sr1,ns,e2,λb H2 s2 hb=>?_⟩
     have hb':H2 b=some (.tup ((iK ns).map kV)):=by rw[uH];exact hb
     refine⟨a,_,rfl,DPut.t (k:=iK ns) (s2 _ _ a4) hb' (by rw[a5.len];exact Nat.lt_of_le_of_lt hz (by decide)),?_⟩
     have r1':Rep X.K (vw H1 hid) v d:=r1
     refine q _ _ hid ((sr1.ext s2).putDT e0 a1 (KRt.put (iK ns) (r1'.mono (aw s2)) ⟨a5.1,a5.2.mono (aw s2)⟩)) ?_
     rw[bS a2];exact kp.vw.trans (aw s2)
    ·exact q.elim
   ·exact q.elim
  ·exact q.elim
 ·exact q.elim
end
section
open PySem PySem.W PySem.Calls PyProof.Rows
theorem nq {α:Type}: ∀l:List α,l.zip l=l.map λx=>(x,x)
 | []=>rfl
 |a::l=>by rw[List.zip_cons_cons,nq l];rfl
variable {prog:Program}{w:World}{A:Around}{E:Value->Shared->Prop}{s:Shared}{d:Addr}
theorem rm {a:Addr}{us:List Value}{n:Nat}{P:PySem.Fin->Shared->Prop}(ho:s.heap.get? a=some (seqObj "list" us.toArray n))(hz:us.length<64)
 (few:us.length<2->P (.done (.ret .none)) {s with heap:=sortedHeap s.heap a us us.toArray})
 (many:2<=us.length-> ∀g:Heap,(∀c o,c≠a->s.heap.get? c=some o->g.get? c=some o)->wpAny (model prog w) A (keyKind' us.toArray) (λκ t=>t={s with heap:=g}/\
   (kas_sort us.length).kasWp (kas_ask prog w A κ us.reverse) (λp t'=>t'=t/\P (.done (.ret .none)) {s with heap:=sortedHeap s.heap a us ((List.toArray (p.toList.map λi=>us.reverse.getD i Value.none)).reverse)}) t) (λ_ _=>False) {s with heap:=g}):
 wpAny (model prog w) A (Builtin.«list.sort» ⟨[.ref a],[(Str.ofString "reverse",.bool true)]⟩) P E s:=by
 have la:a<s.heap.objs.size:=Heap.lt_size ho
 have z1:us.toArray.size<=sizeLine:=by rw[List.size_toArray,sizeLine_eq];omega
 obtain⟨c1,h1⟩: ∃c,(s.heap.update a (Obj.mapSeq λ_=> #[])).get? a=some (seqObj "list" #[] c):=⟨_,get?_update_seq ho (λ_=> #[])⟩
 have h2:(((s.heap.update a (Obj.mapSeq λ_=> #[])).push (seqObj "tuple" us.toArray 0)).push (seqObj "list" #[] 0)).get? a=some (seqObj "list" #[] c1):=Heap.get?_push_of_some _ (Heap.get?_push_of_some _ h1)
 have kp: ∀c o,c≠a->s.heap.get? c=some o->(((s.heap.update a (Obj.mapSeq λ_=> #[])).push (seqObj "tuple" us.toArray 0)).push (seqObj "list" #[] 0)).get? c=some o:=λc o nc e=>
  Heap.get?_push_of_some _ (Heap.get?_push_of_some _ (by rw[Heap.get?_update_ne _ _ _ _ nc];exact e))
 rw[list_sort_rev];refine wpAny_bind (listItems_at ho rfl (wpAny_bind (listUpdate_at ho rfl ?_ z1 (Nat.zero_le _))))
 refine wpAny_bind (seqEpoch_at h1 rfl (wpAny_bind (wpAny_newTuple ?_ (show us.length<=_ by rw[sizeLine_eq];omega))))
 refine wpAny_bind (wpAny_newList (wpAny_holding ?_) (Nat.zero_le _))
 show wpAny (model prog w) A _ P E {s with heap:=((s.heap.update a (Obj.mapSeq λ_=> #[])).push (seqObj "tuple" us.toArray 0)).push (seqObj "list" #[] 0)}
 rw[if_pos rfl];refine wpAny_bind (wpAny_rule ?_)
 dsimp only;have er:(us.toArray.zip us.toArray).reverse=us.reverse.toArray.zip us.reverse.toArray:=by
  apply Array.toList_inj.mp
  simp[nq]
 rw[if_pos rfl,er]
 by_cases hs:us.toArray.size<2
 ·rw[if_pos hs,if_pos hs]
  refine wpAny_bind (wpAny_pure ?_)
  rw[StateT.run_pure];refine wpAny_bind (wpAny_pure ?_)
  dsimp only;have ea:(Array.map (λx=>x.2) (us.reverse.toArray.zip us.reverse.toArray)).reverse=us.toArray:=by
   apply Array.toList_inj.mp
   simp[List.map_snd_zip]
  refine wpAny_bind (seqEpoch_at h2 rfl (wpAny_bind (listUpdate_at h2 rfl ?_ (Nat.zero_le _) ?_)))
  ·simp only[bne_self_eq_false,Bool.false_eq_true,if_false]
   refine wpAny_pure ?_
   have:=few (by simpa using hs)
   show P _ {s with heap:=sortedHeap s.heap a us (Array.map (λx=>x.2) (us.reverse.toArray.zip us.reverse.toArray)).reverse}
   rw[ea];exact this
  ·show(Array.map (λx=>x.2) (us.reverse.toArray.zip us.reverse.toArray)).reverse.size<=_
   rw[ea];exact Nat.le_succ_of_le z1
 ·rw[if_neg hs,if_neg hs]
  have h2':2<=us.length:=by simpa using hs
  refine wpAny_bind (wpAny_mono (many h2' _ kp) (λκ t ⟨et,ht⟩=>?_) λ_ _ x=>x.elim)
  subst et;refine wpAny_bind (wpAny_mono (kat_run (ks:=us.reverse) (vs:=us.reverse) (G:=λp t'=>t'=_/\P (.done (.ret .none)) {s with heap:=sortedHeap s.heap a us ((List.toArray (p.toList.map λi=>us.reverse.getD i Value.none)).reverse)})
   (Q:=λst t'=>t'=_/\failedOf st=none/\ ∃p:Array Nat,p.size=us.length/\(arrOf st).map (·.2)=List.toArray (p.toList.map λi=>us.reverse.getD i Value.none)/\P (.done (.ret .none)) {s with heap:=sortedHeap s.heap a us ((List.toArray (p.toList.map λi=>us.reverse.getD i Value.none)).reverse)})
   rfl (by rw[List.length_reverse];exact h2') (by rw[List.length_reverse];exact hz) (λp st t' a1 a2 a3 a4=>⟨a4.1,a3,p,a1.trans List.length_reverse,kat_snds rfl a2,a4.2⟩) (by rw[List.length_reverse];exact ht)) (λr t' hr=>?_) λ_ _ x=>x)
  obtain⟨u,st⟩:=r
  obtain⟨e1,hf,p,hp,ho',hP⟩:=hr
  subst e1;dsimp only at hf ho'⊢;rw[ho',hf];have zz:((List.toArray (p.toList.map λi=>us.reverse.getD i Value.none)).reverse).size<=sizeLine:=by rw[Array.size_reverse,List.size_toArray,List.length_map,Array.length_toList,hp,sizeLine_eq];omega
  refine wpAny_bind (seqEpoch_at h2 rfl (wpAny_bind (listUpdate_at h2 rfl ?_ (Nat.zero_le _) (Nat.le_succ_of_le zz))))
  simp only[bne_self_eq_false,Bool.false_eq_true,if_false];exact wpAny_pure hP
theorem rH {T:String}{r:Addr}{us:List Value}{P:Nat->Value->Prop}{OK:Heap->Prop}{Q:Value->Shared->Prop}{G:List Nat->Prop}(src:KdlSrc prog w T r d us.length P OK)(hP: ∀i v,i<us.length->P i v->us[i]? =some v)(calm:A.handled=none)(good:OK s.heap)(hz:us.length<64)
 (few:us.length<2->G (List.range us.length))
 (many:2<=us.length-> ∀(g:Heap) (tk:Nat),(∀c o,s.heap.get? c=some o->g.get? c=some o)->wpAny (model prog w) A.in1.in1 (keyKind' us.toArray) (λκ t=>t={s with heap:=g,toks:=tk}/\
   (kas_sort us.length).kasWp (kas_ask prog w A.in1.in1 κ us.reverse) (λp t'=>t'=t/\G p.toList) t) (λ_ _=>False) {s with heap:=g,toks:=tk})
 (fin: ∀(g:Heap) (tk a e:Nat) (ix:List Nat),(∀c o,s.heap.get? c=some o->g.get? c=some o)->s.heap.objs.size<=a->G ix->g.get? a=some (seqObj "list" (List.toArray (ix.map λi=>us.reverse.getD i Value.none)).reverse e)->Q (.ref a) {s with heap:=g,toks:=tk}):
 wpAny (model prog w) A (call (.builtin "sorted") [.ref r] [(Str.ofString "reverse",.bool true)]) Q E s:=by
 refine call_function_entry_kw kind_sorted plain_sorted entry_sorted (args_sorted_rev _ _) ?_
 unfold Builtin.«sorted»;refine wpAny_bind (m:=checkCount "sorted" 1 1 _) (wpAny_pure (wpAny_bind (mJ (A:=A.in1) src calm good (by rw[sizeLine_eq];omega) λg tk acc kg sg0 hacc=>?_)))
 have hus:acc.toList=us:=List.ext_getElem? λi=>by
  by_cases hi:i<us.length
  ·have h1:i<acc.size:=by rw[hacc.1];exact hi
   have e3:acc[i]? =some acc[i]:=Array.getElem?_eq_getElem h1
   rw[Array.getElem?_toList,e3,hP i _ hi (hacc.2 i _ e3)]
  ·have h1: ¬i<acc.toList.length:=by rw[Array.length_toList,hacc.1];exact hi
   rw[List.getElem?_eq_none (by omega),List.getElem?_eq_none (by omega)]
 rw[hus];have sg:s.heap.objs.size<=g.objs.size:=Nat.le_of_lt sg0
 refine wpAny_bind (wpAny_newList ?_ (by rw[sizeLine_eq];omega))
 have hL:(g.push (seqObj "list" us.toArray 0)).get? g.objs.size=some (seqObj "list" us.toArray 0):=Heap.get?_push_size _ rfl
 show wpAny _ _ _ _ _ {s with heap:=g.push (seqObj "list" us.toArray 0),toks:=tk}
 have end_: ∀ix:List Nat,G ix->Q (.ref g.objs.size) {s with heap:=sortedHeap (g.push (seqObj "list" us.toArray 0)) g.objs.size us (List.toArray (ix.map λi=>us.reverse.getD i Value.none)).reverse,toks:=tk}:=λix hG=>by
  obtain⟨e,he⟩:=sortedHeap_at (out:=(List.toArray (ix.map λi=>us.reverse.getD i Value.none)).reverse) hL
  refine fin _ tk g.objs.size e ix (λc u hu=>?_) sg hG he
  have lt:=Heap.lt_size (kg c u hu)
  rw[sortedHeap_old (Nat.ne_of_lt lt) (by rw[size_push'];exact Nat.lt_succ_of_lt lt)]
  exact Heap.get?_push_of_some _ (kg c u hu)
 refine wpAny_bind (wpAny_holding (wpAny_call_entry_kw slot_list_sort ⟨_,hL,rfl⟩ entry_list_sort (rm (P:=λf t=> ∃v,f=.done (.ret v)/\wpAny (model prog w) A.in1 (pure (PySem.Fin.done (.ret (Value.ref g.objs.size)))) (λf t=> ∃v,f=.done (.ret v)/\Q v t) E t) hL (by omega) (λh=>?_) (λh g' kg'=>?_)) (args_list_sort_rev _ _)))
 ·have e:=end_ (List.range us.length) (few h)
  rw[show(List.toArray ((List.range us.length).map λi=>us.reverse.getD i Value.none)).reverse=us.toArray from by
   apply Array.toList_inj.mp
   rw[Array.toList_reverse,show(List.range us.length).map (λi=>us.reverse.getD i Value.none)=us.reverse from List.ext_getElem? λi=>by
    by_cases hi:i<us.length
    ·simp[hi]
    ·simp[hi]]
   simp] at e
  exact⟨_,rfl,wpAny_pure ⟨_,rfl,e⟩⟩
 ·refine wpAny_mono (many h g' tk λc u hu=>kg' c u (Nat.ne_of_lt (Heap.lt_size (kg c u hu))) (Heap.get?_push_of_some _ (kg c u hu))) (λκ t ⟨et,ht⟩=>⟨et,?_⟩) λ_ _ x=>x
  rw[kat_ask_eq rfl] at ht⊢;exact kas_wp_mono ht λp t' ⟨e1,hG⟩=>⟨e1,_,rfl,wpAny_pure ⟨_,rfl,end_ _ hG⟩⟩
end
section
open PySem PySem.W PySem.Spec PyProof.Rows
theorem Paired.app {α β:Type}{F:α->β->Prop}: ∀ {a c:List α} {b d:List β},Paired F a b->Paired F c d->Paired F (a++c) (b++d)
 |_,_,_,_,.nil,h=>h
 |_,_,_,_,.cons x y,h=>.cons x (Paired.app y h)
theorem Paired.rev {α β:Type}{F:α->β->Prop}: ∀ {a:List α} {b:List β},Paired F a b->Paired F a.reverse b.reverse
 |_,_,.nil=>.nil
 |_,_,.cons x y=>by rw[List.reverse_cons,List.reverse_cons];exact Paired.app (Paired.rev y) (.cons x .nil)
variable {X:Cx}{aa:List (Addr×Obj)}{σ:St}{H:Hp}{s:Shared}{a:Addr}{us:List (List aS×V)}{kss:List (List Int)}{Q:VK}
theorem qF(hc:X.calm=true)(I:Inv X aa σ H s)(ha:Rd H a (.dT us))(hk:us.map (·.1)=kss.map iK)(hz:kss.length<64)(hne: ∀k∈kss,k≠[])
 (q: ∀l ys,H l=none->za H ys (aU aY kss.reverse).reverse->Q (.ref l) (aV H l (.lst ys))):wpAny (model X.prog X.w) X.A (call (.builtin "sorted") [.ref a] [(Str.ofString "reverse",.bool true)]) (EP X aa σ Q) X.xe s:=by
 obtain⟨z,lo,xs,rel,o,es,ep,d1,d2,d3,d4,d5,d6⟩:=kB I.hok ha
 have ky:=pe rel hk
 have lx:xs.length=kss.length:=by
  have:=lc ky
  simpa using this
 obtain⟨its,hits⟩: ∃its,its=xs.map λx=>Value.ref x.2.1:=⟨_,rfl⟩
 have li:its.length=kss.length:=by rw[hits,List.length_map,lx]
 have rv:Vals (xs.map λx=>V.ref x.2.1) its:=by rw[hits];exact kW xs
 have sz:es.size=its.length:=by rw[<-Array.length_toList,d4,List.length_map,li,lx]
 have raw:RawAt s.heap a es ep:=⟨o,d1,d2,d3⟩
 have gi: ∀i,i<kss.length-> ∃(b:Addr) (o:Obj) (ts:List Value) (n:Nat),its.getD i Value.none=.ref b/\s.heap.get? b=some o/\o.cls=.type "tuple"/\o.data=.seq ts.toArray n/\i4 ts (kss.getD i []):=λi hi=>by
  obtain⟨b,h1,h2⟩:=ji ky hi
  have r1:=dn rv i
  rw[h1] at r1;obtain⟨ts,r',⟨o,ho,hc,n,hd⟩,_⟩:=I.tuple (.inl (.inl h2))
  exact⟨b,o,ts,n,r1,ho,hc,hd,qY r'⟩
 have kyr:za H (xs.map λx=>V.ref x.2.1).reverse kss.reverse:=Paired.rev ky
 have rvr:Vals (xs.map λx=>V.ref x.2.1).reverse its.reverse:=Paired.rev rv
 have gir: ∀i,i<kss.length-> ∃(b:Addr) (o:Obj) (ts:List Value) (n:Nat),its.reverse.getD i Value.none=.ref b/\s.heap.get? b=some o/\o.cls=.type "tuple"/\o.data=.seq ts.toArray n/\i4 ts (kss.reverse.getD i []):=λi hi=>by
  obtain⟨b,h1,h2⟩:=ji kyr (i:=i) (by rw[List.length_reverse];exact hi)
  have r1:=dn rvr i
  rw[h1] at r1;obtain⟨ts,r',⟨o,ho,hc,n,hd⟩,_⟩:=I.tuple (.inl (.inl h2))
  exact⟨b,o,ts,n,r1,ho,hc,hd,qY r'⟩
 have kt: ∀(g:Heap),(∀c o,s.heap.get? c=some o->g.get? c=some o)-> ∀(l:List Value) (ms:List (List Int)),l.length=ms.length->(∀i,i<ms.length-> ∃(b:Addr) (o:Obj) (ts:List Value) (n:Nat),l.getD i Value.none=.ref b/\s.heap.get? b=some o/\o.cls=.type "tuple"/\o.data=.seq ts.toArray n/\i4 ts (ms.getD i []))->(∀k∈ms,k≠[])->
  ∃fs,KatTups g l fs/\fs.length=l.length/\ ∀v∈fs,∃i t,v=Value.int i t:=by
  intro g kg l
  induction l with
  |nil=>intro ms _ _ _;exact⟨[],.nil,rfl,λ_ h=>nomatch h⟩
  |cons v l ih=>
   intro ms hl hg hk;cases ms with
   |nil=>cases hl
   |cons m ms=>
    obtain⟨fs,f1,f2,f3⟩:=ih ms (by simpa using hl) (λi hi=>by simpa using hg (i+1) (by simpa using hi)) λk hk'=>hk k (by simp[hk'])
    obtain⟨b,o,ts,n,g1,g2,g3,g4,g5⟩:=hg 0 (by simp)
    simp[List.getD] at g1 g5;subst g1;cases m with
    |nil=>exact absurd rfl (hk [] (by simp))
    |cons x xs=>
     cases g5 with
     |cons y1 y2=>
      obtain⟨t,rfl⟩:=y1
      refine⟨_,KatTups.cons (kg _ _ g2) g3 g4 (by simp;rfl) f1,by simp[f2],λv hv=>?_⟩
      rcases List.mem_cons.mp hv with rfl|hv
      ·exact⟨_,_,rfl⟩
      ·exact f3 v hv
 refine rH (us:=its) (G:=λix=>(∀i∈ix,i<kss.length)/\ix.map (λi=>kss.reverse.getD i [])=aU aY kss.reverse) (sz▸ut (es:=es) (ep:=ep) lo) (λi v hi hv=>?_) (I.ok.hd hc) raw (by omega) (λfew=>⟨λi hi=>?_,?_⟩) (λh2 g tk kg=>?_) (λg tk p e ix kg hp hG hg=>?_)
 ·obtain⟨e,h1,rfl⟩:=hv
  rw[<-Array.getElem?_toList,d4,List.getElem?_map] at h1;obtain⟨x,h2,rfl⟩:=Option.map_eq_some_iff.mp h1
  rw[hits,List.getElem?_map,h2];rfl
 ·rw[List.mem_range] at hi;omega
 ·rw[li,<-List.length_reverse (as:=kss),dG,cD (by rw[List.length_reverse];omega)]
 ·obtain⟨fs,f1,f2,f3⟩:=kt g kg its kss li gi hne
  refine kat_kind (T:=.type "int") f1 (by omega) (λv hv=>?_) (by rfl) ⟨rfl,?_⟩
  ·obtain⟨i,t,rfl⟩:=f3 v hv;exact Looks.now
  ·rw[li]
   refine iZ (b:=λi j=>aY (kss.reverse.getD i []) (kss.reverse.getD j [])) (rj mX _) (by omega) (λi j C hi hj hC=>?_) λp P S=>⟨rfl,?_,?_⟩
   ·obtain⟨b1,o1,ts1,n1,x1,x2,x3,x4,x5⟩:=gir i hi
    obtain⟨b2,o2,ts2,n2,y1,y2,y3,y4,y5⟩:=gir j hj
    unfold kas_ask;rw[x1,y1];refine kat_lt (kg _ _ x2) x4 (kg _ _ y2) y4 ?_
    refine jv 0 x5 y5 ?_ hC
    have z1:=Paired.length x5
    have z2:=Paired.length y5
    simp[z1,z2]
   ·intro i hi
    have:=P.perm.mem_iff.mp (Array.mem_toList_iff.mp hi)
    simpa using this
   ·rw[<-List.length_reverse (as:=kss)] at P S;exact cZ mX P S
 ·have kp:=lJ kyr ix (λi hi=>by rw[List.length_reverse];exact hG.1 i hi)
  rw[hG.2] at kp;have kp:za H _ (aU aY kss.reverse).reverse:=Paired.rev kp
  have ll:(aU aY kss.reverse).length=kss.length:=(br (lt:=aY) kss.reverse).length_eq.trans List.length_reverse
  refine⟨.ref p,_,I.laid (t':=tk) kg hp (show ObjOk X.prog X.w _ g _ (.lst (ix.map λi=>(xs.map λx=>V.ref x.2.1).reverse.getD i .non).reverse) from⟨?_,(ix.map λi=>its.reverse.getD i Value.none).reverse,e,Paired.rev (fu rvr ix),by rw[hg,List.reverse_toArray]⟩),rfl,q _ _ (I.hok.fresh hp) kp⟩
  rw[lc kp,List.length_reverse,ll,sizeLine_eq];omega
variable {c:Ct}{k2:Kd}{o:Expr}{td:TE}{fo:FE}{n:Nat}{pos p kp kp':Pos}
theorem xR(hc:X.calm=true)(ho:PE X o td)(hm:X.mg "sorted"=none)(hg:Gl X "sorted":=by rfl)(hv:bootBuiltins "sorted"=some (.builtin "sorted"):=by kernel_rfl)
 (he:starEach [o] X.env=(false,eval o X.env)::starEach [] X.env:=by rfl):PE X (.Call (.Name "sorted" p) [o] [⟨some "reverse",.Constant (.bool true) n kp',kp⟩] pos) (En (λxs H1 Q=> ∃(a:Addr) (us:List (List aS×V)) (kss:List (List Int)),xs=[.ref a]/\Rd H1 a (.dT us)/\us.map (·.1)=kss.map iK/\kss.length<64/\(∀k∈kss,k≠[])/\
   ∀l ys,H1 l=none->za H1 ys (aU aY kss.reverse).reverse->Q (.ref l) (aV H1 l (.lst ys))) (By td CP)):=by
 intro aa s σ H Q I h;refine wpAny_Call_Name_kw (iD I hg hm hv ?_ (by decide) (by decide))
 refine callWith_kw (aZ ((a8 ho bJ he) pos aa s σ H _ I h) λvs s1 ⟨ws,H1,I1,r1,q1⟩=>?_) (by rw[he];rfl) (by rw[he];rfl)
 obtain⟨a,us,kss,e,ha,hk,hz,hne,q⟩:=q1
 subst e;obtain⟨u,rfl,rx⟩:=dU r1
 cases rx
 refine kws_cons (aZ (Bo aa s1 σ H1 (λv H'=>v=.bl true/\H'=H1) I1 ⟨rfl,rfl⟩) λv s2 hq_=>?_)
 obtain⟨x,H2,I2,r2,e1,e2⟩:=hq_
 subst e1 e2;cases r2
 exact kws_nil (qF hc I2 ha hk hz hne q)
def Eg(fo:FE):FE:=λρ=>((fo ρ).bind vp).bind λkvs=>(intKs kvs).bind λkss=>if kss.length<64/\ ∀k∈kss,k≠[] then some (.lst ((aU aY kss.reverse).reverse.map nR)) else none
theorem zw(hcm:X.calm=true)(hm:X.mg "sorted"=none)(ho:DP X c k2 o fo)(hg:Gl X "sorted":=by rfl)(hv:bootBuiltins "sorted"=some (.builtin "sorted"):=by kernel_rfl)
 (he:starEach [o] X.env=(false,eval o X.env)::starEach [] X.env:=by rfl):DP X c .n (.Call (.Name "sorted" p) [o] [⟨some "reverse",.Constant (.bool true) n kp',kp⟩] pos) (Eg fo):=λhid ρ=>
 PE.imp (xR hcm (ho hid ρ) hm hg hv he) λσ H Q hq_=>by
  obtain⟨sr,d,hd,q⟩:=hq_
  obtain⟨kvs,e0,hd⟩:=Option.bind_eq_some_iff.mp hd
  obtain⟨d0,e1,e0⟩:=Option.bind_eq_some_iff.mp e0
  obtain⟨kss,e2,hd⟩:=Option.bind_eq_some_iff.mp hd
  split at hd
  ·rename_i hz
   cases hd
   refine⟨sr,_,e1,λx H1 s1 r1=>?_⟩
   obtain⟨a,o',us,rfl,h1,h2⟩:=i5 (RK.b k2 r1 λa n=>sr.fresh n) e0
   exact⟨a,us,kss,rfl,.inr ⟨o',bt _ _ _ _ h1⟩,by rw[h2.1];exact gR e2,hz.1,hz.2,λl ys hl hy=>q _ _ (s1.trans (aC hl _)) (c8 hl s1 (gH (sr.ext s1).ht hy))⟩
  ·cases hd
end
section
variable {X:Cx}{c:Ct}{k2:Kd}{o:Expr}{fo:FE}{pos p:Pos}
def ED(fo:FE):FE:=λρ=>((fo ρ).bind vp).bind λkvs=>(intKs kvs).bind λkss=>if kss.length<64/\ ∀k∈kss,k≠[] then some (.lst ((aU aY kss).map nR)) else none
theorem Am(hcm:X.calm=true)(hm:X.mg "sorted"=none)(ho:DP X c k2 o fo)(hg:Gl X "sorted":=by rfl)(hv:bootBuiltins "sorted"=some (.builtin "sorted"):=by kernel_rfl)
 (he:starEach [o] X.env=(false,eval o X.env)::starEach [] X.env:=by rfl) (hpl:(backTo pos (starEach [] X.env)).any (·.1)=false:=by rfl):DP X c .n (.Call (.Name "sorted" p) [o] [] pos) (ED fo):=λhid ρ=>
 PE.imp (fC (i3 hcm) hg hm hv (a8 (ho hid ρ) bJ he) (by decide) (by decide) he hpl) λσ H Q hq_=>by
  obtain⟨sr,d,hd,q⟩:=hq_
  obtain⟨kvs,e0,hd⟩:=Option.bind_eq_some_iff.mp hd
  obtain⟨d0,e1,e0⟩:=Option.bind_eq_some_iff.mp e0
  obtain⟨kss,e2,hd⟩:=Option.bind_eq_some_iff.mp hd
  split at hd
  ·rename_i hz
   cases hd
   refine⟨sr,_,e1,λx H1 s1 r1=>?_⟩
   obtain⟨a,o',us,rfl,h1,h2⟩:=i5 (RK.b k2 r1 λa n=>sr.fresh n) e0
   exact⟨a,us,kss,rfl,.inr ⟨o',bt _ _ _ _ h1⟩,by rw[h2.1];exact gR e2,hz.1,hz.2,λl ys hl hy=>q _ _ (s1.trans (aC hl _)) (c8 hl s1 (gH (sr.ext s1).ht hy))⟩
  ·cases hd
end
section
variable {prog:Program}{w:World}{A:Around}{R:Result->Shared->Prop}{s:Shared}{kx vx t1 i1:Expr}{ifs1:List Expr}{scope:Scope}{pos:Pos}{it:Value}{env:Env}{D0:Addr}
theorem zZ:compTurn (.DictComp kx vx [⟨t1,i1,ifs1,0⟩] scope pos) 0 it (.ref D0) env=(do
 standAt i1.pos
 match <-pyNext it with
 |none=>pure (.done .next)
 |some v=>
  letOwnedTupleGo t1 it v
  assign t1 env v
  let ok <-g8 ifs1 env
  if ok=true then do
   (do
     let kv <-eval kx env
     let vv <-holding [kv] (eval vx env)
     standAt {kx.pos with endLine:=vx.pos.endLine,endCol:=vx.pos.endCol}
     holding [kv,vv] (dictSet D0 kv vv))
   again (.compLoop (.DictComp kx vx [⟨t1,i1,ifs1,0⟩] scope pos) 0 it (.ref D0) env)
  else again (.compLoop (.DictComp kx vx [⟨t1,i1,ifs1,0⟩] scope pos) 0 it (.ref D0) env)):=by rfl
theorem xU:lQ prog w A (.compLoop (.DictComp kx vx [⟨t1,i1,ifs1,0⟩] scope pos) 0 it (.ref D0) env) t1 ifs1 it env (uy prog w A kx vx D0 env) R:=by
 intro I turn n s h;have no: ∀ {E':Value->Shared->Prop} (x:Value) (s:Shared),False->E' x s:=λ_ _ z=>z.elim
 refine codeAny_loop rfl I (λn s hI=>?_) n h
 show wpAny _ A ((compTurn (.DictComp kx vx [⟨t1,i1,ifs1,0⟩] scope pos) 0 it (.ref D0) env).onRaise (λx=>do noteFrame x env;theTreesLotGoes x)) _ _ s
 refine wpAny_noted ?_
 rw[zZ];refine wpAny_bind (wpAny_standAt (wpAny_bind (wpAny_mono (turn n s hI) (λr s₁ h₁=>?_) no)))
 cases r with
 |none=>exact wpAny_pure h₁
 |some v=>
  refine wpAny_bind (wpAny_mono h₁ (λ_ s₁ h₁=>wpAny_bind (wpAny_mono h₁ (λ_ s₂ h₂=>wpAny_bind (wpAny_mono h₂ (λok s₃ h₃=>?_) no)) no)) no)
  cases ok with
  |false=>exact wpAny_pure ⟨rfl,h₃⟩
  |true=>exact wpAny_bind (wpAny_bind (wpAny_mono h₃ (λx s₄ h₄=>wpAny_bind (wpAny_holding (wpAny_mono h₄ (λy s₅ h₅=>wpAny_bind (wpAny_standAt (wpAny_holding (wpAny_mono h₅ (λ_ s₆ h₆=>wpAny_pure ⟨rfl,h₆⟩) no)))) no))) no))
end
def nQ(kvs:zn)(d:D):zn:=match d with
 | .tup [k,v]=>(match om k with
   |some ns=>lw kvs (iK ns) v
   |none=>kvs)
 |_=>kvs
def rh(ad:List D):zn:=ad.foldl nQ []
theorem yH(kvs:zn)(k:List aS)(d:D):(lw kvs k d).length<=kvs.length+1:=by
 unfold lw;split<;>simp
theorem yE(ad:List D):(rh ad).length<=ad.length:=by
 have: ∀(l:List D) (kvs:zn),(l.foldl nQ kvs).length<=kvs.length+l.length:=by
  intro l
  induction l with
  |nil=>intro kvs;exact Nat.le_refl _
  |cons d l ih=>
   intro kvs;have h1:=ih (nQ kvs d)
   have h2:(nQ kvs d).length<=kvs.length+1:=by
    unfold nQ;split
    ·split
     ·exact yH _ _ _
     ·exact Nat.le_succ _
    ·exact Nat.le_succ _
   rw[List.foldl_cons,List.length_cons];omega
 unfold rh;simpa using this ad []
def Fn(K:W.Frag):B4:=λ_ W o ad=> ∃us,o=.dT us/\KRt K W us (rh ad)
theorem Ee(K:W.Frag):ACm (Fn K):=⟨λs ⟨us,e,r⟩=>⟨us,e,r.1,r.2.mono s⟩,λ_ h=>h⟩
def wW(fk:ay->Option (List Int))(fv:FE):FA:=λρ=>(fk ρ).bind λns=>(fv ρ).bind λv=>if ns.length<=1000 then some [.tup [.tup (ns.map D.int),v]] else none
theorem lN: ∀ns:List Int,c5 (ns.map D.int)=some ns
 | []=>rfl
 |n::ns=>by rw[List.map_cons];unfold c5;rw[lN ns];rfl
theorem wc(ns:List Int):om (.tup (ns.map D.int))=some ns:=lN ns
theorem sv {X:Cx}{aa:List (Addr×Obj)}{σ:St}{H:Hp}{s:Shared}{a b:Addr}{A:Around}{E:Value->Shared->Prop}{r:Value}{v:V}{k:List aS}{kvs:List (List aS×V)}{Q:Unit->Shared->Prop}(hu:A.units+1<cLine)(I:Inv X aa σ H s)(e:H a=some (.dT kvs))(eb:H b=some (.tup (k.map kV)))(l:kvs.length<sizeLine)(rv:RelV v r)(h: ∀s',Inv X aa σ (aV H a (.dT (hZ kvs k v))) s'->Q () s'):
 wpAny (model X.prog X.w) A (dictSet a (.ref b) r) Q E s:=by
 obtain⟨z,hd,xs,rel,dd⟩:=ql I.hok e
 have hz:xs.length<=sizeLine:=by rw[<-PySem.Paired.length rel];exact z
 have hl:(hZ kvs k v).length<=sizeLine:=by have:=gQ kvs k v;omega
 refine wpAny_dictSet_heap (hsz:=hz) (show(tupleKind (bi X.prog X.w)).room A from Nat.lt_of_succ_lt hu) (jO I.hok eb) dd λh' dd' hs=>h _ ?_
 obtain⟨q,es,ep,hq,h2,h3,h4,_,h5⟩:=dd'
 refine oI I (by rw[e];exact True.intro) hs ⟨q,hq⟩ ⟨hl,hd,_,(rel.put k eb rv).keeps λc ys ec=>?_,q,es,ep,hq,h2,h3,h4,h5⟩
 rw[ax (Bn ec e (λz=>nomatch z))]
 exact ec
section
variable {Y:Cx}{c:Ct}{kx vx:Expr}{fk:ay->Option (List Int)}{fv:FE}{hid:aX}{D0:Addr}{L W:Hp}{ρ1:ay}
theorem wk(hxe:Y.xe=λ_ _=>False)(hu:Y.A.units+1<cLine)(hk:DK Y c kx fk)(hv:DP Y c .s vx fv)(hh:hid D0=true)(h00:c.H₀ D0=none)(nD:L D0=none):AR Y c hid D0 L W (Fn Y.K) (wW fk fv) (uy Y.prog Y.w Y.A kx vx D0 Y.env) ρ1:=by
 intro aa s σ H o ad zs Q I sr ac rp hz smL wv na hA hQ;unfold wW at hA;obtain⟨ns,e5,hA⟩:=Option.bind_eq_some_iff.mp hA
 obtain⟨y,e6,hA⟩:=Option.bind_eq_some_iff.mp hA
 split at hA
 ·cases hA
  obtain⟨us,rfl,kr⟩:=rp
  unfold uy;refine aZ (hxe▸hk hid ρ1 _ s σ H (λv H'=> ∃b,v=V.ref b/\Same H H'/\H' b=some (HO.tup (ns.map V.int))) I ⟨sr,_,e5,λb H' s' r=>⟨b,rfl,s',r⟩⟩) λkv s10 hq_=>?_
  obtain⟨z,H10,I10,rz,b,ez,sm10,hb⟩:=hq_
  subst ez;cases rz
  refine aZ (hxe▸hv hid ρ1 _ s10 σ H10 (λv H'=>Same H10 H'/\Rep Y.K (vw H' hid) v y) I10 ⟨sr.ext sm10,y,e6,λv H' s' r=>⟨s',r⟩⟩) λvv s11 hq_=>?_
  obtain⟨z,H11,I11,rz',sm11,rp11⟩:=hq_
  have sm:=sm10.trans sm11
  have a11:H11 D0=some (.dT us):=sm _ _ ac
  have hl:=yE ad
  have w11:Same (vw H hid) (vw H11 hid):=aw sm
  refine sv (k:=iK ns) hu I11 a11 (by rw[uH];exact sm11 _ _ hb) (by rw[kr.len];rw[List.length_singleton] at hz;omega) rz' λs12 I12=>?_
  have vv:vw (aV H11 D0 (.dT (hZ us (iK ns) z))) hid=vw H11 hid:=bS hh
  refine hQ s12 σ _ _ I12 ((sr.ext sm).write hh h00 na a11) aA ?_ (λb o e=>?_) ?_ na
  ·rw[vv]
   refine⟨_,rfl,?_⟩
   have:rh (ad++[.tup [.tup (ns.map D.int),y]])=lw (rh ad) (iK ns) y:=by unfold rh;rw[List.foldl_append,List.foldl_cons,List.foldl_nil];unfold nQ;simp only[wc]
   rw[this];exact KRt.put (iK ns) rp11 ⟨kr.1,kr.2.mono w11⟩
  ·rw[ax (aM e nD)];exact sm _ _ (smL _ _ e)
  ·rw[vv];exact w11
 ·cases hA
end
section
variable {X:Cx}{c:Ct}{kx vx t1 i1:Expr}{ifs1:List Expr}{scope:Scope}{pos pos' spos:Pos}{N':List Str}{m:Nat}{gi1:FA}{g1:FG}{p1:FT}{fk:ay->Option (List Int)}{fv:FE}{k:Kd}{x:Str}
theorem vB(hcalm:X.calm=true)(hu:X.A.units+1<cLine)(hT1:dO X.N.length g1)(hi:zo X c t1 i1 gi1)
 (hg1: ∀C s₀ H₀ ex,lv (ar X N' scope C s₀ H₀ ex) c t1 g1) (hp1: ∀C s₀ H₀ ex,mM (ar X N' scope C s₀ H₀ ex) c ifs1 p1) (he: ∀C s₀ H₀ ex,DK (ar X N' scope C s₀ H₀ ex) c kx fk) (hv: ∀C s₀ H₀ ex,DP (ar X N' scope C s₀ H₀ ex) c .s vx fv)
 (hk:scope.kind=.function) (hs:pY scope X.env.scope=true) (hn:qr X.N N' scope=true) (hm:N'.length-X.N.length=m) (hset: ∀x,foldedSetIterable i1 X.env x=pure x) (hid:aX) (ρ:ay):
 PE X (.DictComp kx vx [⟨t1,i1,ifs1,0⟩] scope pos) (Gu X c (Fn X.K) m gi1 g1 p1 (wW fk fv) hid ρ):=
 Di (make:=newDict) (ob:={cls:=.type "dict",dict:=none,data:=.dict #[]}) (o0:=.dT []) (TA:=λD0 env=>uy X.prog X.w X.A kx vx D0 env) (Ee X.K) (λh=>wpAny_newObj_type h) (λh hb=>p9 h hb) nofun (λL W=>⟨[],rfl,rfl,.nil⟩) hcalm hk hs hn hm hT1 hg1 hp1
  (λC s₀ H₀ ex hid D0 L W ρ0 d ρ1 nos e hh h00 nD=>wk (Y:=ar X N' scope C s₀ H₀ ex) rfl hu (he C s₀ H₀ ex) (hv C s₀ H₀ ex) hh h00 nD)
  (λC s₀ H₀ ex D0 it R=>xU) codeAny_compStart_dict rfl rfl hi hset hid ρ
def BN(i m:Nat)(gi1:FA)(g1:FG)(p1:FT)(A:FA):FS:=λρ=>match gi1 ρ with
 |some ds=>(match ka g1 p1 A (ρ++List.replicate m .no) ds with
  |some ys=>if ys.length<=1000 then .nx (ρ.set i (.ob (.dT (rh ys)))) else .no
  |none=>.no)
 |none=>.no
theorem ww(i:Nat)(hnd:X.N.Nodup)(hcalm:X.calm=true)(hu:X.A.units+1<cLine)(hT1:dO X.N.length g1)(hi:zo X c t1 i1 gi1)
 (hg1: ∀C s₀ H₀ ex,lv (ar X N' scope C s₀ H₀ ex) c t1 g1) (hp1: ∀C s₀ H₀ ex,mM (ar X N' scope C s₀ H₀ ex) c ifs1 p1) (he: ∀C s₀ H₀ ex,DK (ar X N' scope C s₀ H₀ ex) c kx fk) (hv: ∀C s₀ H₀ ex,DP (ar X N' scope C s₀ H₀ ex) c .s vx fv)
 (hk:scope.kind=.function:=by rfl) (hs:pY scope X.env.scope=true:=by kernel_rfl) (hn:qr X.N N' scope=true:=by kernel_rfl) (hm:N'.length-X.N.length=m:=by rfl) (hset: ∀x,foldedSetIterable i1 X.env x=pure x:=by intro _;rfl)
 (hi':X.N[i]? =some x:=by rfl) (hx:yt X.env.scope x:=by first|exact Or.inl rfl|exact Or.inr rfl) (hsw:swapsWith (.DictComp kx vx [⟨t1,i1,ifs1,0⟩] scope pos) (some (.Name x pos')) spos.line X.env=pure false:=by rfl)
 (hf:X.fn x=true\/X.env.scope.names.lookup x=some .local:=by first|exact .inl rfl|exact .inr rfl|assumption):
 DS X c k (.Assign [.Name x pos'] (.DictComp kx vx [⟨t1,i1,ifs1,0⟩] scope pos) spos) (BN i m gi1 g1 p1 (wW fk fv)):=λρ=>PS.imp (j5 hnd hi' hx (iH λhid=>vB hcalm hu hT1 hi hg1 hp1 he hv hk hs hn hm hset hid ρ) hsw hf) λD σ H hq_=>by
 obtain⟨hid,sr,q⟩:=hq_
 unfold BN at q;split at q
 ·rename_i ds e1
  split at q
  ·rename_i ys e2
   split at q
   ·rename_i hz
    refine⟨hid,sr,ds,ys,e1,e2,Nat.le_trans hz (by decide),λa H' o ha sm hx ac=>?_⟩
    obtain⟨us,rfl,kr⟩:=ac
    exact q _ _ (a7 hid a) (SR.setD (a:=a) (b:=.dT (rh ys)) (sr.hide sm ha hx) ⟨⟨bC,sr.fresh0 ha⟩,us,hx,kr.1,kr.2⟩ (sr.notOw (sr.fresh ha)) i) (A4 sm ha)
   ·exact q.elim
  ·exact q.elim
 ·exact q.elim
end
section
variable {X:Cx}{c:Ct}{k:Kd}{tg iter:Expr}{body:List Stmt}{pos:Pos}
theorem zK {f:FE}{g:FG}{tb:FS}(hp:PassesOwn (model X.prog X.w) X.A X.env X.xe)(hc:X.calm=true)(hi:QP X c iter f)(hg:lv X c tg g)(hb:rY X c k body tb)
 (hs: ∀x,foldedSetIterable iter X.env x=pure x):QS X c k (.For tg iter body [] pos) (fz (fG (c9 f)) g tb):=.of (dP hp hc (DIp.e (bH hi.dp)) hg hb hs)
end
section
variable {X:Cx}{c:Ct}{e1 e2 e3:Expr}{k1 k2 k3:Kd}{f g h:FE}{pos p1 p2 p3 p4 p5:Pos}{j j':Nat}
def Dx(s t:Str)(i j k:Int):Str:=(Dw s i j++t)++Str.ofString (toString k)
def zS(s t:Str):List D->Option D
 | [.int i,.int j,.int k]=>if i.natAbs.log2<1920/\j.natAbs.log2<1920/\k.natAbs.log2<1920/\(Str.empty++Str.ofString (toString i)).length<=sizeLine/\((Str.empty++Str.ofString (toString i))++s).length<=sizeLine/\(Dw s i j).length<=sizeLine/\(Dw s i j++t).length<=sizeLine/\(Dx s t i j k).length<=sizeLine then some (.str (Dx s t i j k)) else none
 |_=>none
theorem Ck {s t:Str}(h1:DP X c k1 e1 f)(h2:DP X c k2 e2 g)(h3:DP X c k3 e3 h):DP X c .s (.JoinedStr [.FormattedValue e1 (-1) none p1,.Constant (.str s) j p2,.FormattedValue e2 (-1) none p3,.Constant (.str t) j' p4,.FormattedValue e3 (-1) none p5] pos) (am (zS s t) (ab f (ab g (ab h aj)))):=λhid ρ aa st σ H Q I hq_=>by
 obtain⟨sr,d,hd,q⟩:=hq_
 obtain⟨ds,g0,d3⟩:=Option.bind_eq_some_iff.mp hd
 obtain⟨x,r1,d1,g1,rfl⟩:=dN g0
 obtain⟨y,r2,d2,g2,rfl⟩:=dN g1
 obtain⟨z,r3,d4,g3,rfl⟩:=dN g2
 cases g3
 unfold zS at d3;split at d3
 ·rename_i a b c' e
  injection e with e1 e
  injection e with e2 e
  injection e with e3 e
  subst e1 e2 e3;split at d3
  ·rename_i hz
   cases d3
   obtain⟨z1,z2,z6,z3,z4,z5,z7,z8⟩:=hz
   refine JoinedStr_many (joinParts_cons (FormattedValue_plain (aZ (h1 hid ρ aa st σ H (λv H'=>v=.int a/\Same H H') I ⟨sr,_,d1,λv H1 s1 r1=>⟨(RK.b k1 r1 λa n=>sr.fresh n).int,s1⟩⟩) λv s1 hq_=>?_)))
   obtain⟨w,H1,I1,r1,e1,s1'⟩:=hq_
   subst e1;obtain⟨t1,rfl⟩:=r1
   refine formatField_int_small z1 ⟨z3,?_⟩
   have I1':=I1.tok (s1.toks+1+1)
   refine joinParts_cons (aZ (rS aa _ σ H1 (λv H'=>v=.str s/\H'=H1) I1' ⟨rfl,rfl⟩) λv s2 hq_=>?_)
   obtain⟨w,H2,I2,r2,e2,e3⟩:=hq_
   subst e2 e3;obtain⟨t2,rfl⟩:=r2
   refine⟨z4,joinParts_consE (joinParts_cons (FormattedValue_plain (aZ (h2 hid ρ aa s2 σ H2 (λv H'=>v=.int b/\Same H2 H') I2 ⟨sr.ext s1',_,d2,λv H3 s3 r3=>⟨(RK.b k2 r3 λa n=>(sr.ext s1').fresh n).int,s3⟩⟩) λv s3 ⟨w,H3,I3,r3,e4,s3'⟩=>?_)))⟩
   subst e4;obtain⟨t3,rfl⟩:=r3
   refine formatField_int_small z2 ⟨z5,joinParts_consE ?_⟩
   have sr3:=sr.ext (s1'.trans s3')
   have I3':=I3.tok (s3.toks+1+1)
   refine joinParts_cons (aZ (rS aa _ σ H3 (λv H'=>v=.str t/\H'=H3) I3' ⟨rfl,rfl⟩) λv s4 hq_=>?_)
   obtain⟨w,H4,I4,r4,e5,e6⟩:=hq_
   subst e5 e6;obtain⟨t4,rfl⟩:=r4
   refine⟨z7,joinParts_consE (joinParts_cons (FormattedValue_plain (aZ (h3 hid ρ aa s4 σ H4 (λv H'=>v=.int c'/\Same H4 H') I4 ⟨sr3,_,d4,λv H5 s5 r5=>⟨(RK.b k3 r5 λa n=>sr3.fresh n).int,s5⟩⟩) λv s5 ⟨w,H5,I5,r5,e7,s5'⟩=>?_)))⟩
   subst e7;obtain⟨t5,rfl⟩:=r5
   refine formatField_int_small z6 ⟨z8,joinParts_nilE (joinParts_nil ?_ z8)⟩
   exact⟨.str (Dx s t a b c'),H5,I5.tok _,⟨_,rfl⟩,q _ H5 ((s1'.trans s3').trans s5') .str⟩
  ·cases d3
 ·cases d3
end
set_option maxHeartbeats 4000000
def gJ(i:Nat):Stmt:=PySem.Challenge.pw_rookborders_k87_tables_written.main.body.getD i (.Pass ⟨0,0,0,0⟩)
structure Bt(mg:Str->Option Value):Prop where
 b_abs:mg "abs"=none
 b_any:mg "any"=none
 b_enumerate:mg "enumerate"=none
 b_isinstance:mg "isinstance"=none
 b_len:mg "len"=none
 b_list:mg "list"=none
 b_max:mg "max"=none
 b_min:mg "min"=none
 b_range:mg "range"=none
 b_set:mg "set"=none
 b_sorted:mg "sorted"=none
 b_str:mg "str"=none
 b_tuple:mg "tuple"=none
theorem FH:(["square","rings","crosses","ring"]:List Str).Nodup:=by decide+kernel
theorem BX:(["found","grade","lean","many"]:List Str).Nodup:=by decide+kernel
theorem Fu:(["size","start","end","further"]:List Str).Nodup:=by decide+kernel
theorem EY:(["stand","a","b","rows","column","row"]:List Str).Nodup:=by decide+kernel
theorem Fy:(["stand","a","b","bars","heights","bar"]:List Str).Nodup:=by decide+kernel
theorem Ew:(["square","stand","a","b","rings","crosses","marked","column","row"]:List Str).Nodup:=by decide+kernel
theorem DN:(["square","stand","bars","a","b"]:List Str).Nodup:=by decide+kernel
theorem AM:(["square","crowd","stand","a","b","end"]:List Str).Nodup:=by decide+kernel
theorem D2:(["n","stands","bar","stand","height"]:List Str).Nodup:=by decide+kernel
theorem DZ:(["order","half","place","number"]:List Str).Nodup:=by decide+kernel
theorem ub:(["ones","others","right","up","x","y"]:List Str).Nodup:=by decide+kernel
theorem E3:(["cycles","leads","stand"]:List Str).Nodup:=by decide+kernel
theorem Bv:(["square","cycles","leads","found","stand","home","grade","lean"]:List Str).Nodup:=by decide+kernel
theorem wZ:(["square","found","division","grade","lean","many"]:List Str).Nodup:=by decide+kernel
theorem Bx:(["square","found","division","grade","lean"]:List Str).Nodup:=by decide+kernel
theorem E7:(["_law_found","_law_due","_law_handed","_law_text","_law_entry"]:List Str).Nodup:=by decide+kernel
theorem Ez:(["_law_found","_law_due","_law_handed","_law_text","_law_entry","_law_number"]:List Str).Nodup:=by decide+kernel
theorem El:(["_law_bag_here","_law_many","_law_wide","_law_found","_law_k","?_law_home","_law_home"]:List Str).Nodup:=by decide+kernel
section
variable {P:Program}{w:World}{K:W.Frag}{mg:Str->Option Value}{base:Heap}
abbrev cu:Stmt:=gJ 1
abbrev dH:Stmt:=gJ 2
abbrev iq:Stmt:=gJ 4
abbrev eJ:Stmt:=gJ 6
abbrev eN:Stmt:=gJ 8
abbrev fZ:Stmt:=gJ 9
abbrev j6:Stmt:=gJ 10
abbrev ip:Stmt:=gJ 11
abbrev ly:Stmt:=gJ 12
abbrev jX:Stmt:=gJ 13
abbrev ir:Stmt:=gJ 14
abbrev jB:Stmt:=gJ 15
abbrev fU:Stmt:=gJ 16
abbrev oT:Stmt:=gJ 18
abbrev eT:Stmt:=gJ 19
abbrev mz:Stmt:=gJ 20
abbrev fT:Stmt:=gJ 22
abbrev gE:Stmt:=gJ 23
abbrev o5:Stmt:=gJ 24
abbrev iM:Stmt:=gJ 25
abbrev oj:Stmt:=gJ 26
abbrev tQ:Stmt:=gJ 27
abbrev j4:Stmt:=gJ 28
abbrev ce:Stmt:=gJ 30
abbrev dI:Stmt:=gJ 31
abbrev pS:Stmt:=gJ 32
abbrev dA:Stmt:=gJ 33
abbrev sn:Stmt:=gJ 34
abbrev ik:Stmt:=gJ 36
abbrev jI:Stmt:=gJ 37
abbrev im:Stmt:=gJ 38
abbrev cU:Stmt:=gJ 41
abbrev iB:Stmt:=gJ 42
abbrev gL:Stmt:=gJ 43
abbrev iU:Stmt:=gJ 44
theorem sc_order_exchanged:FnScope ["order","one","other","numbers"] ["order","one","other"] (al cu):=⟨rfl,rfl,rfl,by decide+kernel,rfl,by decide+kernel,by decide+kernel⟩
def jh:FS:=
 aD (pK 3 (am rg (ab (ak 0) (aj))))
 (aD (gk (gT 2 (fW (fw 3 (ak 1)) (fW (fw 3 (ak 2)) (kT)))) (pu (bW (ab (au df (ak 0) (ak 2)) (ab (au df (ak 0) (ak 1)) (aj))))))
 (aT (am so (ab (mK 3) (aj)))))
def cw:List D->Option D:=dX .s 4 jh
theorem jw(B:Bt mg)(F:Df K mg "order_exchanged" cu ["order","one","other"]):Cl P w K mg base 1 "order_exchanged" ["order","one","other"] (bq K .s 3 cw):=by
 refine aH (k:=0) F sc_order_exchanged (by decide) rfl λ_ cdv A outer s H hid E hr=>?_
 exact(ai (lb 3 sc_order_exchanged.nd (jT js uk B.b_list (aL (af 0) bd) (hv:=by kernel_rfl)))
  (ai (oB (DP.ef (cm (ae (bg aQ bn (af 0) (af 2) (λ_ _=>rfl)) (ae (bg aQ bn (af 0) (af 1) (λ_ _=>rfl)) ah)))) (zD (n:=2) rfl (q9 (i6 3 (af 1)) (q9 (i6 3 (af 2)) AD))))
  (aq (aI (jT mY xX B.b_tuple (aL (f6 3) bd) (hv:=by kernel_rfl))))))
theorem sc_order_rounds:FnScope ["order","rounds","start","places"] ["order"] (al dH):=⟨rfl,rfl,rfl,by decide+kernel,rfl,by decide+kernel,by decide+kernel⟩
def mx:FS:=
 aD (pK 1 (eS (aj)))
 (aD (fz (fG (du (ab (am cI (ab (ak 0) (aj))) (aj)))) (gN 2) (aD (pK 3 (eS (ab (ak 2) (aj))))
 (aD (sR (cR (au Ff (au df (ak 0) (au df (mK 3) (qW (av (.int 1))))) (ak 2))) (nu (bN 3 1 Aq (fG (ab (au df (ak 0) (au df (mK 3) (qW (av (.int 1))))) (aj))))) 16)
 (iR (cR (au wQ (am xT (ab (mK 3) (aj))) (ak 2))) ((λρ=>(nu (bN 1 1 Aq (fG (ab (ak 3) (aj))))) (yk 3 ρ))) (skip)))))
 (Bg 1))
def dL:List D->Option D:=dX .n 4 mx
theorem lE(B:Bt mg)(F:Df K mg "order_rounds" dH ["order"]):Cl P w K mg base 1 "order_rounds" ["order"] (bq K .n 1 dL):=by
 refine aH (k:=0) F sc_order_rounds (by decide) rfl λ_ cdv A outer s H hid E hr=>?_
 exact(ai (lb 1 sc_order_rounds.nd (eG ah))
  (ai (dP PassesOwn.never rfl (DIp.e (bK B.b_range (ae (aO aK cA B.b_len (aL (af 0) bd) (hv:=by kernel_rfl)) ah))) (ao 2 sc_order_rounds.nd) (ai (lb 3 sc_order_rounds.nd (eG (ae (af 2) ah)))
  (ai (jz 16 PassesOwn.never (cc (yZ hr.units) BD (bg aQ bn (af 0) (bg aQ bn (f6 3) (hW ag) (λ_ _=>rfl)) (λ_ _=>rfl)) (af 2) (bG _)) (aq (kY (u8 3 nM gY PySem.F.slot_list_append PySem.F.type_list_append (DA.gf (ae (bg aQ bn (af 0) (bg aQ bn (f6 3) (hW ag) (λ_ _=>rfl)) (λ_ _=>rfl)) ah))))))
  (aq (f8 (cc (jN hr.units) nE (aO (vT rfl) A5 B.b_min (aL (f6 3) bd) (hv:=by kernel_rfl)) (af 2) (bG _)) (aq (Dk 3 (kY (u8 1 nM gY PySem.F.slot_list_append PySem.F.type_list_append (DA.gf (ae (af 3) ah)))))) cV)))))
  (aq (uT 1))))
theorem sc_lines_of:FnScope ["square","rings","crosses"] ["square"] (al iq):=⟨rfl,rfl,rfl,by decide+kernel,rfl,by decide+kernel,by decide+kernel⟩
def tK:FS:=
 aD (gk (gT 2 (fW (gN 1) (fW (gN 2) (kT)))) (pu (ak 0)))
 (aT (am (nF 1 dL) (ab (bz 1 (yf (ak 1)) (gN 3) (cY) (au yr (ak 2) (ak 3))) (aj))))
def dJ:List D->Option D:=dX .n 3 tK
theorem sO(B:Bt mg)(F:Df K mg "lines_of" iq ["square"])(dD:Cl P w K mg base 1 "order_rounds" ["order"] (bq K .n 1 dL)):Cl P w K mg base 2 "lines_of" ["square"] (bq K .n 1 dJ):=by
 refine aH (k:=1) F sc_lines_of (by decide) rfl λ_ cdv A outer s H hid E hr=>?_
 exact(ai (mn (DP.ef (af 0)) (bw (n:=2) rfl (aB (ao 1 sc_lines_of.nd) (aB (ao 2 sc_lines_of.nd) bu))))
  (aq (aI (aJ dD (hr.mono (by decide)) (ae (DP.toS (cs (N':=["square","rings","crosses","ring"]) rfl (aN (Nat.le_of_ble_eq_true rfl)) (DIp.b (vi (af 1))) (λ_ _ _ _=>(ao 3 FH)) (λ_ _ _ _=>be) (λ_ _ _ _=>(qo hr.units (af 2) (af 3))))) ah)))))
theorem lj:FnScope ["found"] ["found"] (al eJ):=⟨rfl,rfl,rfl,by decide+kernel,rfl,by decide+kernel,by decide+kernel⟩
def eU:FS:=
 aT (BK (kI (ak 0)) (au ig (av (.str " ")) (bz 3 (c9 (ak 0)) (gT 3 (fW (gN 1) (fW (gN 2) (fW (gN 3) (kT))))) (cY) (am (zS "," ",") (ab (ak 1) (ab (ak 2) (ab (ak 3) (aj))))))) (av (.str "none")))
def bf:List D->Option D:=dX .s 1 eU
theorem m6(B:Bt mg)(F:Df K mg "table_shown" eJ ["found"]):Cl P w K mg base 1 "table_shown" ["found"] (bq K .s 1 bf):=by
 refine aH (k:=0) F lj (by decide) rfl λ_ cdv A outer s H hid E hr=>?_
 exact(aq (aI (DU (by decide) (iQ (af 0)) (oO cH (cs (N':=["found","grade","lean","many"]) rfl (fI (aE (aN (Nat.le_of_ble_eq_true rfl)) (aE (aN (Nat.le_of_ble_eq_true rfl)) (aE (aN (Nat.le_of_ble_eq_true rfl)) bQ)))) (DIp.b (bH (af 0))) (λ_ _ _ _=>(bw (n:=3) rfl (aB (ao 1 BX) (aB (ao 2 BX) (aB (ao 3 BX) bu))))) (λ_ _ _ _=>be) (λ_ _ _ _=>(Ck (af 1) (af 2) (af 3))))) cH)))
theorem lV:FnScope ["size","start","end"] ["size","start","end"] (al eN):=⟨rfl,rfl,rfl,by decide+kernel,rfl,by decide+kernel,by decide+kernel⟩
def ni:FS:=
 aT (bz 1 (du (ab (au bj (au gg (ak 2) (ak 1)) (ak 0)) (aj))) (gN 3) (cY) (au bj (au bI (ak 1) (ak 3)) (ak 0)))
def bV:List D->Option D:=dX .n 3 ni
theorem m5(B:Bt mg)(F:Df K mg "places_from" eN ["size","start","end"]):Cl P w K mg base 1 "places_from" ["size","start","end"] (bq K .n 3 bV):=by
 refine aH (k:=0) F lV (by decide) rfl λ_ cdv A outer s H hid E hr=>?_
 exact(aq (aI (cs (N':=["size","start","end","further"]) rfl (aN (Nat.le_of_ble_eq_true rfl)) (DIp.b (bK B.b_range (ae (cz (gM (af 2) (af 1)) (af 0)) ah))) (λ_ _ _ _=>(ao 3 Fu)) (λ_ _ _ _=>be) (λ_ _ _ _=>(cz (bT (af 1) (af 3)) (af 0))))))
theorem mU:FnScope ["stand","a","b"] ["stand","a","b"] (al fZ):=⟨rfl,rfl,rfl,by decide+kernel,rfl,by decide+kernel,by decide+kernel⟩
def og:FS:=
 aT (am (nF 3 bV) (ab (am cI (ab (ak 0) (aj))) (ab (ak 1) (ab (ak 2) (aj)))))
def cr:List D->Option D:=dX .n 3 og
theorem oN(B:Bt mg)(F:Df K mg "columns_of" fZ ["stand","a","b"])(bA:Cl P w K mg base 1 "places_from" ["size","start","end"] (bq K .n 3 bV)):Cl P w K mg base 2 "columns_of" ["stand","a","b"] (bq K .n 3 cr):=by
 refine aH (k:=1) F mU (by decide) rfl λ_ cdv A outer s H hid E hr=>?_
 exact(aq (aI (aJ bA (hr.mono (by decide)) (ae (aO aK cA B.b_len (aL (af 0) bd) (hv:=by kernel_rfl)) (ae (af 1) (ae (af 2) ah))))))
theorem sy:FnScope ["stand","a","b"] ["stand","a","b"] (al j6):=⟨rfl,rfl,rfl,by decide+kernel,rfl,by decide+kernel,by decide+kernel⟩
def wI:FS:=
 aT (am (nF 3 bV) (ab (am cI (ab (ak 0) (aj))) (ab (au df (ak 0) (ak 1)) (ab (au df (ak 0) (ak 2)) (aj)))))
def fj:List D->Option D:=dX .n 3 wI
theorem vS(B:Bt mg)(F:Df K mg "rows_of" j6 ["stand","a","b"])(bA:Cl P w K mg base 1 "places_from" ["size","start","end"] (bq K .n 3 bV)):Cl P w K mg base 2 "rows_of" ["stand","a","b"] (bq K .n 3 fj):=by
 refine aH (k:=1) F sy (by decide) rfl λ_ cdv A outer s H hid E hr=>?_
 exact(aq (aI (aJ bA (hr.mono (by decide)) (ae (aO aK cA B.b_len (aL (af 0) bd) (hv:=by kernel_rfl)) (ae (bg aQ bn (af 0) (af 1) (λ_ _=>rfl)) (ae (bg aQ bn (af 0) (af 2) (λ_ _=>rfl)) ah))))))
theorem sc_cells_of:FnScope ["stand","a","b","rows"] ["stand","a","b"] (al ip):=⟨rfl,rfl,rfl,by decide+kernel,rfl,by decide+kernel,by decide+kernel⟩
def sV:FS:=
 aD (bc 3 (am (nF 3 fj) (ab (ak 0) (ab (ak 1) (ab (ak 2) (aj))))))
 (aT (am oF (ab (mE 2 (jr (am (nF 3 cr) (ab (ak 0) (ab (ak 1) (ab (ak 2) (aj)))))) (gN 4) (cY) (jr (ak 3)) (gN 5) (cY) (bW (ab (ak 4) (ab (ak 5) (aj))))) (aj))))
def iE:List D->Option D:=dX .n 4 sV
theorem tJ(B:Bt mg)(F:Df K mg "cells_of" ip ["stand","a","b"])(dm:Cl P w K mg base 2 "rows_of" ["stand","a","b"] (bq K .n 3 fj))(bO:Cl P w K mg base 2 "columns_of" ["stand","a","b"] (bq K .n 3 cr)):Cl P w K mg base 3 "cells_of" ["stand","a","b"] (bq K .n 3 iE):=by
 refine aH (k:=2) F sc_cells_of (by decide) rfl λ_ cdv A outer s H hid E hr=>?_
 exact(ai (aR 3 sc_cells_of.nd (DP.toS (aJ dm (hr.mono (by decide)) (ae (af 0) (ae (af 1) (ae (af 2) ah))))))
  (aq (aI (aO rC vt B.b_sorted (aL (jo (N':=["stand","a","b","rows","column","row"]) rfl 5 (aN (Nat.le_of_ble_eq_true rfl)) (vX (Nat.le_of_ble_eq_true rfl)) (aN (Nat.le_of_ble_eq_true rfl)) (DIp.b (cx (DP.toS (aJ bO (hr.mono (by decide)) (ae (af 0) (ae (af 1) (ae (af 2) ah))))))) (λ_ _ _ _=>(ao 4 EY)) (λ_ _ _ _=>be) (λ_ _ _ _=>(cx (af 3))) (λ_ _ _ _=>(ao 5 EY)) (λ_ _ _ _=>be) (λ_ _ _ _=>(cm (ae (af 4) (ae (af 5) ah))))) bd) (hv:=by kernel_rfl)))))
theorem vq:FnScope ["stand","a","b"] ["stand","a","b"] (al ly):=⟨rfl,rfl,rfl,by decide+kernel,rfl,by decide+kernel,by decide+kernel⟩
def xJ:FS:=
 aT (am (nF 3 cw) (ab (ak 0) (ab (ak 1) (ab (ak 2) (aj)))))
def lz:List D->Option D:=dX .s 3 xJ
theorem zb(B:Bt mg)(F:Df K mg "behind" ly ["stand","a","b"])(cC:Cl P w K mg base 1 "order_exchanged" ["order","one","other"] (bq K .s 3 cw)):Cl P w K mg base 2 "behind" ["stand","a","b"] (bq K .s 3 lz):=by
 refine aH (k:=1) F vq (by decide) rfl λ_ cdv A outer s H hid E hr=>?_
 exact(aq (aI (aJ cC (hr.mono (by decide)) (ae (af 0) (ae (af 1) (ae (af 2) ah))))))
theorem sc_is_bare:FnScope ["stand","a","b","bars","heights"] ["stand","a","b"] (al jX):=⟨rfl,rfl,rfl,by decide+kernel,rfl,by decide+kernel,by decide+kernel⟩
def wz:FS:=
 aD (bc 3 (Bb (am (nF 3 cr) (ab (ak 0) (ab (ak 1) (ab (ak 2) (aj))))) (Fg (av (.int 1))) F3))
 (aD (bc 4 (Bb (am (nF 3 fj) (ab (ak 0) (ab (ak 1) (ab (ak 2) (aj))))) (Fg (av (.int 1))) F3))
 (aT (wN (mh (cR (am zX (ab (bz 1 (jr (ak 3)) (gN 5) (cY) (au (DQ false) (au df (ak 0) (ak 5)) (ak 4))) (aj))))))))
def jF:List D->Option D:=dX .s 5 wz
theorem vN(B:Bt mg)(F:Df K mg "is_bare" jX ["stand","a","b"])(bO:Cl P w K mg base 2 "columns_of" ["stand","a","b"] (bq K .n 3 cr))(dm:Cl P w K mg base 2 "rows_of" ["stand","a","b"] (bq K .n 3 fj)):Cl P w K mg base 3 "is_bare" ["stand","a","b"] (bq K .s 3 jF):=by
 refine aH (k:=2) F sc_is_bare (by decide) rfl λ_ cdv A outer s H hid E hr=>?_
 exact(ai (aR 3 sc_is_bare.nd (DP.toS (xb (aJ bO (hr.mono (by decide)) (ae (af 0) (ae (af 1) (ae (af 2) ah)))) (uh ag) tY)))
  (ai (aR 4 sc_is_bare.nd (DP.toS (xb (aJ dm (hr.mono (by decide)) (ae (af 0) (ae (af 1) (ae (af 2) ah)))) (uh ag) tY)))
  (aq (aI (yp (aO (p8 rfl) yc B.b_any (aL (cs (N':=["stand","a","b","bars","heights","bar"]) rfl (aN (Nat.le_of_ble_eq_true rfl)) (DIp.b (cx (af 3))) (λ_ _ _ _=>(ao 5 Fy)) (λ_ _ _ _=>be) (λ_ _ _ _=>(jW (yW hr.units) (y0 false) (bg aQ bn (af 0) (af 5) (λ_ _=>rfl)) (af 4) (by with_unfolding_all rfl)))) bd) (hv:=by kernel_rfl)))))))
theorem sc_is_clear:FnScope ["square","stand","a","b","rings","crosses","marked"] ["square","stand","a","b"] (al ir):=⟨rfl,rfl,rfl,by decide+kernel,rfl,by decide+kernel,by decide+kernel⟩
def sT:FS:=
 aD (gk (gT 2 (fW (gN 4) (fW (gN 5) (kT)))) (pu (ak 0)))
 (aD (bc 6 (bz 2 (jr (am (nF 3 iE) (ab (ak 1) (ab (ak 2) (ab (ak 3) (aj)))))) (gT 2 (fW (gN 7) (fW (gN 8) (kT)))) (cY) (au (DQ false) (ak 8) (bW (ab (au df (ak 4) (ak 7)) (ab (au df (ak 5) (ak 7)) (aj)))))))
 (aT (wN (mh (cR (am zX (ab (ak 6) (aj))))))))
def iL:List D->Option D:=dX .s 7 sT
theorem rV(B:Bt mg)(F:Df K mg "is_clear" ir ["square","stand","a","b"])(iI:Cl P w K mg base 3 "cells_of" ["stand","a","b"] (bq K .n 3 iE)):Cl P w K mg base 4 "is_clear" ["square","stand","a","b"] (bq K .s 4 iL):=by
 refine aH (k:=3) F sc_is_clear (by decide) rfl λ_ cdv A outer s H hid E hr=>?_
 exact(ai (mn (DP.ef (af 0)) (bw (n:=2) rfl (aB (ao 4 sc_is_clear.nd) (aB (ao 5 sc_is_clear.nd) bu))))
  (ai (zE 6 (N':=["square","stand","a","b","rings","crosses","marked","column","row"]) rfl sc_is_clear.nd (fI (aE (aN (Nat.le_of_ble_eq_true rfl)) (aE (aN (Nat.le_of_ble_eq_true rfl)) bQ))) (DIp.b (cx (DP.toS (aJ iI (hr.mono (by decide)) (ae (af 1) (ae (af 2) (ae (af 3) ah))))))) (λ_ _ _ _=>(bw (n:=2) rfl (aB (ao 7 Ew) (aB (ao 8 Ew) bu)))) (λ_ _ _ _=>be) (λ_ _ _ _=>(jW (yW hr.units) (y0 false) (af 8) (cm (ae (bg aQ bn (af 4) (af 7) (λ_ _=>rfl)) (ae (bg aQ bn (af 5) (af 7) (λ_ _=>rfl)) ah))) (by with_unfolding_all rfl))))
  (aq (aI (yp (aO (p8 rfl) yc B.b_any (aL (af 6) bd) (hv:=by kernel_rfl)))))))
theorem sZ:FnScope ["square","stand","a","b"] ["square","stand","a","b"] (al jB):=⟨rfl,rfl,rfl,by decide+kernel,rfl,by decide+kernel,by decide+kernel⟩
def vF:FS:=
 aT (wN (jM (cR (am (nF 3 jF) (ab (ak 1) (ab (ak 2) (ab (ak 3) (aj)))))) (cR (am (nF 4 iL) (ab (ak 0) (ab (ak 1) (ab (ak 2) (ab (ak 3) (aj)))))))))
def kh:List D->Option D:=dX .s 4 vF
theorem v4(B:Bt mg)(F:Df K mg "is_step" jB ["square","stand","a","b"])(j1:Cl P w K mg base 3 "is_bare" ["stand","a","b"] (bq K .s 3 jF))(iN:Cl P w K mg base 4 "is_clear" ["square","stand","a","b"] (bq K .s 4 iL)):Cl P w K mg base 5 "is_step" ["square","stand","a","b"] (bq K .s 4 kh):=by
 refine aH (k:=4) F sZ (by decide) rfl λ_ cdv A outer s H hid E hr=>?_
 exact(aq (aI (pQ (aJ j1 (hr.mono (by decide)) (ae (af 1) (ae (af 2) (ae (af 3) ah)))) (sA (aJ iN (hr.mono (by decide)) (ae (af 0) (ae (af 1) (ae (af 2) (ae (af 3) ah)))))))))
theorem sc_steps_from:FnScope ["square","stand","bars"] ["square","stand"] (al fU):=⟨rfl,rfl,rfl,by decide+kernel,rfl,by decide+kernel,by decide+kernel⟩
def pF:FS:=
 aD (bc 2 (Ga (am cI (ab (ak 1) (aj)))))
 (aT (mE 2 (jr (ak 2)) (gN 3) (cY) (jr (ak 2)) (gN 4) (jM (cR (au Ff (ak 3) (ak 4))) (kI (am (nF 4 kh) (ab (ak 0) (ab (ak 1) (ab (ak 3) (ab (ak 4) (aj)))))))) (bW (ab (ak 3) (ab (ak 4) (ab (am (nF 3 lz) (ab (ak 1) (ab (ak 3) (ab (ak 4) (aj))))) (aj)))))))
def fX:List D->Option D:=dX .n 3 pF
theorem oS(B:Bt mg)(F:Df K mg "steps_from" fU ["square","stand"])(mf:Cl P w K mg base 2 "behind" ["stand","a","b"] (bq K .s 3 lz))(jZ:Cl P w K mg base 5 "is_step" ["square","stand","a","b"] (bq K .s 4 kh)):Cl P w K mg base 6 "steps_from" ["square","stand"] (bq K .n 2 fX):=by
 refine aH (k:=5) F sc_steps_from (by decide) rfl λ_ cdv A outer s H hid E hr=>?_
 exact(ai (aR 2 sc_steps_from.nd (DP.toS (mQ rfl B.b_list B.b_range (aO aK cA B.b_len (aL (af 1) bd) (hv:=by kernel_rfl)))))
  (aq (aI (jo (N':=["square","stand","bars","a","b"]) rfl 4 (aN (Nat.le_of_ble_eq_true rfl)) (vX (Nat.le_of_ble_eq_true rfl)) (aN (Nat.le_of_ble_eq_true rfl)) (DIp.b (cx (af 2))) (λ_ _ _ _=>(ao 3 DN)) (λ_ _ _ _=>be) (λ_ _ _ _=>(cx (af 2))) (λ_ _ _ _=>(ao 4 DN)) (λ_ _ _ _=>(k8 (DW.dt (tM (cc (yZ hr.units) BD (af 3) (af 4) (bG _)) (oy (iQ (aJ jZ (hr.mono (by decide)) (ae (af 0) (ae (af 1) (ae (af 3) (ae (af 4) ah))))))))))) (λ_ _ _ _=>(cm (ae (af 3) (ae (af 4) (ae (aJ mf (hr.mono (by decide)) (ae (af 1) (ae (af 3) (ae (af 4) ah)))) ah)))))))))
theorem xa:FnScope ["one","other"] ["one","other"] (al oT):=⟨rfl,rfl,rfl,by decide+kernel,rfl,by decide+kernel,by decide+kernel⟩
def AH:FS:=
 aT (Cb 0 1)
def k6:List D->Option D:=dX .n 2 AH
theorem zL(B:Bt mg)(F:Df K mg "added" oT ["one","other"]):Cl P w K mg base 1 "added" ["one","other"] (bq K .n 2 k6):=by
 refine aH (k:=0) F xa (by decide) rfl λ_ cdv A outer s H hid E hr=>?_
 exact(aq (aI (x6 0 1 rfl (AI hr) B.b_sorted B.b_set)))
theorem sc_oddly_often:FnScope ["stands","odd","stand"] ["stands"] (al eT):=⟨rfl,rfl,rfl,by decide+kernel,rfl,by decide+kernel,by decide+kernel⟩
def mO:FS:=
 aD (Bm 1)
 (aD (fz (fG (c9 (ak 0))) (gN 2) (iR (Dy 1 (ak 2)) (nu (zu uQ 1 (ak 2))) (nu (zu uu 1 (ak 2)))))
 (aT (Bq 1)))
def eF:List D->Option D:=dX .n 3 mO
theorem mT(B:Bt mg)(F:Df K mg "oddly_often" eT ["stands"]):Cl P w K mg base 1 "oddly_often" ["stands"] (bq K .n 1 eF):=by
 refine aH (k:=0) F sc_oddly_often (by decide) rfl λ_ cdv A outer s H hid E hr=>?_
 exact(ai (Ap 1 sc_oddly_often.nd B.b_set)
  (ai (dP PassesOwn.never rfl (DIp.e (bH (af 0))) (ao 2 sc_oddly_often.nd) (aq (f8 (AX 1 (cG hr) (af 2)) (aq (kY (Be 1 (cG hr) (af 2)))) (aq (kY (AS 1 (cG hr) (af 2)))))))
  (aq (aI (Ar 1 rfl B.b_sorted)))))
theorem v8:FnScope ["square","crowd"] ["square","crowd"] (al mz):=⟨rfl,rfl,rfl,by decide+kernel,rfl,by decide+kernel,by decide+kernel⟩
def wU:FS:=
 aT (am (nF 1 eF) (ab (mE 4 (c9 (ak 1)) (gN 2) (cY) (c9 (am (nF 2 fX) (ab (ak 0) (ab (ak 2) (aj))))) (gT 3 (fW (gN 3) (fW (gN 4) (fW (gN 5) (kT))))) (cY) (ak 5)) (aj)))
def mH:List D->Option D:=dX .n 2 wU
theorem zk(B:Bt mg)(F:Df K mg "border" mz ["square","crowd"])(eP:Cl P w K mg base 1 "oddly_often" ["stands"] (bq K .n 1 eF))(fP:Cl P w K mg base 6 "steps_from" ["square","stand"] (bq K .n 2 fX)):Cl P w K mg base 7 "border" ["square","crowd"] (bq K .n 2 mH):=by
 refine aH (k:=6) F v8 (by decide) rfl λ_ cdv A outer s H hid E hr=>?_
 exact(aq (aI (aJ eP (hr.mono (by decide)) (ae (DP.toS (jo (N':=["square","crowd","stand","a","b","end"]) rfl 3 (aN (Nat.le_of_ble_eq_true rfl)) (vX (Nat.le_of_ble_eq_true rfl)) (fI (aE (aN (Nat.le_of_ble_eq_true rfl)) (aE (aN (Nat.le_of_ble_eq_true rfl)) (aE (aN (Nat.le_of_ble_eq_true rfl)) bQ)))) (DIp.b (bH (af 1))) (λ_ _ _ _=>(ao 2 AM)) (λ_ _ _ _=>be) (λ_ _ _ _=>(bH (DP.toS (aJ fP (hr.mono (by decide)) (ae (af 0) (ae (af 2) ah)))))) (λ_ _ _ _=>(bw (n:=3) rfl (aB (ao 3 AM) (aB (ao 4 AM) (aB (ao 5 AM) bu))))) (λ_ _ _ _=>be) (λ_ _ _ _=>(af 5)))) ah))))
theorem sc_all_stands:FnScope ["n","stands","bar"] ["n"] (al fT):=⟨rfl,rfl,rfl,by decide+kernel,rfl,by decide+kernel,by decide+kernel⟩
def pG:FS:=
 aD (pK 1 (eS (ab (bW (aj)) (aj))))
 (aD (fz (fG (du (ab (ak 0) (aj)))) (gN 2) (pK 1 (mE 2 (jr (mK 1)) (gN 3) (cY) (du (ab (ak 0) (aj))) (gN 4) (cR (au (DQ true) (ak 4) (ak 3))) (au uq (ak 3) (bW (ab (ak 4) (aj)))))))
 (Bg 1))
def fN:List D->Option D:=dX .n 3 pG
theorem pk(B:Bt mg)(F:Df K mg "all_stands" fT ["n"]):Cl P w K mg base 1 "all_stands" ["n"] (bq K .n 1 fN):=by
 refine aH (k:=0) F sc_all_stands (by decide) rfl λ_ cdv A outer s H hid E hr=>?_
 exact(QSs.to (qD (QS.of (lb 1 sc_all_stands.nd (eG (ae (cm ah) ah db))))
  (qD (QS.of (dP PassesOwn.never rfl (DIp.e (bK B.b_range (ae (af 0) ah))) (ao 2 sc_all_stands.nd) (aq (yJ 1 (N':=["n","stands","bar","stand","height"]) rfl sc_all_stands.nd 4 (aN (Nat.le_of_ble_eq_true rfl)) (vX (Nat.le_of_ble_eq_true rfl)) (aN (Nat.le_of_ble_eq_true rfl)) (xN (f6 1)) (λ_ _ _ _=>(ao 3 D2)) (λ_ _ _ _=>be) (λ_ _ _ _=>(bK B.b_range (ae (af 0) ah))) (λ_ _ _ _=>(ao 4 D2)) (λ_ _ _ _=>(k8 (cc (wf hr.units) (y0 true) (af 4) (af 3) (by with_unfolding_all rfl)))) (λ_ _ _ _=>(Bh (af 3) (cm (ae (af 4) ah))))))))
  (A3 (QS.of (uT 1))))))
theorem oq:FnScope ["order","half"] ["order","half"] (al gE):=⟨rfl,rfl,rfl,by decide+kernel,rfl,by decide+kernel,by decide+kernel⟩
def qQ:FS:=
 aT (bz 2 (BR (ak 0)) (gT 2 (fW (gN 2) (fW (gN 3) (kT)))) (cY) (bW (ab (au bI (au ck (av (.int 2)) (ak 2)) (ak 1)) (ab (au bI (au ck (av (.int 2)) (ak 3)) (ak 1)) (aj)))))
def eA:List D->Option D:=dX .n 2 qQ
theorem qG(B:Bt mg)(F:Df K mg "points_of" gE ["order","half"]):Cl P w K mg base 1 "points_of" ["order","half"] (bq K .n 2 eA):=by
 refine aH (k:=0) F oq (by decide) rfl λ_ cdv A outer s H hid E hr=>?_
 exact(aq (aI (cs (N':=["order","half","place","number"]) rfl (fI (aE (aN (Nat.le_of_ble_eq_true rfl)) (aE (aN (Nat.le_of_ble_eq_true rfl)) bQ))) (DIp.b (yK (af 0) B.b_enumerate)) (λ_ _ _ _=>(bw (n:=2) rfl (aB (ao 2 DZ) (aB (ao 3 DZ) bu)))) (λ_ _ _ _=>be) (λ_ _ _ _=>(cm (ae (bT (gI ag (af 2)) (af 1)) (ae (bT (gI ag (af 3)) (af 1)) ah)))))))
theorem w8:FnScope ["ones","others"] ["ones","others"] (al o5):=⟨rfl,rfl,rfl,by decide+kernel,rfl,by decide+kernel,by decide+kernel⟩
def Ah:FS:=
 aT (am cI (ab (mE 4 (jr (ak 0)) (gT 2 (fW (gN 2) (fW (gN 3) (kT)))) (cY) (jr (ak 1)) (gT 2 (fW (gN 4) (fW (gN 5) (kT)))) (jM (cR (au zm (ak 2) (ak 4))) (cR (au zm (ak 3) (ak 5)))) (av (.bl true))) (aj)))
def g6:List D->Option D:=dX .s 2 Ah
theorem zV(B:Bt mg)(F:Df K mg "pairs" o5 ["ones","others"]):Cl P w K mg base 1 "pairs" ["ones","others"] (bq K .s 2 g6):=by
 refine aH (k:=0) F w8 (by decide) rfl λ_ cdv A outer s H hid E hr=>?_
 exact(aq (aI (aO aK cA B.b_len (aL (jo (N':=["ones","others","right","up","x","y"]) rfl 4 (fI (aE (aN (Nat.le_of_ble_eq_true rfl)) (aE (aN (Nat.le_of_ble_eq_true rfl)) bQ))) (Fl (rO (vX (Nat.le_of_ble_eq_true rfl)) (rO (vX (Nat.le_of_ble_eq_true rfl)) zy))) (fI (aE (aN (Nat.le_of_ble_eq_true rfl)) (aE (aN (Nat.le_of_ble_eq_true rfl)) bQ))) (DIp.b (cx (af 0))) (λ_ _ _ _=>(bw (n:=2) rfl (aB (ao 2 ub) (aB (ao 3 ub) bu)))) (λ_ _ _ _=>be) (λ_ _ _ _=>(cx (af 1))) (λ_ _ _ _=>(bw (n:=2) rfl (aB (ao 4 ub) (aB (ao 5 ub) bu)))) (λ_ _ _ _=>(k8 (DW.dt (tM (cc qV h9 (af 2) (af 4) (bG _)) (oy (cc qV h9 (af 3) (af 5) (bG _))))))) (λ_ _ _ _=>zf)) bd) (hv:=by kernel_rfl))))
theorem sc_grade_by:FnScope ["marks","stand","rooks","points"] ["marks","stand"] (al iM):=⟨rfl,rfl,rfl,by decide+kernel,rfl,by decide+kernel,by decide+kernel⟩
def tq:FS:=
 aD (bc 2 (am (nF 2 eA) (ab (ak 1) (ab (av (.int 0)) (aj)))))
 (aD (bc 3 (am (nF 2 eA) (ab (ak 0) (ab (av (.int 1)) (aj)))))
 (aT (au bI (au bI (au gg (au gg (am (nF 2 g6) (ab (ak 2) (ab (ak 2) (aj)))) (am (nF 2 g6) (ab (ak 2) (ab (ak 3) (aj))))) (am (nF 2 g6) (ab (ak 3) (ab (ak 2) (aj))))) (am (nF 2 g6) (ab (ak 3) (ab (ak 3) (aj))))) (av (.int 1)))))
def cJ:List D->Option D:=dX .s 4 tq
theorem rT(B:Bt mg)(F:Df K mg "grade_by" iM ["marks","stand"])(eB:Cl P w K mg base 1 "points_of" ["order","half"] (bq K .n 2 eA))(hX:Cl P w K mg base 1 "pairs" ["ones","others"] (bq K .s 2 g6)):Cl P w K mg base 2 "grade_by" ["marks","stand"] (bq K .s 2 cJ):=by
 refine aH (k:=1) F sc_grade_by (by decide) rfl λ_ cdv A outer s H hid E hr=>?_
 exact(ai (aR 2 sc_grade_by.nd (DP.toS (aJ eB (hr.mono (by decide)) (ae (af 1) (ae ag ah)))))
  (ai (aR 3 sc_grade_by.nd (DP.toS (aJ eB (hr.mono (by decide)) (ae (af 0) (ae ag ah)))))
  (aq (aI (bT (bT (gM (gM (aJ hX (hr.mono (by decide)) (ae (af 2) (ae (af 2) ah))) (aJ hX (hr.mono (by decide)) (ae (af 2) (ae (af 3) ah)))) (aJ hX (hr.mono (by decide)) (ae (af 3) (ae (af 2) ah)))) (aJ hX (hr.mono (by decide)) (ae (af 3) (ae (af 3) ah)))) ag)))))
theorem xl:FnScope ["square","stand"] ["square","stand"] (al oj):=⟨rfl,rfl,rfl,by decide+kernel,rfl,by decide+kernel,by decide+kernel⟩
def zB:FS:=
 aT (am (nF 2 cJ) (ab (au df (ak 0) (av (.int 0))) (ab (ak 1) (aj))))
def pd:List D->Option D:=dX .s 2 zB
theorem AZ(B:Bt mg)(F:Df K mg "grade" oj ["square","stand"])(b9:Cl P w K mg base 2 "grade_by" ["marks","stand"] (bq K .s 2 cJ)):Cl P w K mg base 3 "grade" ["square","stand"] (bq K .s 2 pd):=by
 refine aH (k:=2) F xl (by decide) rfl λ_ cdv A outer s H hid E hr=>?_
 exact(aq (aI (aJ b9 (hr.mono (by decide)) (ae (bg aQ bn (af 0) ag (λ_ _=>rfl)) (ae (af 1) ah)))))
theorem sc_lean:FnScope ["square","stand","rings","crosses","unlike"] ["square","stand"] (al tQ):=⟨rfl,rfl,rfl,by decide+kernel,rfl,by decide+kernel,by decide+kernel⟩
def CG:FS:=
 aD (gk (gT 2 (fW (gN 2) (fW (gN 3) (kT)))) (pu (ak 0)))
 (aD (bc 4 (au gg (am (nF 2 cJ) (ab (ak 2) (ab (ak 1) (aj)))) (am (nF 2 cJ) (ab (ak 3) (ab (ak 1) (aj))))))
 (aT (au bI (au gg (ak 4) (am cI (ab (ak 2) (aj)))) (am cI (ab (am (nF 1 dJ) (ab (ak 0) (aj))) (aj))))))
def sL:List D->Option D:=dX .s 5 CG
theorem CU(B:Bt mg)(F:Df K mg "lean" tQ ["square","stand"])(b9:Cl P w K mg base 2 "grade_by" ["marks","stand"] (bq K .s 2 cJ))(cL:Cl P w K mg base 2 "lines_of" ["square"] (bq K .n 1 dJ)):Cl P w K mg base 3 "lean" ["square","stand"] (bq K .s 2 sL):=by
 refine aH (k:=2) F sc_lean (by decide) rfl λ_ cdv A outer s H hid E hr=>?_
 exact(ai (mn (DP.ef (af 0)) (bw (n:=2) rfl (aB (ao 2 sc_lean.nd) (aB (ao 3 sc_lean.nd) bu))))
  (ai (aR 4 sc_lean.nd (gM (aJ b9 (hr.mono (by decide)) (ae (af 2) (ae (af 1) ah))) (aJ b9 (hr.mono (by decide)) (ae (af 3) (ae (af 1) ah)))))
  (aq (aI (bT (gM (af 4) (aO aK cA B.b_len (aL (af 2) bd) (hv:=by kernel_rfl))) (aO aK cA B.b_len (aL (aJ cL (hr.mono (by decide)) (ae (af 0) ah)) bd) (hv:=by kernel_rfl)))))))
theorem sx:FnScope ["square","stand"] ["square","stand"] (al j4):=⟨rfl,rfl,rfl,by decide+kernel,rfl,by decide+kernel,by decide+kernel⟩
def v7:FS:=
 aT (bW (ab (am (nF 2 pd) (ab (ak 0) (ab (ak 1) (aj)))) (ab (am (nF 2 sL) (ab (ak 0) (ab (ak 1) (aj)))) (aj))))
def jE:List D->Option D:=dX .s 2 v7
theorem vI(B:Bt mg)(F:Df K mg "home_of" j4 ["square","stand"])(pT:Cl P w K mg base 3 "grade" ["square","stand"] (bq K .s 2 pd))(tU:Cl P w K mg base 3 "lean" ["square","stand"] (bq K .s 2 sL)):Cl P w K mg base 4 "home_of" ["square","stand"] (bq K .s 2 jE):=by
 refine aH (k:=3) F sx (by decide) rfl λ_ cdv A outer s H hid E hr=>?_
 exact(aq (aI (cm (ae (aJ pT (hr.mono (by decide)) (ae (af 0) (ae (af 1) ah))) (ae (aJ tU (hr.mono (by decide)) (ae (af 0) (ae (af 1) ah))) ah)))))
theorem sc_cycles_and_leads:FnScope ["square","cycles","leads","stand","crowd","edge","other","other_edge"] ["square"] (al ce):=⟨rfl,rfl,rfl,by decide+kernel,rfl,by decide+kernel,by decide+kernel⟩
def iO:FS:=
 aD (mF 1)
 (aD (mF 2)
 (aD (fz (fG (c9 (am (nF 1 fN) (ab (am cI (ab (au df (ak 0) (av (.int 0))) (aj))) (aj))))) (gN 3) (aD (A7 4 5 (ab (eS (ab (ak 3) (aj))) (ab (am (nF 2 mH) (ab (ak 0) (ab (eS (ab (ak 3) (aj))) (aj)))) (aj))))
 (aD (sR (jM (kI (ak 5)) (Ek 2 (au df (ak 5) (qW (av (.int 1)))))) (aD (gk (gT 2 (fW (gN 6) (fW (gN 7) (kT)))) (pu (yG 2 (au df (ak 5) (qW (av (.int 1)))))))
 (A7 4 5 (ab (am (nF 2 k6) (ab (ak 4) (ab (ak 6) (aj)))) (ab (am (nF 2 k6) (ab (ak 5) (ab (ak 7) (aj)))) (aj))))) 125)
 (iR (kI (ak 5)) (p7 2 (oD (au df (ak 5) (qW (av (.int 1))))) (bW (ab (ak 4) (ab (ak 5) (aj))))) (p7 1 (oD (ak 3)) (ak 4))))))
 (wj 1 (wj 2 (aT (bW (ab (ak 1) (ab (ak 2) (aj)))))))))
def cj:List D->Option D:=dX .s 8 iO
theorem iw(B:Bt mg)(F:Df K mg "cycles_and_leads" ce ["square"])(fK:Cl P w K mg base 1 "all_stands" ["n"] (bq K .n 1 fN))(mo:Cl P w K mg base 7 "border" ["square","crowd"] (bq K .n 2 mH))(k7:Cl P w K mg base 1 "added" ["one","other"] (bq K .n 2 k6)):Cl P w K mg base 8 "cycles_and_leads" ["square"] (bq K .s 1 cj):=by
 refine aH (k:=7) F sc_cycles_and_leads (by decide) rfl λ_ cdv A outer s H hid E hr=>?_
 exact(ai (gF 1 sc_cycles_and_leads.nd)
  (ai (gF 2 sc_cycles_and_leads.nd)
  (ai (dP PassesOwn.never rfl (DIp.e (bH (DP.toS (aJ fK (hr.mono (by decide)) (ae (aO aK cA B.b_len (aL (bg aQ bn (af 0) ag (λ_ _=>rfl)) bd) (hv:=by kernel_rfl)) ah))))) (ao 3 sc_cycles_and_leads.nd) (ai (xy 4 5 rfl sc_cycles_and_leads.nd (ae (DP.toS (eG (ae (af 3) ah))) (ae (DP.toS (aJ mo (hr.mono (by decide)) (ae (af 0) (ae (DP.toS (eG (ae (af 3) ah))) ah)))) ah)))
  (ai (jz 125 PassesOwn.never (DW.dt (tM (iQ (af 5)) (oy (zr 2 (cG hr) (bg aQ bn (af 5) (hW ag) (λ_ _=>rfl)))))) (ai (mn (DP.ef (ox 2 (cG hr) (bg aQ bn (af 5) (hW ag) (λ_ _=>rfl)) (λ_ _=>rfl))) (bw (n:=2) rfl (aB (ao 6 sc_cycles_and_leads.nd) (aB (ao 7 sc_cycles_and_leads.nd) bu))))
  (aq (xy 4 5 rfl sc_cycles_and_leads.nd (ae (DP.toS (aJ k7 (hr.mono (by decide)) (ae (af 4) (ae (af 6) ah)))) (ae (DP.toS (aJ k7 (hr.mono (by decide)) (ae (af 5) (ae (af 7) ah)))) ah))))))
  (aq (f8 (iQ (af 5)) (aq (l7 2 (cG hr) (jC (bg aQ bn (af 5) (hW ag) (λ_ _=>rfl))) (cm (ae (af 4) (ae (af 5) ah))))) (aq (l7 1 (cG hr) (jC (af 3)) (af 4))))))))
  (aq (oz 1 (oz 2 (aI (cm (ae (af 1) (ae (af 2) ah))))))))))
theorem kM:FnScope ["cycles","leads"] ["cycles","leads"] (al dI):=⟨rfl,rfl,rfl,by decide+kernel,rfl,by decide+kernel,by decide+kernel⟩
def lA:FS:=
 aT (bz 1 (Ey (ak 0)) (gN 2) (DY true (oD (ak 2)) (ak 1)) (ak 2))
def dW:List D->Option D:=dX .n 2 lA
theorem lM(B:Bt mg)(F:Df K mg "class_stands" dI ["cycles","leads"]):Cl P w K mg base 1 "class_stands" ["cycles","leads"] (bq K .n 2 dW):=by
 refine aH (k:=0) F kM (by decide) rfl λ_ cdv A outer s H hid E hr=>?_
 exact(aq (aI (cs (N':=["cycles","leads","stand"]) rfl (aN (Nat.le_of_ble_eq_true rfl)) (DIp.b (xF (af 0))) (λ_ _ _ _=>(ao 2 E3)) (λ_ _ _ _=>(k8 (se (cG hr) (jC (af 2)) (af 1)))) (λ_ _ _ _=>(af 2)))))
theorem sc_table:FnScope ["square","cycles","leads","found","stand","home"] ["square"] (al pS):=⟨rfl,rfl,rfl,by decide+kernel,rfl,by decide+kernel,by decide+kernel⟩
def Av:FS:=
 aD (gk (gT 2 (fW (gN 1) (fW (gN 2) (kT)))) (pu (am (nF 1 cj) (ab (ak 0) (aj)))))
 (aD (mF 3)
 (aD (fz (fG (c9 (am (nF 2 dW) (ab (ak 1) (ab (ak 2) (aj)))))) (gN 4) (aD (bc 5 (am (nF 2 jE) (ab (ak 0) (ab (ak 4) (aj)))))
 (p7 3 (oD (ak 5)) (au bI (ye 3 (oD (ak 5)) (av (.int 0))) (av (.int 1))))))
 (aT (bz 2 (c9 (qi 3)) (gT 2 (fW (gN 6) (fW (gN 7) (kT)))) (cY) (bW (ab (ak 6) (ab (ak 7) (ab (yG 3 (bW (ab (ak 6) (ab (ak 7) (aj))))) (aj)))))))))
def dg:List D->Option D:=dX .n 6 Av
theorem zU(B:Bt mg)(F:Df K mg "table" pS ["square"])(ca:Cl P w K mg base 8 "cycles_and_leads" ["square"] (bq K .s 1 cj))(dv:Cl P w K mg base 1 "class_stands" ["cycles","leads"] (bq K .n 2 dW))(kc:Cl P w K mg base 4 "home_of" ["square","stand"] (bq K .s 2 jE)):Cl P w K mg base 9 "table" ["square"] (bq K .n 1 dg):=by
 refine aH (k:=8) F sc_table (by decide) rfl λ_ cdv A outer s H hid E hr=>?_
 exact(ai (mn (DP.ef (aJ ca (hr.mono (by decide)) (ae (af 0) ah))) (bw (n:=2) rfl (aB (ao 1 sc_table.nd) (aB (ao 2 sc_table.nd) bu))))
  (ai (gF 3 sc_table.nd)
  (ai (dP PassesOwn.never rfl (DIp.e (bH (DP.toS (aJ dv (hr.mono (by decide)) (ae (af 1) (ae (af 2) ah)))))) (ao 4 sc_table.nd) (ai (aR 5 sc_table.nd (aJ kc (hr.mono (by decide)) (ae (af 0) (ae (af 4) ah))))
  (aq (l7 3 (cG hr) (jC (af 5)) (bT (q5 3 (cG hr) (jC (af 5)) ag ⟨rfl,rfl,rfl,rfl⟩) ag)))))
  (aq (aI (cs (N':=["square","cycles","leads","found","stand","home","grade","lean"]) rfl (fI (aE (aN (Nat.le_of_ble_eq_true rfl)) (aE (aN (Nat.le_of_ble_eq_true rfl)) bQ))) (DIp.b (bH (DP.toS (qk 3 rfl B.b_sorted)))) (λ_ _ _ _=>(bw (n:=2) rfl (aB (ao 6 Bv) (aB (ao 7 Bv) bu)))) (λ_ _ _ _=>be) (λ_ _ _ _=>(cm (ae (af 6) (ae (af 7) (ae (ox 3 (cG hr) (cm (ae (af 6) (ae (af 7) ah))) (λ_ _=>rfl)) ah)))))))))))
theorem sc_once_divided:FnScope ["found","left","grade","lean","many"] ["found"] (al dA):=⟨rfl,rfl,rfl,by decide+kernel,rfl,by decide+kernel,by decide+kernel⟩
def mr:FS:=
 aD (mF 1)
 (aD (fz (fG (c9 (Eg (ak 0)))) (gT 2 (fW (gN 2) (fW (gN 3) (kT)))) (aD (bc 4 (au gg (BU (ak 0) (yA (ab (ak 2) (ab (ak 3) (aj))))) (ye 1 (yA (ab (au bI (ak 2) (av (.int 1))) (ab (au bI (ak 3) (av (.int 2))) (aj)))) (av (.int 0)))))
 (iR (cR (au BB (ak 4) (av (.int 0)))) (yF 1 (ab (ak 2) (ab (ak 3) (aj))) (ak 4)) (skip))))
 (wj 1 (aT (ak 1))))
def dz:List D->Option D:=dX .s 5 mr
theorem ma(B:Bt mg)(F:Df K mg "once_divided" dA ["found"]):Cl P w K mg base 1 "once_divided" ["found"] (bq K .s 1 dz):=by
 refine aH (k:=0) F sc_once_divided (by decide) rfl λ_ cdv A outer s H hid E hr=>?_
 exact(ai (gF 1 sc_once_divided.nd)
  (ai (dP PassesOwn.never rfl (DIp.e (bH (DP.toS (zw rfl B.b_sorted (af 0))))) (bw (n:=2) rfl (aB (ao 2 sc_once_divided.nd) (aB (ao 3 sc_once_divided.nd) bu))) (ai (aR 4 sc_once_divided.nd (gM (uR (cG hr) (af 0) (oR (ae (af 2) (ae (af 3) ah))) (λ_ _=>rfl)) (q5 1 (cG hr) (oR (ae (bT (af 2) ag) (ae (bT (af 3) ag) ah))) ag ⟨rfl,rfl,rfl,rfl⟩)))
  (aq (f8 (cc u7 h9 (af 4) ag (bG _)) (aq (xp 1 (cG hr) (ae (af 2) (ae (af 3) ah)) (af 4))) cV))))
  (aq (oz 1 (aI (af 1))))))
theorem sc_rest:FnScope ["square","found","division"] ["square"] (al sn):=⟨rfl,rfl,rfl,by decide+kernel,rfl,by decide+kernel,by decide+kernel⟩
def C7:FS:=
 aD (BN 1 3 (c9 (am (nF 1 dg) (ab (ak 0) (aj)))) (gT 3 (fW (gN 3) (fW (gN 4) (fW (gN 5) (kT))))) (cY) (wW (yA (ab (ak 3) (ab (ak 4) (aj)))) (ak 5)))
 (aD (wj 1 (fz (fG (du (ab (au gg (am cI (ab (au df (ak 0) (av (.int 0))) (aj))) (am cI (ab (am (nF 1 dJ) (ab (ak 0) (aj))) (aj)))) (aj)))) (gN 2) (bc 1 (am (nF 1 dz) (ab (ak 1) (aj))))))
 (aT (bz 2 (c9 (ED (ak 1))) (gT 2 (fW (gN 3) (fW (gN 4) (kT)))) (cY) (bW (ab (ak 3) (ab (ak 4) (ab (BU (ak 1) (yA (ab (ak 3) (ab (ak 4) (aj))))) (aj))))))))
def iG:List D->Option D:=dX .n 3 C7
theorem Dj(B:Bt mg)(F:Df K mg "rest" sn ["square"])(dE:Cl P w K mg base 1 "once_divided" ["found"] (bq K .s 1 dz))(hJ:Cl P w K mg base 9 "table" ["square"] (bq K .n 1 dg))(cL:Cl P w K mg base 2 "lines_of" ["square"] (bq K .n 1 dJ)):Cl P w K mg base 10 "rest" ["square"] (bq K .n 1 iG):=by
 refine aH (k:=9) F sc_rest (by decide) rfl λ_ cdv A outer s H hid E hr=>?_
 exact(ai (ww 1 (N':=["square","found","division","grade","lean","many"]) sc_rest.nd rfl (cG hr) (fI (aE (aN (Nat.le_of_ble_eq_true rfl)) (aE (aN (Nat.le_of_ble_eq_true rfl)) (aE (aN (Nat.le_of_ble_eq_true rfl)) bQ)))) (DIp.b (bH (DP.toS (aJ hJ (hr.mono (by decide)) (ae (af 0) ah))))) (λ_ _ _ _=>(bw (n:=3) rfl (aB (ao 3 wZ) (aB (ao 4 wZ) (aB (ao 5 wZ) bu))))) (λ_ _ _ _=>be) (λ_ _ _ _=>(oR (ae (af 3) (ae (af 4) ah)))) (λ_ _ _ _=>(af 5)))
  (ai (oz 1 (dP PassesOwn.never rfl (DIp.e (bK B.b_range (ae (gM (aO aK cA B.b_len (aL (bg aQ bn (af 0) ag (λ_ _=>rfl)) bd) (hv:=by kernel_rfl)) (aO aK cA B.b_len (aL (aJ cL (hr.mono (by decide)) (ae (af 0) ah)) bd) (hv:=by kernel_rfl))) ah))) (ao 2 sc_rest.nd) (aq (aR 1 sc_rest.nd (aJ dE (hr.mono (by decide)) (ae (af 1) ah))))))
  (aq (aI (cs (N':=["square","found","division","grade","lean"]) rfl (fI (aE (aN (Nat.le_of_ble_eq_true rfl)) (aE (aN (Nat.le_of_ble_eq_true rfl)) bQ))) (DIp.b (bH (DP.toS (Am rfl B.b_sorted (af 1))))) (λ_ _ _ _=>(bw (n:=2) rfl (aB (ao 3 Bx) (aB (ao 4 Bx) bu)))) (λ_ _ _ _=>be) (λ_ _ _ _=>(cm (ae (af 3) (ae (af 4) (ae (uR (cG hr) (af 1) (oR (ae (af 3) (ae (af 4) ah))) (λ_ _=>rfl)) ah))))))))))
theorem qA:FnScope ["_law_script","_law_k"] ["_law_script","_law_k"] (al ik):=⟨rfl,rfl,rfl,by decide+kernel,rfl,by decide+kernel,by decide+kernel⟩
def tP:FS:=
 aD (iR (cR (au zm (ak 1) (am cI (ab (ak 0) (aj))))) (aT (au df (ak 0) (ak 1))) (skip))
 (aT (av (.int 0)))
def iJ:List D->Option D:=dX .s 2 tP
theorem sj(B:Bt mg)(F:Df K mg "_law_cell" ik ["_law_script","_law_k"]):Cl P w K mg base 1 "_law_cell" ["_law_script","_law_k"] (bq K .s 2 iJ):=by
 refine aH (k:=0) F qA (by decide) rfl λ_ cdv A outer s H hid E hr=>?_
 exact(ai (f8 (cc qV h9 (af 1) (aO aK cA B.b_len (aL (af 0) bd) (hv:=by kernel_rfl)) (bG _)) (aq (aI (bg aQ bn (af 0) (af 1) (λ_ _=>rfl)))) cV)
  (aq (aI ag)))
theorem sc_law_bag:FnScope ["_law_script","_law_at","_law_cell_here","_law_mix","_law_k"] ["_law_script","_law_at"] (al jI):=⟨rfl,rfl,rfl,by decide+kernel,rfl,by decide+kernel,by decide+kernel⟩
def v9:FS:=
 aD (bc 2 (au bj (am qT (ab (am (nF 2 iJ) (ab (ak 0) (ab (ak 1) (aj)))) (aj))) (au ck (au ck (au cy (av (.int 10)) (av (.int 60))) (au cy (av (.int 10)) (av (.int 60)))) (au cy (av (.int 10)) (av (.int 60))))))
 (aD (iR (cR (au Fh (ak 2) (au cy (av (.int 10)) (av (.int 18))))) (aT (eS (ab (ak 2) (ab (av (.int 0)) (aj))))) (skip))
 (aD (bc 3 (au bj (au bI (au bI (ak 2) (au ck (av (.int 7919)) (ak 1))) (av (.int 17))) (av (.int 2147483647))))
 (aD (fz (fG (du (ab (am jc (ab (am cI (ab (ak 0) (aj))) (ab (av (.int 9)) (aj)))) (aj)))) (gN 4) (bc 3 (au bj (au bI (au bI (au cy (ak 3) (av (.int 5))) (au bj (au df (ak 0) (ak 4)) (av (.int 2147483629)))) (au ck (av (.int 31)) (ak 4))) (av (.int 2147483647)))))
 (aT (eS (ab (ak 3) (ab (av (.int 1)) (aj))))))))
def fm:List D->Option D:=dX .n 5 v9
theorem wy(B:Bt mg)(F:Df K mg "_law_bag" jI ["_law_script","_law_at"])(iF:Cl P w K mg base 1 "_law_cell" ["_law_script","_law_k"] (bq K .s 2 iJ)):Cl P w K mg base 2 "_law_bag" ["_law_script","_law_at"] (bq K .n 2 fm):=by
 refine aH (k:=1) F sc_law_bag (by decide) rfl λ_ cdv A outer s H hid E hr=>?_
 exact(ai (aR 2 sc_law_bag.nd (cz (aO yy CI B.b_abs (aL (aJ iF (hr.mono (by decide)) (ae (af 0) (ae (af 1) ah))) bd) (hv:=by kernel_rfl)) (gI (gI (jJ ag ag) (jJ ag ag)) (jJ ag ag))))
  (ai (f8 (cc DF h9 (af 2) (jJ ag ag) (bG _)) (aq (aI (eG (ae (af 2) (ae ag ah))))) cV)
  (ai (aR 3 sc_law_bag.nd (cz (bT (bT (af 2) (gI ag (af 1))) ag) ag))
  (ai (dP PassesOwn.never rfl (DIp.e (bK B.b_range (ae (aO (nC rfl) ve B.b_min (aL (aO aK cA B.b_len (aL (af 0) bd) (hv:=by kernel_rfl)) (aL ag bd)) (hv:=by kernel_rfl)) ah))) (ao 4 sc_law_bag.nd) (aq (aR 3 sc_law_bag.nd (cz (bT (bT (jJ (af 3) ag) (cz (bg aQ bn (af 0) (af 4) (λ_ _=>rfl)) ag)) (gI ag (af 4))) ag))))
  (aq (aI (eG (ae (af 3) (ae ag ah)))))))))
theorem sc_law_take:FnScope ["_law_bag_here","_law_many","_law_digit"] ["_law_bag_here","_law_many"] (al im):=⟨rfl,rfl,rfl,by decide+kernel,rfl,by decide+kernel,by decide+kernel⟩
def tI:FS:=
 aD (iR (cR (au wQ (au df (mK 0) (av (.int 1))) (av (.int 0)))) (aD (bc 2 (au bj (au df (mK 0) (av (.int 0))) (ak 1)))
 (aD (gk (fw 0 (av (.int 0))) (pu (au cn (au df (mK 0) (av (.int 0))) (ak 1))))
 (aT (ak 2)))) (skip))
 (aD (gk (fw 0 (av (.int 0))) (pu (au bj (au bI (au bI (au cy (au df (mK 0) (av (.int 0))) (av (.int 5))) (au ck (av (.int 48271)) (au df (mK 0) (av (.int 1))))) (av (.int 11))) (av (.int 2147483647)))))
 (aD (gk (fw 0 (av (.int 1))) (pu (au bI (au df (mK 0) (av (.int 1))) (av (.int 1)))))
 (aT (au bj (au cn (au bj (au ck (au df (mK 0) (av (.int 0))) (av (.int 69621))) (av (.int 2147483629))) (av (.int 8))) (ak 1)))))
def aP:List D->List D->Option (D×List D):=AU .s 3 tI
theorem tF(B:Bt mg)(F:Df K mg "_law_take" im ["_law_bag_here","_law_many"]):Cl P w K mg base 1 "_law_take" ["_law_bag_here","_law_many"] (wM K .s 1 aP):=by
 refine yS (k:=0) F sc_law_take (by decide) rfl λ_ cdv A outer s H hid a E hr=>?_
 exact(ai (f8 (cc (jN hr.units) nE (bg aQ bn (f6 0) ag (λ_ _=>rfl)) ag (bG _)) (ai (aR 2 sc_law_take.nd (cz (bg aQ bn (f6 0) ag (λ_ _=>rfl)) (af 1)))
  (ai (oB (DP.ef (gX (bg aQ bn (f6 0) ag (λ_ _=>rfl)) (af 1))) (i6 0 ag))
  (aq (aI (af 2))))) cV)
  (ai (oB (DP.ef (cz (bT (bT (jJ (bg aQ bn (f6 0) ag (λ_ _=>rfl)) ag) (gI ag (bg aQ bn (f6 0) ag (λ_ _=>rfl)))) ag) ag)) (i6 0 ag))
  (ai (oB (DP.ef (bT (bg aQ bn (f6 0) ag (λ_ _=>rfl)) ag)) (i6 0 ag))
  (aq (aI (cz (gX (cz (gI (bg aQ bn (f6 0) ag (λ_ _=>rfl)) ag) ag) ag) (af 1)))))))
theorem sc_law_figures:FnScope ["_law_number","_law_text"] ["_law_number"] (al cU):=⟨rfl,rfl,rfl,by decide+kernel,rfl,by decide+kernel,by decide+kernel⟩
def c7:FS:=
 aD (iR (cR (au zm (ak 0) (av (.int 0)))) (aT (au ij (av (.str "-")) (λ_=>none))) (skip))
 (aD (bc 1 (au lr (av (.str "0123456789")) (au bj (ak 0) (av (.int 10)))))
 (aD (sR (cR (au BB (ak 0) (av (.int 9)))) (aD (bc 0 (au cn (ak 0) (av (.int 10))))
 (bc 1 (au ij (au lr (av (.str "0123456789")) (au bj (ak 0) (av (.int 10)))) (ak 1)))) 64)
 (aT (ak 1))))
def b7:List D->Option D:=dX .s 2 c7
theorem kG(B:Bt mg)(F:Df K mg "_law_figures" cU ["_law_number"]):Cl P w K mg base 1 "_law_figures" ["_law_number"] (bq K .s 1 b7):=by
 refine aH (k:=0) F sc_law_figures (by decide) rfl λ_ cdv A outer s H hid E hr=>?_
 exact(ai (f8 (cc qV h9 (af 0) ag (bG _)) (aq (aI (kU cH (xP (k:=.s))))) cV)
  (ai (aR 1 sc_law_figures.nd (bg aQ pU cH (cz (af 0) ag) (λ_ _=>rfl)))
  (ai (jz 64 PassesOwn.never (cc u7 h9 (af 0) ag (bG _)) (ai (aR 0 sc_law_figures.nd (gX (af 0) ag))
  (aq (aR 1 sc_law_figures.nd (kU (bg aQ pU cH (cz (af 0) ag) (λ_ _=>rfl)) (af 1))))))
  (aq (aI (af 1))))))
def eO:FS:=
 aD (iR (cR (au zm (ak 0) (av (.int 0)))) (aT (au ij (av (.str "-")) (am (nF 1 b7) (ab (au gg (av (.int 0)) (ak 0)) (aj))))) (skip))
 (aD (bc 1 (au lr (av (.str "0123456789")) (au bj (ak 0) (av (.int 10)))))
 (aD (sR (cR (au BB (ak 0) (av (.int 9)))) (aD (bc 0 (au cn (ak 0) (av (.int 10))))
 (bc 1 (au ij (au lr (av (.str "0123456789")) (au bj (ak 0) (av (.int 10)))) (ak 1)))) 64)
 (aT (ak 1))))
def bB:List D->Option D:=dX .s 2 eO
theorem mV(B:Bt mg)(F:Df K mg "_law_figures" cU ["_law_number"])(c6:Cl P w K mg base 1 "_law_figures" ["_law_number"] (bq K .s 1 b7)):Cl P w K mg base 2 "_law_figures" ["_law_number"] (bq K .s 1 bB):=by
 refine aH (k:=1) F sc_law_figures (by decide) rfl λ_ cdv A outer s H hid E hr=>?_
 exact(ai (f8 (cc qV h9 (af 0) ag (bG _)) (aq (aI (kU cH (aJ c6 (hr.mono (by decide)) (ae (gM ag (af 0)) ah))))) cV)
  (ai (aR 1 sc_law_figures.nd (bg aQ pU cH (cz (af 0) ag) (λ_ _=>rfl)))
  (ai (jz 64 PassesOwn.never (cc u7 h9 (af 0) ag (bG _)) (ai (aR 0 sc_law_figures.nd (gX (af 0) ag))
  (aq (aR 1 sc_law_figures.nd (kU (bg aQ pU cH (cz (af 0) ag) (λ_ _=>rfl)) (af 1))))))
  (aq (aI (af 1))))))
theorem sc_law_good:FnScope ["_law_found","_law_due","_law_handed","_law_text"] ["_law_found"] (al iB):=⟨rfl,rfl,rfl,by decide+kernel,rfl,by decide+kernel,by decide+kernel⟩
def iA:FS:=
 aD (bc 1 (av (.str "none")))
 (aD (iR (cR (au BB (am cI (ab (ak 0) (aj))) (av (.int 0)))) (bc 1 (au ig (av (.str " ")) (bz 1 (c9 (ak 0)) (gN 4) (cY) (au ig (av (.str ",")) (bz 1 (c9 (ak 4)) (gN 5) (cY) (am (nF 1 bB) (ab (ak 5) (aj)))))))) (skip))
 (aD (bc 2 (am rg (ab (ak 0) (aj))))
 (aD (bc 3 (am (nF 1 bf) (ab (ak 2) (aj))))
 (aT (wN (jM (cR (Ce "str" (ak 3))) (cR (wN (jM (cR (au wQ (ak 3) (ak 1))) (cR (au wQ (ak 2) (ak 0))))))))))))
def cS:List D->Option D:=dX .s 4 iA
theorem tt(B:Bt mg)(F:Df K mg "_law_good" iB ["_law_found"])(bp:Cl P w K mg base 1 "table_shown" ["found"] (bq K .s 1 bf))(eM:Cl P w K mg base 2 "_law_figures" ["_law_number"] (bq K .s 1 bB)):Cl P w K mg base 3 "_law_good" ["_law_found"] (bq K .s 1 cS):=by
 refine aH (k:=2) F sc_law_good (by decide) rfl λ_ cdv A outer s H hid E hr=>?_
 exact(ai (aR 1 sc_law_good.nd cH)
  (ai (f8 (cc u7 h9 (aO aK cA B.b_len (aL (af 0) bd) (hv:=by kernel_rfl)) ag (bG _)) (aq (aR 1 sc_law_good.nd (oO cH (cs (N':=["_law_found","_law_due","_law_handed","_law_text","_law_entry"]) rfl (aN (Nat.le_of_ble_eq_true rfl)) (DIp.b (bH (af 0))) (λ_ _ _ _=>(ao 4 E7)) (λ_ _ _ _=>be) (λ_ _ _ _=>(oO cH (cs (N':=["_law_found","_law_due","_law_handed","_law_text","_law_entry","_law_number"]) rfl (aN (Nat.le_of_ble_eq_true rfl)) (DIp.b (bH (af 4))) (λ_ _ _ _=>(ao 5 Ez)) (λ_ _ _ _=>be) (λ_ _ _ _=>(aJ eM (hr.mono (by decide)) (ae (af 5) ah)))))))))) cV)
  (ai (aR 2 sc_law_good.nd (DP.toS (jT js uk B.b_list (aL (af 0) bd) (hv:=by kernel_rfl))))
  (ai (aR 3 sc_law_good.nd (aJ bp (hr.mono (by decide)) (ae (af 2) ah)))
  (aq (aI (pQ (Dg "str" Dc (af 3) B.b_isinstance B.b_str) (pQ (jW (jN hr.units) nE (af 3) (af 1) (bG _)) (sA (jW (jN hr.units) nE (af 2) (af 0) (bG _)))))))))))
theorem sc_law_table:FnScope ["_law_bag_here","_law_many","_law_wide","_law_found","_law_k","_law_home"] ["_law_bag_here"] (al gL):=⟨rfl,rfl,rfl,by decide+kernel,rfl,by decide+kernel,by decide+kernel⟩
def ko:FS:=
 aD (mB 1 (bN 0 1 aP (fG (ab (av (.int 11)) (aj)))))
 (aD (mB 2 (eX df (pu (eS (ab (av (.int 4)) (ab (av (.int 40)) (ab (av (.int 1000)) (aj)))))) (bN 0 1 aP (fG (ab (av (.int 3)) (aj))))))
 (aD (mF 3)
 (aD (fz (fG (du (ab (ak 1) (aj)))) (gN 4) (aD (mB 5 (qu (iY (eX gg (bN 0 1 aP (fG (ab (ak 2) (aj)))) (pu (au cn (ak 2) (av (.int 2))))) (iY (eX gg (bN 0 1 aP (fG (ab (ak 2) (aj)))) (pu (au cn (ak 2) (av (.int 2))))) (fG (aj))))))
 (jQ 3 (oD (ak 5)) (eX bI (pu (av (.int 1))) (bN 0 1 aP (fG (ab (ak 2) (aj))))))))
 (aT (bz 1 (c9 (qi 3)) (gN 6) (cY) (bW (ab (au df (ak 6) (av (.int 0))) (ab (au df (ak 6) (av (.int 1))) (ab (yG 3 (ak 6)) (aj))))))))))
def cp:List D->List D->Option (D×List D):=AU .n 6 ko
theorem rB(B:Bt mg)(F:Df K mg "_law_table" gL ["_law_bag_here"])(cf:Cl P w K mg base 1 "_law_take" ["_law_bag_here","_law_many"] (wM K .s 1 aP)):Cl P w K mg base 2 "_law_table" ["_law_bag_here"] (wM K .n 0 cp):=by
 refine yS (k:=1) F sc_law_table (by decide) rfl λ_ cdv A outer s H hid a E hr=>?_
 exact(ai (pH 1 sc_law_table.nd (qf 0 cf (hr.mono (by decide)) (DA.gf (ae ag ah))))
  (ai (pH 2 sc_law_table.nd (D5 aQ bn (DE.toS (DP.ef (eG (ae ag (ae ag (ae ag ah)))))) (qf 0 cf (hr.mono (by decide)) (DA.gf (ae ag ah))) (λ_ _=>rfl)))
  (ai (gF 3 sc_law_table.nd)
  (ai (dP PassesOwn.never rfl (DIp.e (bK B.b_range (ae (af 1) ah))) (ao 4 sc_law_table.nd) (ai (pH 5 sc_law_table.nd (Cu (vj (x0 (qf 0 cf (hr.mono (by decide)) (DA.gf (ae (af 2) ah))) (DP.ef (gX (af 2) ag))) (vj (x0 (qf 0 cf (hr.mono (by decide)) (DA.gf (ae (af 2) ah))) (DP.ef (gX (af 2) ag))) (DA.gf ah)))))
  (aq (we 3 (cG hr) (jC (af 5)) (B7 (DP.ef ag) (qf 0 cf (hr.mono (by decide)) (DA.gf (ae (af 2) ah))))))))
  (aq (aI (cs (N':=["_law_bag_here","_law_many","_law_wide","_law_found","_law_k","?_law_home","_law_home"]) rfl (aN (Nat.le_of_ble_eq_true rfl)) (DIp.b (bH (DP.toS (qk 3 rfl B.b_sorted)))) (λ_ _ _ _=>(ao 6 El)) (λ_ _ _ _=>be) (λ_ _ _ _=>(cm (ae (bg aQ bn (af 6) ag (λ_ _=>rfl)) (ae (bg aQ bn (af 6) ag (λ_ _=>rfl)) (ae (ox 3 (cG hr) (af 6) (λ_ _=>rfl)) ah))))))))))))
theorem sc_law:FnScope ["_law_script","_law_k","_law_square_here"] ["_law_script"] (al iU):=⟨rfl,rfl,rfl,by decide+kernel,rfl,by decide+kernel,by decide+kernel⟩
def xv:FS:=
 aD (fz (fG (du (ab (am ua (ab (av (.int 1)) (ab (am jc (ab (av (.int 8)) (ab (am cI (ab (ak 0) (aj))) (aj)))) (aj)))) (aj)))) (gN 1) (iR (mh (kI (am (nF 1 cS) (ab (lD 0 cp (am (nF 2 fm) (ab (ak 0) (ab (ak 1) (aj)))) (aj)) (aj))))) (aT (av (.bl false))) (skip)))
 (aD (fz (fG (c9 (eS (ab (bW (ab (bW (ab (av (.int 0)) (ab (av (.int 1)) (aj)))) (ab (bW (ab (av (.int 1)) (ab (av (.int 0)) (aj)))) (aj)))) (ab (bW (ab (bW (ab (av (.int 0)) (ab (av (.int 1)) (ab (av (.int 2)) (aj))))) (ab (bW (ab (av (.int 1)) (ab (av (.int 2)) (ab (av (.int 0)) (aj))))) (aj)))) (ab (bW (ab (bW (ab (av (.int 0)) (ab (av (.int 1)) (ab (av (.int 2)) (aj))))) (ab (bW (ab (av (.int 2)) (ab (av (.int 0)) (ab (av (.int 1)) (aj))))) (aj)))) (aj))))))) (gN 2) (iR (EU (mh (kI (am (nF 1 cS) (ab (am (nF 1 dg) (ab (ak 2) (aj))) (aj))))) (mh (kI (am (nF 1 cS) (ab (am (nF 1 iG) (ab (ak 2) (aj))) (aj)))))) (aT (av (.bl false))) (skip)))
 (aT (wN (jM (cR (au wQ (am (nF 1 bf) (ab (eS (aj)) (aj))) (av (.str "none")))) (cR (au wQ (am (nF 1 bf) (ab (eS (ab (bW (ab (av (.int 0)) (ab (qW (av (.int 2))) (ab (av (.int 1)) (aj))))) (ab (bW (ab (av (.int 10)) (ab (av (.int 4)) (ab (av (.int 12)) (aj))))) (aj)))) (aj))) (av (.str "0,-2,1 10,4,12"))))))))
def BA:List D->Option D:=dX .s 3 xv
theorem CH {f:Addr}{fd:FuncData}(B:Bt mg)(F:Fun K "law" "law" iU f fd)(dC:Cl P w K mg base 3 "_law_good" ["_law_found"] (bq K .s 1 cS))(bp:Cl P w K mg base 1 "table_shown" ["found"] (bq K .s 1 bf))(gO:Cl P w K mg base 2 "_law_table" ["_law_bag_here"] (wM K .n 0 cp))(kf:Cl P w K mg base 2 "_law_bag" ["_law_script","_law_at"] (bq K .n 2 fm))(hJ:Cl P w K mg base 9 "table" ["square"] (bq K .n 1 dg))(tu:Cl P w K mg base 10 "rest" ["square"] (bq K .n 1 iG)):FnOk P w K mg base pN 11 f fd ["_law_script"] (bq K .s 1 BA):=by
 refine vh (k:=10) F sc_law (by decide) λcdv A outer s H hid E hr=>?_
 exact(by refine ai ?_ ?_;(exact(dP PassesOwn.never rfl (DIp.e (bK B.b_range (ae (aO (vD rfl) zO B.b_max (aL ag (aL (aO (nC rfl) ve B.b_min (aL ag (aL (aO aK cA B.b_len (aL (af 0) bd) (hv:=by kernel_rfl)) bd)) (hv:=by kernel_rfl)) bd)) (hv:=by kernel_rfl)) ah))) (ao 1 sc_law.nd) (aq (f8 (sJ (iQ (aJ dC (hr.mono (by decide)) (ae (DP.toS (BQ gO (hr.mono (by decide)) (aJ kf (hr.mono (by decide)) (ae (af 0) (ae (af 1) ah))) ah)) ah)))) (aq (aI zf)) cV))));exact
  (by refine ai ?_ ?_;(exact(by refine QS.ds ?_;refine zK PassesOwn.never rfl ?_ (ao 2 sc_law.nd) ?_ ?_;(exact(xA (aG (dM (aG (dM (aG (QP.of ag) (aG (QP.of ag) cT))) (aG (dM (aG (QP.of ag) (aG (QP.of ag) cT))) cT db) db)) (aG (dM (aG (dM (aG (QP.of ag) (aG (QP.of ag) (aG (QP.of ag) cT)))) (aG (dM (aG (QP.of ag) (aG (QP.of ag) (aG (QP.of ag) cT)))) cT db) db)) (aG (dM (aG (dM (aG (QP.of ag) (aG (QP.of ag) (aG (QP.of ag) cT)))) (aG (dM (aG (QP.of ag) (aG (QP.of ag) (aG (QP.of ag) cT)))) cT db) db)) cT db) db) db)));(exact(aq (f8 (DW.dt (Eh (sJ (iQ (aJ dC (hr.mono (by decide)) (ae (DP.toS (aJ hJ (hr.mono (by decide)) (ae (af 2) ah))) ah)))) (B9 (sJ (iQ (aJ dC (hr.mono (by decide)) (ae (DP.toS (aJ tu (hr.mono (by decide)) (ae (af 2) ah))) ah))))))) (aq (aI zf)) cV)));(intro _;kernel_rfl)));exact
  (aq (aI (pQ (jW (jN hr.units) nE (aJ bp (hr.mono (by decide)) (ae (DP.toS (eG ah)) ah)) cH (bG _)) (sA (jW (jN hr.units) nE (aJ bp (hr.mono (by decide)) (ae (QP.dp (xA (aG (dM (aG (QP.of ag) (aG (QP.of (hW ag)) (aG (QP.of ag) cT)))) (aG (dM (aG (QP.of ag) (aG (QP.of ag) (aG (QP.of ag) cT)))) cT db) db))) ah)) cH (bG _))))))))
end
theorem EF {p:FT}{f g:FE}{ρ:ay}(h:p ρ=some true):BK p f g ρ=f ρ:=by unfold BK;rw[h];rfl
theorem Er {p:FT}{f g:FE}{ρ:ay}(h:p ρ=some false):BK p f g ρ=g ρ:=by unfold BK;rw[h];rfl
theorem CB {f:FE}{ρ:ay}{ds:List D}(h:f ρ=some (.tup ds)):c9 f ρ=some ds:=by unfold c9;rw[h];rfl
theorem sN {f:FE}{ρ:ay}{ds:List D}(h:f ρ=some (.lst ds)):c9 f ρ=some ds:=by unfold c9;rw[h];rfl
def tx(l:List Nat):Str:=⟨l.toArray⟩
def gl(s:List Nat):List (List Nat)->List Nat
 | []=>[]
 | [a]=>a
 |a::b::r=>a++s++gl s (b::r)
theorem cg(a b:List Nat):tx a++tx b=tx (a++b):=by
 show(⟨a.toArray++b.toArray⟩:Str)=⟨(a++b).toArray⟩;simp
theorem uU(s:List Nat): ∀ls:List (List Nat),(tx s).join (ls.map tx)=tx (gl s ls)
 | []=>rfl
 | [a]=>rfl
 |a::b::r=>by
  show tx a++tx s++(tx s).join ((b::r).map tx)=tx (a++s++gl s (b::r));rw[uU s (b::r),cg,cg]
theorem fM(l:List Nat):(tx l).length=l.length:=by show l.toArray.size=_;simp
theorem uL {s:List Nat}{ls:List (List Nat)}{B:Nat}(hb: ∀l∈ls,l.length<=B)(hz:ls.length*B+ls.length*s.length<=16777216):ig (.str (tx s)) (.lst (ls.map λl=>.str (tx l)))=some (.str (tx (gl s ls))):=by
 have e:ls.map (λl=>D.str (tx l))=(ls.map tx).map D.str:=by rw[List.map_map];rfl
 show(jk (ls.map λl=>D.str (tx l))).bind _=_
 rw[e,qC,Option.bind_some];have ok:JoinOk (tx s) (ls.map tx)=true:=by
  unfold JoinOk;rw[StrLaws.joinFits (B:=B) (λy hy=>by
   obtain⟨l,hl,rfl⟩:=List.mem_map.mp hy
   rw[fM];exact hb l hl) (by rw[List.length_map,fM];exact hz)]
  rfl
 rw[if_pos ok];show some (D.str (Builtin.Str.glued (tx s) (ls.map tx)))=_;rw[StrLaws.glued_eq_join,uU]
set_option maxHeartbeats 1000000
def wL(n:Nat):List Nat:=(Nat.toDigits 10 n).map Char.toNat
def rR(i:Int):List Nat:=(toString i).toList.map Char.toNat
theorem iy(i:Int):Str.ofString (toString i)=tx (rR i):=Str.ofString_eq_toList _
theorem vg(n:Nat):rR (n:Int)=wL n:=by
 unfold rR wL;have:toString (n:Int)=String.ofList (Nat.toDigits 10 n):=rfl
 rw[this,String.toList_ofList]
theorem uI {i:Int}(h:i<0):rR i=45::wL i.natAbs:=by
 obtain⟨m,rfl⟩: ∃m:Nat,i=Int.negSucc m:=⟨(-i-1).toNat,by omega⟩
 unfold rR wL;have:toString (Int.negSucc m)="-"++String.ofList (Nat.toDigits 10 (m+1)):=rfl
 rw[this,String.toList_append,List.map_append];simp only[String.toList_ofList];rfl
theorem qU: ∀d:Nat,d<10->(Nat.digitChar d).toNat=48+d:=by decide
theorem t7 {n:Nat}(h:n<10):wL n=[48+n]:=by
 unfold wL;rw[Nat.toDigits_of_lt_base h,List.map_singleton,qU n h]
theorem y9 {n:Nat}(h:10<=n):wL n=wL (n / 10)++[48+n % 10]:=by
 unfold wL;rw[Nat.toDigits_of_base_le (by decide) h,List.map_append,List.map_singleton,qU _ (Nat.mod_lt _ (by decide))]
theorem sE: ∀(f n:Nat),n<10^(f+1)->(wL n).length<=f+1
 |0,n,h=>by rw[t7 (by simpa using h)];simp
 |f+1,n,h=>by
  by_cases e:n<10
  ·rw[t7 e];simp
  ·rw[y9 (by omega),List.length_append,List.length_singleton]
   have:=sE f (n / 10) (by
    rw[Nat.div_lt_iff_lt_mul (by decide)]
    rw[Nat.pow_succ] at h;exact h)
   omega
theorem big(k:Nat)(h:k<=900):k<=sizeLine:=Nat.le_trans h (by decide)
theorem yj {a b:List Nat}(h:a.length+b.length<=900):ij (.str (tx a)) (.str (tx b))=some (.str (tx (a++b))):=by
 show(if(tx a).length+(tx b).length<=sizeLine then some (D.str (tx a++tx b)) else none)=_
 rw[fM,fM,if_pos (big _ h),cg]
theorem DH: ∀d:Nat,d<10->lr (.str "0123456789") (nI d)=some (.str (tx [48+d]))
 |0,_=>by rfl
 |1,_=>by rfl
 |2,_=>by rfl
 |3,_=>by rfl
 |4,_=>by rfl
 |5,_=>by rfl
 |6,_=>by rfl
 |7,_=>by rfl
 |8,_=>by rfl
 |9,_=>by rfl
 |n+10,h=>absurd h (by omega)
def cF:FT:=cR (au BB (ak 0) (av (.int 9)))
def bF:FS:=aD (bc 0 (au cn (ak 0) (av (.int 10)))) (bc 1 (au ij (au lr (av (.str "0123456789")) (au bj (ak 0) (av (.int 10)))) (ak 1)))
theorem yx(m:Nat)(s1:Sl):au lr (av (.str "0123456789")) (au bj (ak 0) (av (.int 10))) [.v (nI m),s1]=some (.str (tx [48+m % 10])):=
 (bo (x:=.str "0123456789") rfl ((bo (x:=nI m) (y:=.int 10) rfl rfl).trans (Gi (n:=10) (by decide)))).trans (DH _ (Nat.mod_lt _ (by decide)))
theorem qB: ∀(f m:Nat) (T:List Nat),m<10^(f+1)->T.length+f<=800-> ∃s0,sR cF bF (f+1) [.v (nI m),.v (.str (tx T))]=.nx [s0,.v (.str (tx (if 9<m then wL (m / 10)++T else T)))]
 |0,m,T,h,_=>by
  have h:m<10:=by simpa using h
  refine⟨.v (nI m),?_⟩
  have t:cF [.v (nI m),.v (.str (tx T))]=some false:=cN ((bo (x:=nI m) (y:=.int 9) rfl rfl).trans (by rw[lg,decide_eq_false (by omega)]))
  unfold sR;rw[t,if_neg (by omega)]
 |f+1,m,T,h,hT=>by
  by_cases e:9<m
  ·have t:cF [.v (nI m),.v (.str (tx T))]=some true:=cN ((bo (x:=nI m) (y:=.int 9) rfl rfl).trans (by rw[lg,decide_eq_true (by omega)]))
   have q1:bc 0 (au cn (ak 0) (av (.int 10))) [.v (nI m),.v (.str (tx T))]=.nx [.v (nI (m / 10)),.v (.str (tx T))]:=by
    exact(fL (d:=nI (m / 10)) ((bo (x:=nI m) (y:=.int 10) rfl rfl).trans ((hV (by decide) (by decide)).trans rfl))).trans rfl
   have q2:bc 1 (au ij (au lr (av (.str "0123456789")) (au bj (ak 0) (av (.int 10)))) (ak 1)) [.v (nI (m / 10)),.v (.str (tx T))]=.nx [.v (nI (m / 10)),.v (.str (tx ([48+m / 10 % 10]++T)))]:=
    (fL ((bo (yx _ _) (y:=.str (tx T)) rfl).trans (yj (by simp;omega)))).trans rfl
   have hl:m / 10<10^(f+1):=by
    rw[Nat.div_lt_iff_lt_mul (by decide)]
    rw[Nat.pow_succ] at h;exact h
   obtain⟨s0,ih⟩:=qB f (m / 10) ([48+m / 10 % 10]++T) hl (by simp;omega)
   refine⟨s0,?_⟩
   have qb:bF [.v (nI m),.v (.str (tx T))]=.nx [.v (nI (m / 10)),.v (.str (tx ([48+m / 10 % 10]++T)))]:=(bv q1).trans q2
   unfold sR;rw[t];dsimp only;rw[qb];dsimp only;rw[ih,if_pos e];congr 6
   by_cases e2:9<m / 10
   ·rw[if_pos e2,y9 (n:=m / 10) (by omega),List.append_assoc]
   ·rw[if_neg e2,t7 (n:=m / 10) (by omega),Nat.mod_eq_of_lt (by omega)]
  ·refine⟨.v (nI m),?_⟩
   have t:cF [.v (nI m),.v (.str (tx T))]=some false:=cN ((bo (x:=nI m) (y:=.int 9) rfl rfl).trans (by rw[lg,decide_eq_false (by omega)]))
   unfold sR;rw[t,if_neg e]
theorem u4 {m:Nat}(h:m<10^64): ∃ρ,aD (bc 1 (au lr (av (.str "0123456789")) (au bj (ak 0) (av (.int 10))))) (aD (sR cF bF 64) (aT (ak 1))) [.v (nI m),.no]=.rt (.str (tx (wL m))) ρ:=by
 obtain⟨s0,e⟩:=qB 63 m [48+m % 10] h (by simp)
 refine⟨_,(bv (ρ':=[.v (nI m),.v (.str (tx [48+m % 10]))]) ((fL (yx m .no)).trans rfl)).trans ((bv e).trans (fY ?_))⟩
 show some (D.str _)=_
 by_cases e:9<m
 ·rw[if_pos e,<-y9 (by omega)]
 ·rw[if_neg e,t7 (by omega),Nat.mod_eq_of_lt (by omega)]
theorem AN {m:Nat}(h:m<10^64):b7 [nI m]=some (.str (tx (wL m))):=by
 refine pJ (kd:=.s) (n:=2) (t:=c7) ?_
 obtain⟨ρ,e⟩:=u4 h
 refine⟨ρ,?_⟩
 unfold c7;have t:cR (au zm (ak 0) (av (.int 0))) (gp 2 [nI m])=some false:=cN ((bo (x:=nI m) (y:=.int 0) rfl rfl).trans (by rw[je,decide_eq_false (by omega)]))
 exact(bv (ρ':=[.v (nI m),.no]) (qh t)).trans e
theorem sq {i:Int}(h:i.natAbs<10^64):bB [.int i]=some (.str (tx (rR i))):=by
 refine pJ (kd:=.s) (n:=2) (t:=eO) ?_
 unfold eO
 by_cases hi:i<0
 ·have t:cR (au zm (ak 0) (av (.int 0))) (gp 2 [.int i])=some true:=cN ((bo (x:=.int i) (y:=.int 0) rfl rfl).trans (by rw[je,decide_eq_true hi]))
  refine⟨gp 2 [.int i],Ch ((BC t).trans (fY ?_))⟩
  have sb:au gg (av (.int 0)) (ak 0) (gp 2 [.int i])=some (nI i.natAbs):=by
   refine(bo (x:=.int 0) (y:=.int i) rfl rfl).trans ((mq _ _).trans ?_)
   show some (D.int _)=some (D.int _);congr 2
   omega
  refine(bo (x:=.str (tx [45])) rfl ((gy (ds:=[nI i.natAbs]) (aW sb rfl) rfl).trans (AN h))).trans ?_
  have hl:=sE 63 i.natAbs h
  rw[yj (by simp;omega),uI hi]
  rfl
 ·obtain⟨m,rfl⟩: ∃m:Nat,i=(m:Int):=⟨i.toNat,by omega⟩
  obtain⟨ρ,e⟩:=u4 (m:=m) (by simpa using h)
  have t:cR (au zm (ak 0) (av (.int 0))) (gp 2 [nI m])=some false:=cN ((bo (x:=nI m) (y:=.int 0) rfl rfl).trans (by rw[je,decide_eq_false (by omega)]))
  rw[vg];exact⟨ρ,(bv (ρ':=[.v (nI m),.no]) (qh t)).trans e⟩
theorem dh {i:Int}(h:i.natAbs<10^20):(rR i).length<=21:=by
 have hl:=sE 19 i.natAbs h
 by_cases hi:i<0
 ·rw[uI hi,List.length_cons];omega
 ·obtain⟨m,rfl⟩: ∃m:Nat,i=(m:Int):=⟨i.toNat,by omega⟩
  rw[vg];have:((m:Int)).natAbs=m:=by omega
  rw[this] at hl;omega
theorem tH {i:Int}(h:i.natAbs<10^20):i.natAbs.log2<1920:=by
 by_cases e:i.natAbs=0
 ·rw[e];decide
 ·exact Nat.lt_of_lt_of_le ((Nat.log2_lt e).mpr (Nat.lt_of_lt_of_le h (show 10^20<=2^80 by decide))) (by decide)
theorem C2(ns:List Int)(k:Nat)(hk:1<=k)(ρ:ay)(h:ak 0 ρ=some (jA ns)): ∃m:Nat,m<=k/\am ua (ab (av (.int 1)) (ab (am jc (ab (av (.int k)) (ab (am cI (ab (ak 0) (aj))) (aj)))) (aj))) ρ=some (nI m):=by
 have e1:am cI (ab (ak 0) aj) ρ=some (nI ns.length):=by
  rw[dq (aW h rfl)];show some (D.int ((ns.map D.int).length:Int))=_;rw[List.length_map]
 refine⟨max 1 (min k ns.length),by omega,?_⟩
 refine(dq (aW rfl (aW ((dq (aW rfl (aW e1 rfl))).trans rfl) rfl))).trans ?_
 show some (D.int _)=some (D.int _);congr 2
 split<;>split<;>omega
abbrev tW(q:Int×Int×Int):D:=.tup [.int q.1,.int q.2.1,.int q.2.2]
def wO(q:Int×Int×Int):List Nat:=gl [44] [rR q.1,rR q.2.1,rR q.2.2]
def B3(q:Int×Int×Int):Prop:=q.1.natAbs<10^20/\q.2.1.natAbs<10^20/\q.2.2.natAbs<10^20
def Tm(L:List (Int×Int×Int)):Prop:=L.length<=12/\ ∀q∈L,B3 q
theorem xL(i j k:Int):Dx "," "," i j k=tx (wO (i,j,k)):=by
 unfold Dx Dw wO;rw[iy,iy,iy,show Str.empty=tx [] from rfl,show(Str.ofString ",")=tx [44] from rfl,cg,cg,cg,cg,cg];simp only[gl,List.nil_append,List.append_assoc]
theorem B6 {q:Int×Int×Int}(h:B3 q):zS "," "," [.int q.1,.int q.2.1,.int q.2.2]=some (.str (tx (wO q))):=by
 have l1:=dh h.1
 have l2:=dh h.2.1
 have l3:=dh h.2.2
 show(if _ then some (D.str (Dx "," "," q.1 q.2.1 q.2.2)) else none)=_
 have e3:Dw "," q.1 q.2.1=tx (rR q.1++[44]++rR q.2.1):=by
  unfold Dw;rw[iy,iy,show Str.empty=tx [] from rfl,show(Str.ofString ",")=tx [44] from rfl,cg,cg,cg];rfl
 rw[if_pos,xL];refine⟨tH h.1,tH h.2.1,tH h.2.2,?_,?_,?_,?_,?_⟩
 ·rw[iy,show Str.empty=tx [] from rfl,cg,fM];exact big _ (by simp;omega)
 ·rw[iy,show Str.empty=tx [] from rfl,show(Str.ofString ",")=tx [44] from rfl,cg,cg,fM];exact big _ (by simp;omega)
 ·rw[e3,fM];exact big _ (by simp;omega)
 ·rw[e3,show(Str.ofString ",")=tx [44] from rfl,cg,fM];exact big _ (by simp;omega)
 ·rw[xL,fM];unfold wO;simp only[gl];exact big _ (by simp;omega)
theorem zx {q:Int×Int×Int}(h:B3 q):(wO q).length<=65:=by
 have l1:=dh h.1
 have l2:=dh h.2.1
 have l3:=dh h.2.2
 unfold wO;simp only[gl];simp;omega
def Br(L:List (Int×Int×Int)):List Nat:=gl [32] (L.map wO)
theorem yD {L:List (Int×Int×Int)}(S:Tm L):ig (.str " ") (.lst (L.map λq=>.str (tx (wO q))))=some (.str (tx (Br L))):=by
 have:=uL (s:=[32]) (ls:=L.map wO) (B:=65) (λl hl=>by
  obtain⟨q,hq,rfl⟩:=List.mem_map.mp hl
  exact zx (S.2 q hq)) (by rw[List.length_map];have:=S.1;simp;omega)
 rw[List.map_map] at this;exact this
def tZ(L:List (Int×Int×Int)):Str:=if L.isEmpty=true then "none" else tx (Br L)
theorem jH {L:List (Int×Int×Int)}(S:Tm L):bf [.lst (L.map tW)]=some (.str (tZ L)):=by
 apply vb (kd:=.s) (n:=1) (t:=eU)
 unfold eU;have t:kI (ak 0) (gp 1 [.lst (L.map tW)])=some (!L.isEmpty):=by
  show some (!(L.map tW).isEmpty)=_;rw[List.isEmpty_map]
 unfold tZ;cases e:L.isEmpty with
 |true=>
  rw[e] at t;exact fY ((Er t).trans rfl)
 |false=>
  rw[e] at t;rw[if_neg (by decide)]
  refine fY ((EF t).trans ((bo (x:=.str " ") rfl (iX (ds:=L.map tW) (ys:=L.map λq=>.str (tx (wO q))) (sN rfl) (by rw[List.length_map];have:=S.1;omega) ?_)).trans (yD S)))
  exact fA (h:=tW) L λq hq=>⟨_,rfl,(dq (ds:=[.int q.1,.int q.2.1,.int q.2.2]) rfl).trans (B6 (S.2 q hq))⟩
theorem F1(L:List (Int×Int×Int)):cM (.lst (L.map tW))<=32:=by
 have:=mC (m:=1) (l:=L.map tW) λd hd=>by
  obtain⟨q,_,rfl⟩:=List.mem_map.mp hd
  unfold cM;have:=mC (m:=0) (l:=[D.int q.1,D.int q.2.1,D.int q.2.2]) λd hd=>by
   rcases List.mem_cons.mp hd with rfl|hd
   ·rw[jp];omega
   ·rcases List.mem_cons.mp hd with rfl|hd
    ·rw[jp];omega
    ·rw[List.mem_singleton.mp hd,jp];omega
  omega
 unfold cM;omega
theorem Dl {q:Int×Int×Int}(h:B3 q)(s0 s1 s2 s3 s4':Sl):au ig (av (.str ",")) (bz 1 (c9 (ak 4)) (gN 5) (cY) (am (nF 1 bB) (ab (ak 5) (aj)))) [s0,s1,s2,s3,.v (tW q)]=some (.str (tx (wO q))):=by
 have up:(10:Nat)^20<=10^64:=by decide
 have f1:=sq (i:=q.1) (Nat.lt_of_lt_of_le h.1 up)
 have f2:=sq (i:=q.2.1) (Nat.lt_of_lt_of_le h.2.1 up)
 have f3:=sq (i:=q.2.2) (Nat.lt_of_lt_of_le h.2.2 up)
 have l1:=dh h.1
 have l2:=dh h.2.1
 have l3:=dh h.2.2
 refine(bo (x:=.str ",") rfl (iX (ds:=[q.1,q.2.1,q.2.2].map D.int) (ys:=[q.1,q.2.1,q.2.2].map λi=>.str (tx (rR i))) (CB rfl) (by simp) ?_)).trans ?_
 ·refine fA (h:=D.int) _ λi hi=>⟨_,rfl,(gy (ds:=[.int i]) rfl rfl).trans ?_⟩
  rcases List.mem_cons.mp hi with rfl|hi
  ·exact f1
  ·rcases List.mem_cons.mp hi with rfl|hi
   ·exact f2
   ·rw[List.mem_singleton.mp hi];exact f3
 ·have:=uL (s:=[44]) (ls:=[rR q.1,rR q.2.1,rR q.2.2]) (B:=21) (λl hl=>by
   rcases List.mem_cons.mp hl with rfl|hl
   ·exact l1
   ·rcases List.mem_cons.mp hl with rfl|hl
    ·exact l2
    ·rw[List.mem_singleton.mp hl];exact l3) (by simp)
  exact this
theorem oU {L:List (Int×Int×Int)}(S:Tm L):cS [.lst (L.map tW)]=some (.bl true):=by
 refine pJ (kd:=.s) (n:=4) (t:=iA) ⟨[.v (.lst (L.map tW)),.v (.str (tZ L)),.v (.lst (L.map tW)),.v (.str (tZ L))],?_⟩
 unfold iA;have q1:bc 1 (av (.str "none")) (gp 4 [.lst (L.map tW)])=.nx [.v (.lst (L.map tW)),.v (.str "none"),.no,.no]:=(fL rfl).trans rfl
 have tg:cR (au BB (am cI (ab (ak 0) (aj))) (av (.int 0))) [.v (.lst (L.map tW)),.v (.str "none"),.no,.no]=some (!L.isEmpty):=by
  refine cN ((bo (x:=.int ((L.map tW).length:Int)) (y:=.int 0) ((dq (ds:=[.lst (L.map tW)]) rfl).trans rfl) rfl).trans ?_)
  rw[lg];cases L with
  |nil=>rfl
  |cons q L=>simp
 have q2:iR (cR (au BB (am cI (ab (ak 0) (aj))) (av (.int 0)))) (bc 1 (au ig (av (.str " ")) (bz 1 (c9 (ak 0)) (gN 4) (cY) (au ig (av (.str ",")) (bz 1 (c9 (ak 4)) (gN 5) (cY) (am (nF 1 bB) (ab (ak 5) (aj)))))))) (skip) [.v (.lst (L.map tW)),.v (.str "none"),.no,.no]=.nx [.v (.lst (L.map tW)),.v (.str (tZ L)),.no,.no]:=by
  unfold tZ;cases e:L.isEmpty with
  |true=>rw[e] at tg;exact(qh tg).trans rfl
  |false=>
   rw[e] at tg;rw[if_neg (by decide)]
   refine(BC tg).trans ((fL ((bo (x:=.str " ") rfl (iX (ds:=L.map tW) (ys:=L.map λq=>.str (tx (wO q))) (sN rfl) (by rw[List.length_map];have:=S.1;omega) ?_)).trans (yD S))).trans rfl)
   exact fA (h:=tW) L λq hq=>⟨_,rfl,Dl (S.2 q hq) _ _ _ _ .no⟩
 have q3:bc 2 (am rg (ab (ak 0) (aj))) [.v (.lst (L.map tW)),.v (.str (tZ L)),.no,.no]=.nx [.v (.lst (L.map tW)),.v (.str (tZ L)),.v (.lst (L.map tW)),.no]:=(fL (d:=.lst (L.map tW)) ((dq (ds:=[.lst (L.map tW)]) rfl).trans rfl)).trans rfl
 have q4:bc 3 (am (nF 1 bf) (ab (ak 2) (aj))) [.v (.lst (L.map tW)),.v (.str (tZ L)),.v (.lst (L.map tW)),.no]=.nx [.v (.lst (L.map tW)),.v (.str (tZ L)),.v (.lst (L.map tW)),.v (.str (tZ L))]:=(fL ((gy (ds:=[.lst (L.map tW)]) rfl rfl).trans (jH S))).trans rfl
 rw[bv q1,bv q2,bv q3,bv q4];refine fY (ss (n9 (cN rfl) (cN (ss (n9 (cN ((bo (x:=.str (tZ L)) (y:=.str (tZ L)) rfl rfl).trans (oZ (by unfold cM;omega)))) (cN ((bo (x:=.lst (L.map tW)) (y:=.lst (L.map tW)) rfl rfl).trans (oZ (F1 L)))))))))
abbrev eE(e:Int×Int×Int):List aS×D:=(iK [e.1,e.2.1],.int e.2.2)
theorem CV {a b:List Int}(h:iK a=iK b):a=b:=by
 unfold iK at h;exact List.map_inj_right (λ_ _ e=>Sum.inl.inj e) |>.mp h
theorem B5(E:List (Int×Int×Int))(q:Int×Int×Int)(hq:B3 q)(hE: ∀e∈E,B3 e): ∃E':List (Int×Int×Int),lw (E.map eE) (iK [q.1,q.2.1]) (.int q.2.2)=E'.map eE/\E'.length<=E.length+1/\ ∀e∈E',B3 e:=by
 unfold lw;split
 ·refine⟨E.map λe=>if e.1=q.1/\e.2.1=q.2.1 then q else e,?_,by simp,λe he=>?_⟩
  ·rw[List.map_map,List.map_map]
   refine List.map_congr_left λe _=>?_
   show(if iK [e.1,e.2.1]=iK [q.1,q.2.1] then(iK [e.1,e.2.1],D.int q.2.2) else eE e)=eE (if e.1=q.1/\e.2.1=q.2.1 then q else e)
   by_cases h:e.1=q.1/\e.2.1=q.2.1
   ·rw[if_pos h,if_pos (by rw[h.1,h.2]),h.1,h.2]
   ·rw[if_neg h,if_neg λz=>h (by have:=CV z;simp at this;exact this)]
  ·obtain⟨e0,h0,rfl⟩:=List.mem_map.mp he
   split
   ·exact hq
   ·exact hE e0 h0
 ·refine⟨E++[q],by rw[List.map_append];rfl,by simp,λe he=>?_⟩
  rcases List.mem_append.mp he with h|h
  ·exact hE e h
  ·rw[List.mem_singleton] at h;subst h;exact hq
theorem Da(E:List (Int×Int×Int))(hE: ∀e∈E,B3 e){x y:Int}(h: ∃e∈E,e.1=x/\e.2.1=y): ∃v:Int,gx (E.map eE) (iK [x,y])=some (.int v)/\v.natAbs<10^20:=by
 obtain⟨e,he,rfl,rfl⟩:=h
 unfold gx;cases hf:(E.map eE).find? (λkv=>decide (kv.1=iK [e.1,e.2.1])) with
 |none=>
  have:=List.find?_eq_none.mp hf (eE e) (List.mem_map_of_mem he)
  exact absurd (decide_eq_true rfl) this
 |some p=>
  obtain⟨e',he',rfl⟩:=List.mem_map.mp (List.mem_of_find?_eq_some hf)
  exact⟨e'.2.2,rfl,(hE e' he').2.2⟩
theorem ue: ∀E:List (Int×Int×Int),intKs (E.map eE)=some (E.map λe=>[e.1,e.2.1])
 | []=>rfl
 |e::E=>by
  rw[List.map_cons];show((intKs.intK (iK [e.1,e.2.1])).bind λns=>(intKs (E.map eE)).map (ns:: ·))=_
  rw[ue E];rfl
theorem ux(E:List (Int×Int×Int))(hE: ∀e∈E,B3 e): ∀K:List (List Int),(∀k∈K,∃e∈E,k=[e.1,e.2.1])-> ∃L:List (Int×Int×Int),K=L.map (λq=>[q.1,q.2.1])/\ ∀q∈L,B3 q/\gx (E.map eE) (iK [q.1,q.2.1])=some (.int q.2.2)
 | [],_=>⟨[],rfl,λq hq=>by cases hq⟩
 |k::K,h=>by
  obtain⟨L,e1,e2⟩:=ux E hE K λk hk=>h k (List.mem_cons_of_mem _ hk)
  obtain⟨e,he,rfl⟩:=h k List.mem_cons_self
  obtain⟨v,h1,h2⟩:=Da E hE ⟨e,he,rfl,rfl⟩
  refine⟨(e.1,e.2.1,v)::L,by rw[List.map_cons,<-e1],λq hq=>?_⟩
  rcases List.mem_cons.mp hq with rfl|hq
  ·exact⟨⟨(hE e he).1,(hE e he).2.1,h2⟩,h1⟩
  ·exact e2 q hq
theorem Ai {f:GA}{ρ ρ1:ay}{ds:List D}(h:f ρ=some (ds,ρ1))(h2:ds.length<=1000):qu f ρ=some (.tup ds,ρ1):=by
 unfold qu;rw[h];exact if_pos (Nat.le_trans h2 (by decide))
abbrev GL:FS:=aD (mB 5 (qu (iY (eX gg (bN 0 1 aP (fG (ab (ak 2) (aj)))) (pu (au cn (ak 2) (av (.int 2))))) (iY (eX gg (bN 0 1 aP (fG (ab (ak 2) (aj)))) (pu (au cn (ak 2) (av (.int 2))))) (fG (aj))))))
 (jQ 3 (oD (ak 5)) (eX bI (pu (av (.int 1))) (bN 0 1 aP (fG (ab (ak 2) (aj))))))
theorem Gg {v w:Int}(hw:w<=1000)(h0:0<=v)(h1:v<w)(u:Int)(hu:u.natAbs<=1000):(v+u).natAbs<10^20:=Nat.lt_of_le_of_lt (show(v+u).natAbs<=3000 by omega) (by decide)
theorem wS(wide:Int)(hw1:0<wide)(hw2:wide<=1000)(s1:Sl): ∀(l:List D) (N:Nat) (a b:Int) (E:List (Int×Int×Int)) (s4 s5:Sl),Bag N a b->N+3*l.length<=1000->E.length+l.length<=12->(∀e∈E,B3 e)->
 ∃(a' b':Int) (E':List (Int×Int×Int)) (s4' s5':Sl),gC (gN 4) GL l [.arg (bY a b),s1,.v (.int wide),.ob (.dT (E.map eE)),s4,s5]=.nx [.arg (bY a' b'),s1,.v (.int wide),.ob (.dT (E'.map eE)),s4',s5']/\E'.length<=12/\ ∀e∈E',B3 e:=by
 intro l
 induction l with
 |nil=>intro N a b E s4 s5 B _ hF hE;exact⟨a,b,E,s4,s5,rfl,by simpa using hF,hE⟩
 |cons d l ih=>
  intro N a b E s4 s5 B hN hF hE;rw[List.length_cons] at hN hF;have wb:wide.natAbs<10^20:=Nat.lt_of_le_of_lt (show wide.natAbs<=1000 by omega) (by decide)
  obtain⟨d1,a1,b1,e1,B1,d10,d11⟩:=i9 (m:=wide) B (by omega) hw1 wb
  obtain⟨d2,a2,b2,e2,B2,d20,d21⟩:=i9 (m:=wide) B1 (by omega) hw1 wb
  obtain⟨d3,a3,b3,e3,B3',d30,d31⟩:=i9 (m:=wide) B2 (by omega) hw1 wb
  have hh: ∀(a b:Int) (s4 s5:Sl),au cn (ak 2) (av (.int 2)) [.arg (bY a b),s1,.v (.int wide),.ob (.dT (E.map eE)),s4,s5]=some (.int (wide / 2)):=λa b s4 s5=>(bo (x:=.int wide) (y:=.int 2) rfl rfl).trans (hV (j:=2) (by decide) (by decide))
  have q1:mB 5 (qu (iY (eX gg (bN 0 1 aP (fG (ab (ak 2) (aj)))) (pu (au cn (ak 2) (av (.int 2))))) (iY (eX gg (bN 0 1 aP (fG (ab (ak 2) (aj)))) (pu (au cn (ak 2) (av (.int 2))))) (fG (aj))))) [.arg (bY a b),s1,.v (.int wide),.ob (.dT (E.map eE)),.v d,s5]
   =.nx [.arg (bY a2 b2),s1,.v (.int wide),.ob (.dT (E.map eE)),.v d,.v (.tup [.int (d1-wide / 2),.int (d2-wide / 2)])]:=
   (po (Ai (ds:=[.int (d1-wide / 2),.int (d2-wide / 2)]) (qH (k5 (gV (i:=0) (n:=1) (b0:=bY a b) (ds:=[.int wide]) rfl (gv rfl) rfl rfl e1) (vd (hh a1 b1 _ _)) (mq _ _)) (qH (k5 (gV (i:=0) (n:=1) (b0:=bY a1 b1) (ds:=[.int wide]) rfl (gv rfl) rfl rfl e2) (vd (hh a2 b2 _ _)) (mq _ _)) rfl)) (by simp))).trans rfl
  have bb:B3 (d1-wide / 2,d2-wide / 2,1+d3):=by
   refine⟨?_,?_,?_⟩
   ·have:=Gg hw2 d10 d11 (-(wide / 2)) (by omega);rw[<-Int.sub_eq_add_neg] at this;exact this
   ·have:=Gg hw2 d20 d21 (-(wide / 2)) (by omega);rw[<-Int.sub_eq_add_neg] at this;exact this
   ·have:=Gg hw2 d30 d31 1 (by decide);rw[Int.add_comm] at this;exact this
  obtain⟨E',p1,p2,p3⟩:=B5 E (d1-wide / 2,d2-wide / 2,1+d3) bb hE
  have q2:jQ 3 (oD (ak 5)) (eX bI (pu (av (.int 1))) (bN 0 1 aP (fG (ab (ak 2) (aj))))) [.arg (bY a2 b2),s1,.v (.int wide),.ob (.dT (E.map eE)),.v d,.v (.tup [.int (d1-wide / 2),.int (d2-wide / 2)])]
   =.nx [.arg (bY a3 b3),s1,.v (.int wide),.ob (.dT (E'.map eE)),.v d,.v (.tup [.int (d1-wide / 2),.int (d2-wide / 2)])]:=by
   have z:eX bI (pu (av (.int 1))) (bN 0 1 aP (fG (ab (ak 2) (aj)))) [.arg (bY a2 b2),s1,.v (.int wide),.ob (.dT (E.map eE)),.v d,.v (.tup [.int (d1-wide / 2),.int (d2-wide / 2)])]=some (.int (1+d3),[.arg (bY a3 b3),s1,.v (.int wide),.ob (.dT (E.map eE)),.v d,.v (.tup [.int (d1-wide / 2),.int (d2-wide / 2)])]):=
    k5 (vd rfl) (gV (i:=0) (n:=1) (b0:=bY a2 b2) (ds:=[.int wide]) rfl (gv rfl) rfl rfl e3) (jd _ _)
   unfold jQ;rw[z];show(if(E.map eE).length<=1000 then _ else _)=_
   rw[if_pos (by rw[List.length_map];omega),p1];rfl
  obtain⟨a',b',E'',s4',s5',h,h2⟩:=ih (N+1+1+1) a3 b3 E' (.v d) _ B3' (by omega) (by omega) p3
  exact⟨a',b',E'',s4',s5',(n5 (ρ1:=[.arg (bY a b),s1,.v (.int wide),.ob (.dT (E.map eE)),.v d,s5]) rfl ((bv q1).trans q2)).trans h,h2⟩
theorem zA {N:Nat}{a b:Int}(B:Bag N a b)(hN:N<=100): ∃(L:List (Int×Int×Int)) (b':List D),cp (bY a b) []=some (.lst (L.map tW),b')/\Tm L:=by
 obtain⟨d1,a1,b1,e1,B1,d10,d11⟩:=i9 (m:=11) B (by omega) (by decide) (by decide)
 obtain⟨d2,a2,b2,e2,B2,d20,d21⟩:=i9 (m:=3) B1 (by omega) (by decide) (by decide)
 obtain⟨m,rfl⟩: ∃m:Nat,d1=(m:Int):=⟨d1.toNat,by omega⟩
 obtain⟨wide,hw,hw1,hw2⟩: ∃w:Int,df (.lst [.int 4,.int 40,.int 1000]) (.int d2)=some (.int w)/\0<w/\w<=1000:=by
  obtain⟨k,rfl⟩: ∃k:Nat,d2=(k:Int):=⟨d2.toNat,by omega⟩
  match k,d21 with
  |0,_=>exact⟨4,rfl,by decide,by decide⟩
  |1,_=>exact⟨40,rfl,by decide,by decide⟩
  |2,_=>exact⟨1000,rfl,by decide,by decide⟩
  |k+3,h=>exact absurd h (by omega)
 have q1:mB 1 (bN 0 1 aP (fG (ab (av (.int 11)) (aj)))) (qw 6 (bY a b) [])=.nx [.arg (bY a1 b1),.v (nI m),.no,.no,.no,.no]:=
  (po (gV (i:=0) (n:=1) (b0:=bY a b) (ds:=[.int 11]) rfl (gv rfl) rfl rfl e1)).trans rfl
 have q2:mB 2 (eX df (pu (eS (ab (av (.int 4)) (ab (av (.int 40)) (ab (av (.int 1000)) (aj)))))) (bN 0 1 aP (fG (ab (av (.int 3)) (aj))))) [.arg (bY a1 b1),.v (nI m),.no,.no,.no,.no]=.nx [.arg (bY a2 b2),.v (nI m),.v (.int wide),.no,.no,.no]:=
  (po (k5 (vd (A2 (ds:=[.int 4,.int 40,.int 1000]) (aW rfl (aW rfl (aW rfl rfl))) (by simp))) (gV (i:=0) (n:=1) (b0:=bY a1 b1) (ds:=[.int 3]) rfl (gv rfl) rfl rfl e2) hw)).trans rfl
 obtain⟨a',b',E,s4',s5',h,hl,hE⟩:=wS wide hw1 hw2 (.v (nI m)) ((List.range m).map nI) (N+1+1) a2 b2 [] .no .no B2 (by simp;omega) (by simp;omega) (λq hq=>by cases hq)
 obtain⟨L,el,hL⟩:=ux E hE (aU aY (E.map λe=>[e.1,e.2.1])) λk hk=>by
  obtain⟨e,he,rfl⟩:=List.mem_map.mp ((br (lt:=aY) _).mem_iff.mp hk)
  exact⟨e,he,rfl⟩
 have ll:L.length<=12:=by
  have:=congrArg List.length el
  rw[(br (lt:=aY) _).length_eq,List.length_map,List.length_map] at this;omega
 refine⟨L,bY a' b',?_,ll,λq hq=>(hL q hq).1⟩
 unfold cp AU ko;rw[bv q1,bv q2,bv (t:=mF 3) (ρ:=[.arg (bY a2 b2),.v (nI m),.v (.int wide),.no,.no,.no]) (ρ':=[.arg (bY a2 b2),.v (nI m),.v (.int wide),.ob (.dT ([].map eE)),.no,.no]) rfl,bv ((uW (ds:=(List.range m).map nI) (gv (rK (n:=m) (aW rfl rfl) (by omega)))).trans h)]
 have sr:qi 3 [.arg (bY a' b'),.v (nI m),.v (.int wide),.ob (.dT (E.map eE)),s4',s5']=some (.lst (L.map λq=>nR [q.1,q.2.1])):=by
  show(intKs (E.map eE)).bind _=_;rw[ue,Option.bind_some,if_pos ⟨by rw[List.length_map];omega,λk hk=>by obtain⟨e,_,rfl⟩:=List.mem_map.mp hk;simp⟩,el,List.map_map]
  rfl
 have rt:aT (bz 1 (c9 (qi 3)) (gN 6) (cY) (bW (ab (au df (ak 6) (av (.int 0))) (ab (au df (ak 6) (av (.int 1))) (ab (yG 3 (ak 6)) (aj)))))) [.arg (bY a' b'),.v (nI m),.v (.int wide),.ob (.dT (E.map eE)),s4',s5']=.rt (.lst (L.map tW)) [.arg (bY a' b'),.v (nI m),.v (.int wide),.ob (.dT (E.map eE)),s4',s5']:=by
  refine fY (iX (ds:=L.map λq=>nR [q.1,q.2.1]) (sN sr) (by rw[List.length_map];omega) ?_)
  refine fA (h:=λq:Int×Int×Int=>nR [q.1,q.2.1]) (o:=tW) L λq hq=>⟨_,rfl,?_⟩
  refine AG (ds:=[.int q.1,.int q.2.1,.int q.2.2]) (aW rfl (aW rfl (aW ?_ rfl))) (by simp)
  show(gx (E.map eE) (iK [q.1,q.2.1]))=_;exact(hL q hq).2
 rw[rt];rfl
abbrev Fq:D:=.tup [.tup [.int 0,.int 1],.tup [.int 1,.int 0]]
abbrev FP:D:=.tup [.tup [.int 0,.int 1,.int 2],.tup [.int 1,.int 2,.int 0]]
abbrev Go:D:=.tup [.tup [.int 0,.int 1,.int 2],.tup [.int 2,.int 0,.int 1]]
theorem Ge:dg [Fq]=some (.lst ([(-1, -2,1),(0,0,1)].map tW)):=by kernel_rfl
theorem FV:iG [Fq]=some (.lst ([(0,0,1)].map tW)):=by kernel_rfl
theorem FK:dg [FP]=some (.lst ([(-2, -4,1),(-1, -2,2),(0,0,1)].map tW)):=by kernel_rfl
theorem Fs:iG [FP]=some (.lst ([(0,0,1)].map tW)):=by kernel_rfl
theorem FW:dg [Go]=some (.lst ([(-2, -4,1),(-1, -2,2),(0,0,1)].map tW)):=by kernel_rfl
theorem Fv:iG [Go]=some (.lst ([(0,0,1)].map tW)):=by kernel_rfl
theorem FY:Tm [(0,0,1)]:=⟨by decide,by unfold B3;decide⟩
theorem GY:Tm [(-1, -2,1),(0,0,1)]:=⟨by decide,by unfold B3;decide⟩
theorem GF:Tm [(-2, -4,1),(-1, -2,2),(0,0,1)]:=⟨by decide,by unfold B3;decide⟩
theorem GQ:Tm []:=⟨by decide,by unfold B3;decide⟩
theorem GP:Tm [(0, -2,1),(10,4,12)]:=⟨by decide,by unfold B3;decide⟩
theorem Cc(ns:List Int)(hn:ns.length<=63):BA [jA ns]=some (.bl true):=by
 refine pJ (kd:=.s) (n:=3) (t:=xv) ?_
 unfold xv;obtain⟨kk,hk1,hk2⟩:=C2 ns 8 (by omega) (gp 3 [jA ns]) rfl
 have es: ∀z:Str,wQ (.str z) (.str z)=some (.bl true):=λz=>oZ (by unfold cM;omega)
 have x2:tZ [(0, -2,1),(10,4,12)]="0,-2,1 10,4,12":=by decide+kernel
 refine xq (λρ=> ∃s1 s2,ρ=[.v (jA ns),s1,s2]) (t8 (ds:=(List.range kk).map nI) (gv (rK (aW hk2 rfl) (by omega))) (pE _ (λd hd ρ hρ=>?_) _ ⟨_,_,rfl⟩)) λρ hρ=>?_
 ·obtain⟨k,hk,rfl⟩:=List.mem_map.mp hd
  rw[List.mem_range] at hk;obtain⟨s1,s2,rfl⟩:=hρ
  obtain⟨a0,b0,eb,B⟩:=CZ ns k (by omega) hn
  obtain⟨L,b',eL,S⟩:=zA B (by omega)
  have q1:lD 0 cp (am (nF 2 fm) (ab (ak 0) (ab (ak 1) (aj)))) (aj) [.v (jA ns),.v (nI k),s2]=some (.lst (L.map tW)):=by
   unfold lD;rw[show am (nF 2 fm) (ab (ak 0) (ab (ak 1) (aj))) [.v (jA ns),.v (nI k),s2]=some (.lst (bY a0 b0)) from(gy (ds:=[jA ns,nI k]) rfl rfl).trans eb];exact(if_pos rfl).trans (by rw[eL];rfl)
  exact⟨_,_,rfl,(qh (tG (b:=true) (su ((gy (ds:=[.lst (L.map tW)]) (aW q1 rfl) rfl).trans (oU S))))).trans rfl,_,_,rfl⟩
 ·refine xq (λρ=> ∃s1 s2,ρ=[.v (jA ns),s1,s2]) (t8 (ds:=[Fq,FP,Go]) (ρ1:=ρ) (gv rfl) (pE _ (λd hd ρ hρ=>?_) _ hρ)) λρ hρ=>⟨ρ,?_⟩
  ·obtain⟨s1,s2,rfl⟩:=hρ
   obtain⟨L,L',S,S',e1,e2⟩: ∃L L':List (Int×Int×Int),Tm L/\Tm L'/\dg [d]=some (.lst (L.map tW))/\iG [d]=some (.lst (L'.map tW)):=by
    rcases List.mem_cons.mp hd with rfl|hd
    ·exact⟨_,_,GY,FY,Ge,FV⟩
    ·rcases List.mem_cons.mp hd with rfl|hd
     ·exact⟨_,_,GF,FY,FK,Fs⟩
     ·rw[List.mem_singleton] at hd;subst hd;exact⟨_,_,GF,FY,FW,Fv⟩
   refine⟨[.v (jA ns),s1,.v d],_,rfl,(qh (Cn (tG (b:=true) (su ((gy (ds:=[.lst (L.map tW)]) (aW ((gy (ds:=[d]) rfl rfl).trans e1) rfl) rfl).trans (oU S)))) (tG (b:=true) (su ((gy (ds:=[.lst (L'.map tW)]) (aW ((gy (ds:=[d]) rfl rfl).trans e2) rfl) rfl).trans (oU S')))))).trans rfl,_,_,rfl⟩
  ·refine fY (ss (n9 (cN ((bo (x:=.str "none") ((gy (ds:=[.lst ([].map tW)]) (aW rfl rfl) rfl).trans ((jH GQ).trans rfl)) (y:=.str "none") rfl).trans (es _))) (cN ((bo (x:=.str "0,-2,1 10,4,12") ((gy (ds:=[.lst ([(0, -2,1),(10,4,12)].map tW)]) (aW rfl rfl) rfl).trans ((jH GP).trans (by rw[x2]))) (y:=.str "0,-2,1 10,4,12") rfl).trans (es _)))))
theorem df_of {K:W.Frag}{h:Heap}{mg:Str->Option Value}(X:K.In h)(G:h.Ns mainGlobals mg){x:Str}{st:Stmt}{ps:List Str}{f:Addr}{oc:Value}{od an:Option Addr}{osl:Array (Option Value)}{kV doc pm cdv ct:Value}(a:W.nsIn K mainGlobals x=some (some (.ref f)))
 (l:K.lookup f=some ⟨oc,od,.func (W.fnOf x x (eC st) (bR st) (al st) .none kV doc pm an cdv ct),osl⟩) (c:W.codeIn K cdv x=true) (k:W.keepIn K (.ref f)=true)
 (b: ∀(kV doc pm:Value) (an:Option Addr) (cdv ct:Value) (us:List Value),us.length=ps.length->bindArgs (W.fnOf x x (eC st) (bR st) (al st) .none kV doc pm an cdv ct) ⟨us,[]⟩=pure (ps.zip us)):Df K mg x st ps:=
 ⟨_,_,sQ l c k,W.mg_of X G a,(sQ l c k).binds b⟩
set_option maxHeartbeats 4000000
theorem all_mk {L:W.OpenLaw}{w:World}{K:W.Frag}{h:Heap}{mg:Str->Option Value}{fb fa:Addr}{od an:Option Addr}{sl:Array (Option Value)}{oc kV dc pm cd ct:Value}(X:K.In h)(G:h.Ns mainGlobals mg)(hfa:mg "law"=some (.ref fb))
 (d0:Df K mg "order_exchanged" cu ["order","one","other"])
 (d1:Df K mg "order_rounds" dH ["order"])
 (d2:Df K mg "lines_of" iq ["square"])
 (d3:Df K mg "table_shown" eJ ["found"])
 (d4:Df K mg "places_from" eN ["size","start","end"])
 (d5:Df K mg "columns_of" fZ ["stand","a","b"])
 (d6:Df K mg "rows_of" j6 ["stand","a","b"])
 (d7:Df K mg "cells_of" ip ["stand","a","b"])
 (d8:Df K mg "behind" ly ["stand","a","b"])
 (d9:Df K mg "is_bare" jX ["stand","a","b"])
 (d10:Df K mg "is_clear" ir ["square","stand","a","b"])
 (d11:Df K mg "is_step" jB ["square","stand","a","b"])
 (d12:Df K mg "steps_from" fU ["square","stand"])
 (d13:Df K mg "added" oT ["one","other"])
 (d14:Df K mg "oddly_often" eT ["stands"])
 (d15:Df K mg "border" mz ["square","crowd"])
 (d16:Df K mg "all_stands" fT ["n"])
 (d17:Df K mg "points_of" gE ["order","half"])
 (d18:Df K mg "pairs" o5 ["ones","others"])
 (d19:Df K mg "grade_by" iM ["marks","stand"])
 (d20:Df K mg "grade" oj ["square","stand"])
 (d21:Df K mg "lean" tQ ["square","stand"])
 (d22:Df K mg "home_of" j4 ["square","stand"])
 (d23:Df K mg "cycles_and_leads" ce ["square"])
 (d24:Df K mg "class_stands" dI ["cycles","leads"])
 (d25:Df K mg "table" pS ["square"])
 (d26:Df K mg "once_divided" dA ["found"])
 (d27:Df K mg "rest" sn ["square"])
 (d28:Df K mg "_law_cell" ik ["_law_script","_law_k"])
 (d29:Df K mg "_law_bag" jI ["_law_script","_law_at"])
 (d30:Df K mg "_law_take" im ["_law_bag_here","_law_many"])
 (d31:Df K mg "_law_figures" cU ["_law_number"])
 (d32:Df K mg "_law_good" iB ["_law_found"])
 (d33:Df K mg "_law_table" gL ["_law_bag_here"])
 (a:W.nsIn K mainGlobals "law"=some (some (.ref fa))) (l:K.lookup fa=some ⟨oc,od,.func (W.fnOf "law" "law" (eC iU) (bR iU) (al iU) .none kV dc pm an cd ct),sl⟩) (c:W.codeIn K cd "law"=true) (k:W.keepIn K (.ref fa)=true)
 (z_abs:W.nsIn K mainGlobals "abs"=some none)
 (z_any:W.nsIn K mainGlobals "any"=some none)
 (z_enumerate:W.nsIn K mainGlobals "enumerate"=some none)
 (z_isinstance:W.nsIn K mainGlobals "isinstance"=some none)
 (z_len:W.nsIn K mainGlobals "len"=some none)
 (z_list:W.nsIn K mainGlobals "list"=some none)
 (z_max:W.nsIn K mainGlobals "max"=some none)
 (z_min:W.nsIn K mainGlobals "min"=some none)
 (z_range:W.nsIn K mainGlobals "range"=some none)
 (z_set:W.nsIn K mainGlobals "set"=some none)
 (z_sorted:W.nsIn K mainGlobals "sorted"=some none)
 (z_str:W.nsIn K mainGlobals "str"=some none)
 (z_tuple:W.nsIn K mainGlobals "tuple"=some none):
 ∃fd:FuncData,(∀(s:Shared) (v:Value),BindsTo s fd ⟨[v],[]⟩ [("_law_script",v)])/\ ∀base:Heap,K.In base->base.Ns mainGlobals mg->FnOk L.prog w K mg base pN 11 fb fd ["_law_script"] (ug K):=by
 have e:=hfa.symm.trans (W.mg_of X G a)
 cases e
 have F:=sQ (st:=iU) l c k
 have B:Bt mg:=⟨W.mg_none_of X G z_abs,W.mg_none_of X G z_any,W.mg_none_of X G z_enumerate,W.mg_none_of X G z_isinstance,W.mg_none_of X G z_len,W.mg_none_of X G z_list,W.mg_none_of X G z_max,W.mg_none_of X G z_min,W.mg_none_of X G z_range,W.mg_none_of X G z_set,W.mg_none_of X G z_sorted,W.mg_none_of X G z_str,W.mg_none_of X G z_tuple⟩
 refine⟨W.fnOf "law" "law" (eC iU) (bR iU) (al iU) .none kV dc pm an cd ct,λs v=>.of_eq rfl,λbase _ _=>?_⟩
 have cC:=jw (P:=L.prog) (w:=w) (base:=base) B d0
 have dD:=lE (P:=L.prog) (w:=w) (base:=base) B d1
 have cL:=sO (P:=L.prog) (w:=w) (base:=base) B d2 dD
 have bp:=m6 (P:=L.prog) (w:=w) (base:=base) B d3
 have bA:=m5 (P:=L.prog) (w:=w) (base:=base) B d4
 have bO:=oN (P:=L.prog) (w:=w) (base:=base) B d5 bA
 have dm:=vS (P:=L.prog) (w:=w) (base:=base) B d6 bA
 have iI:=tJ (P:=L.prog) (w:=w) (base:=base) B d7 dm bO
 have mf:=zb (P:=L.prog) (w:=w) (base:=base) B d8 cC
 have j1:=vN (P:=L.prog) (w:=w) (base:=base) B d9 bO dm
 have iN:=rV (P:=L.prog) (w:=w) (base:=base) B d10 iI
 have jZ:=v4 (P:=L.prog) (w:=w) (base:=base) B d11 j1 iN
 have fP:=oS (P:=L.prog) (w:=w) (base:=base) B d12 mf jZ
 have k7:=zL (P:=L.prog) (w:=w) (base:=base) B d13
 have eP:=mT (P:=L.prog) (w:=w) (base:=base) B d14
 have mo:=zk (P:=L.prog) (w:=w) (base:=base) B d15 eP fP
 have fK:=pk (P:=L.prog) (w:=w) (base:=base) B d16
 have eB:=qG (P:=L.prog) (w:=w) (base:=base) B d17
 have hX:=zV (P:=L.prog) (w:=w) (base:=base) B d18
 have b9:=rT (P:=L.prog) (w:=w) (base:=base) B d19 eB hX
 have pT:=AZ (P:=L.prog) (w:=w) (base:=base) B d20 b9
 have tU:=CU (P:=L.prog) (w:=w) (base:=base) B d21 b9 cL
 have kc:=vI (P:=L.prog) (w:=w) (base:=base) B d22 pT tU
 have ca:=iw (P:=L.prog) (w:=w) (base:=base) B d23 fK mo k7
 have dv:=lM (P:=L.prog) (w:=w) (base:=base) B d24
 have hJ:=zU (P:=L.prog) (w:=w) (base:=base) B d25 ca dv kc
 have dE:=ma (P:=L.prog) (w:=w) (base:=base) B d26
 have tu:=Dj (P:=L.prog) (w:=w) (base:=base) B d27 dE hJ cL
 have iF:=sj (P:=L.prog) (w:=w) (base:=base) B d28
 have kf:=wy (P:=L.prog) (w:=w) (base:=base) B d29 iF
 have cf:=tF (P:=L.prog) (w:=w) (base:=base) B d30
 have c6:=kG (P:=L.prog) (w:=w) (base:=base) B d31
 have eM:=mV (P:=L.prog) (w:=w) (base:=base) B d31 c6
 have dC:=tt (P:=L.prog) (w:=w) (base:=base) B d32 bp eM
 have gO:=rB (P:=L.prog) (w:=w) (base:=base) B d33 cf
 exact Cf (CH (P:=L.prog) (w:=w) (base:=base) B F dC bp gO kf hJ tu) Cc
end L2
theorem PySem.W.Fast.tw2465349274031929878:True:=⟨⟩
theorem PySem.W.Fast.tw15204538313600139060:True:=⟨⟩
theorem PySem.W.Fast.tw3060762816294363990:True:=⟨⟩
theorem PySem.W.Fast.tw6664757002382346939:True:=⟨⟩
theorem PySem.W.Fast.tw1989112381828449653:True:=⟨⟩
theorem PySem.W.Fast.tw16429161531910366777:True:=⟨⟩
theorem PySem.W.Fast.tw17718474868615618716:True:=⟨⟩
theorem PySem.W.Fast.tw16778059418872853105:True:=⟨⟩
theorem PySem.W.Fast.tw4901715044488281687:True:=⟨⟩
theorem PySem.W.Fast.tw17426630562494442254:True:=⟨⟩
theorem PySem.W.Fast.tw12745221017223801635:True:=⟨⟩
theorem PySem.W.Fast.tw11817135825759115213:True:=⟨⟩
theorem PySem.W.Fast.tw10353741535552355083:True:=⟨⟩
theorem PySem.W.Fast.tw13862963640412282456:True:=⟨⟩
open PySem PySem.W PyProof.Rows
set_option maxRecDepth 100000 in
set_option maxHeartbeats 0 in
theorem PySem.Challenge.cw_rookborders_k87_tables_written_holds : PySem.Challenge.rw_rookborders_k87_tables_written.Holds := by
 w_on;o_law;k_head;(case hw=>w_witness2)
 k_fill
 refine L2.walkD (l:=PySem.Challenge.rw_rookborders_k87_tables_written) (k:=11) (x:="_law_script") rfl rfl ⟨rfl,by decide,by decide⟩ (λw h Y=>W.kIn_of Y) ?F
 case F=>
  intro w mg fa h KX G hmg
  refine' L2.all_mk KX G hmg ?_ ?_ ?_ ?_ ?_ ?_ ?_ ?_ ?_ ?_ ?_ ?_ ?_ ?_ ?_ ?_ ?_ ?_ ?_ ?_ ?_ ?_ ?_ ?_ ?_ ?_ ?_ ?_ ?_ ?_ ?_ ?_ ?_ ?_ ?_ ?_ ?_ ?_ ?_ ?_ ?_ ?_ ?_ ?_ ?_ ?_ ?_ ?_ ?_ ?_ ?_
  all_goals first
   |(refine' L2.df_of KX G ?_ ?_ ?_ ?_ λ_ _ _ _ _ _ us hl=>L2.ar1 us hl λ_=>rfl)<;>try k_is
   |(refine' L2.df_of KX G ?_ ?_ ?_ ?_ λ_ _ _ _ _ _ us hl=>L2.ar2 us hl λ_ _=>rfl)<;>try k_is
   |(refine' L2.df_of KX G ?_ ?_ ?_ ?_ λ_ _ _ _ _ _ us hl=>L2.ar3 us hl λ_ _ _=>rfl)<;>try k_is
   |(refine' L2.df_of KX G ?_ ?_ ?_ ?_ λ_ _ _ _ _ _ us hl=>L2.ar4 us hl λ_ _ _ _=>rfl)<;>try k_is
   |try k_is
