import PyProof.Rows.All
import Wide.All
import OpenK.AllK
import Wide.FinOn
import PyProof.EqAt
import PyProof.EqKinds
import PyProof.TupleCall
import PyProof.NeKinds
import PyProof.FactsAll.tuple_2
import PyProof.FactsAll.tuple_3
import PyProof.ListRange
import KE.KSortTup
import PyProof.EnumMake
import PyProof.AutoSeq1
import PyProof.Rows.SeqMore
import KE.KIsAll
import PyProof.ExcArgsOwn
import PyProof.ExcBaseAll.ValueError
import PyProof.ExcAttrAll.ValueError
import OpenK.KOwn
import PyProof.RulesAs
import PyProof.AutoRange
import PyProof.SeqRoads2
import PyProof.ZipIter
import PyProof.StrCalls2
import KE.KDictSum
import PyProof.SumAny
import KE.KRevIter
import PyProof.Rows.FStr
import PyProof.Rows.FStrParts
import KE.KRevSl
import PyProof.Rows.SetFrom
import Lean
import PySem.Challenge.RW_rookborders_k31_crowds_added
set_option Elab.async false
set_option linter.all false
set_option maxRecDepth 100000
set_option maxHeartbeats 1000000
namespace L2
open PySem
theorem nodup_leT {n : Nat} {l : List Nat} (nd : l.Nodup) (h : ∀ z ∈ l, z < n) : l.length ≤ n := by
  have p : l.Perm ((List.range n).filter fun z => decide (z ∈ l)) := (List.perm_ext_iff_of_nodup nd (List.Pairwise.filter _ List.nodup_range)).mpr fun z => by
    rw [List.mem_filter, List.mem_range, decide_eq_true_eq]; exact ⟨fun q => ⟨h z q, q⟩, fun q => q.2⟩
  rw [p.length_eq]
  exact Nat.le_trans (List.length_filter_le _ _) (by simp)
def lcS : Nat → Nat
  | 0 => 0
  | n + 1 => 5 * lcS n + 1
theorem lcS_add (m : Nat) : ∀ n, lcS (m + n) = 5 ^ n * lcS m + lcS n
  | 0 => by simp [lcS]
  | n + 1 => by
    show 5 * lcS (m + n) + 1 = _
    rw [lcS_add m n, Nat.pow_succ]
    show _ = 5 ^ n * 5 * lcS m + (5 * lcS n + 1)
    rw [Nat.mul_add, Nat.mul_right_comm, Nat.mul_comm 5 (5 ^ n * lcS m)]; omega
theorem lcS_par : ∀ n, lcS n % 2 = n % 2
  | 0 => rfl
  | n + 1 => by have := lcS_par n; show (5 * lcS n + 1) % 2 = _; omega
theorem five_pow : ∀ n, 5 ^ n = 4 * lcS n + 1
  | 0 => rfl
  | n + 1 => by rw [Nat.pow_succ, five_pow n]; show _ = 4 * (5 * lcS n + 1) + 1; omega
theorem cop (k a : Nat) (h : a % 2 = 1) : Nat.Coprime (2 ^ k) a := by
  refine Nat.Coprime.pow_left k ?_
  show Nat.gcd 2 a = 1
  rw [Nat.gcd_rec, h]
  decide
theorem lcS_dvd : ∀ (k d : Nat), 2 ^ k ∣ lcS d → 2 ^ k ∣ d
  | 0, d, _ => by simp
  | k + 1, d, h => by
    have hp := lcS_par d
    have h2 : 2 ∣ lcS d := Nat.dvd_trans ⟨2 ^ k, by rw [Nat.pow_succ, Nat.mul_comm]⟩ h
    obtain ⟨e, rfl⟩ : ∃ e, d = e + e := ⟨d / 2, by have := Nat.mod_eq_zero_of_dvd h2; omega⟩
    have e1 : lcS (e + e) = 2 * (lcS e * (2 * lcS e + 1)) := by
      rw [lcS_add, five_pow]
      have : (4 * lcS e + 1) * lcS e + lcS e = (2 * (2 * lcS e + 1)) * lcS e := by
        rw [← Nat.succ_mul]; congr 1; omega
      rw [this, Nat.mul_assoc, Nat.mul_comm (2 * lcS e + 1)]
    rw [e1, Nat.pow_succ, Nat.mul_comm] at h
    have h3 := Nat.dvd_of_mul_dvd_mul_left (by omega) h
    have h4 := (cop k (2 * lcS e + 1) (by omega)).dvd_of_dvd_mul_right h3
    obtain ⟨q, hq⟩ := lcS_dvd k e h4
    exact ⟨q, by rw [Nat.pow_succ]; rw [show 2 ^ k * 2 * q = 2 ^ k * q + 2 ^ k * q by rw [Nat.mul_right_comm]; omega, ← hq]⟩
def itT (M : Nat) : Nat → Nat → Nat
  | 0, i => i
  | n + 1, i => (itT M n i * 5 + 1) % M
theorem itT_mod (M i : Nat) : ∀ n, itT M n i % M = (5 ^ n * i + lcS n) % M
  | 0 => by simp [itT, lcS]
  | n + 1 => by
    show (itT M n i * 5 + 1) % M % M = _
    rw [Nat.mod_mod, Nat.add_mod, Nat.mul_mod, itT_mod M i n, ← Nat.mul_mod, ← Nat.add_mod]
    congr 1
    show (5 ^ n * i + lcS n) * 5 + 1 = 5 ^ (n + 1) * i + (5 * lcS n + 1)
    rw [Nat.pow_succ, Nat.add_mul, Nat.mul_right_comm]; omega
theorem itT_inj {k i m d : Nat} (h : itT (2 ^ k) m i % 2 ^ k = itT (2 ^ k) (m + d) i % 2 ^ k) : 2 ^ k ∣ d := by
  rw [itT_mod, itT_mod, lcS_add, Nat.pow_add] at h
  have e : 5 ^ m * 5 ^ d * i + (5 ^ d * lcS m + lcS d) = 5 ^ m * i + lcS m + lcS d * (4 * (5 ^ m * i + lcS m) + 1) := by
    rw [five_pow d]
    generalize 5 ^ m = a; generalize lcS m = b; generalize lcS d = c
    grind
  rw [e] at h
  have h2 : (lcS d * (4 * (5 ^ m * i + lcS m) + 1)) % 2 ^ k = 0 := by
    have hd := Nat.sub_mod_eq_zero_of_mod_eq h.symm
    rw [Nat.add_sub_cancel_left] at hd
    exact hd
  exact lcS_dvd k d ((cop k _ (by omega)).dvd_of_dvd_mul_right (Nat.dvd_of_mod_eq_zero h2))
theorem lc_all {k : Nat} {i : Nat} (hi : i < 2 ^ k) {j : Nat} (hj : j < 2 ^ k) : ∃ n, n < 2 ^ k ∧ itT (2 ^ k) n i = j := by
  have lt : ∀ n, itT (2 ^ k) n i < 2 ^ k := fun n => by
    cases n with
    | zero => exact hi
    | succ n => exact Nat.mod_lt _ (Nat.two_pow_pos k)
  have nd : ((List.range (2 ^ k)).map fun n => itT (2 ^ k) n i).Nodup := by
    rw [List.Nodup, List.pairwise_map]
    refine List.Pairwise.imp_of_mem (fun {a b} ha hb hab e => ?_) List.pairwise_lt_range
    rw [List.mem_range] at hb
    obtain ⟨d, rfl⟩ := Nat.exists_eq_add_of_lt hab
    have := itT_inj (k := k) (i := i) (m := a) (d := d + 1) (by rw [show a + (d + 1) = a + d + 1 by omega, ← e])
    have := Nat.le_of_dvd (by omega) this
    omega
  by_cases h : j ∈ (List.range (2 ^ k)).map fun n => itT (2 ^ k) n i
  · obtain ⟨n, hn, e⟩ := List.mem_map.mp h
    exact ⟨n, List.mem_range.mp hn, e⟩
  · exfalso
    have h1 := nodup_leT (n := 2 ^ k) (List.nodup_cons.mpr ⟨h, nd⟩) (fun z hz => by
      rcases List.mem_cons.mp hz with rfl | hz
      · exact hj
      · obtain ⟨n, _, rfl⟩ := List.mem_map.mp hz; exact lt n)
    simp at h1
    omega
abbrev Pb := SetTable.Probe
def adv (mask : Nat) (p : Pb) : Pb :=
  if p.more > 0 then { p with j := p.j + 1, more := p.more - 1 } else
  { p with j := (SetTable.leap mask p.i p.perturb).1, more := SetTable.runEnd mask (SetTable.leap mask p.i p.perturb).1 - (SetTable.leap mask p.i p.perturb).1, i := (SetTable.leap mask p.i p.perturb).1, perturb := (SetTable.leap mask p.i p.perturb).2 }
theorem adv_eq (t : SetTable) (p : Pb) : t.advance p = adv t.mask p := rfl
theorem adv_dummy (mask : Nat) (p : Pb) (d : Option Nat) : adv mask { p with dummy := d } = { adv mask p with dummy := d } := by
  unfold adv
  dsimp only
  split <;> rfl
def landP (mask i perturb : Nat) (d : Option Nat) : Pb := { j := i, more := SetTable.runEnd mask i - i, i := i, perturb := perturb, dummy := d }
def advN (mask : Nat) : Nat → Pb → Pb
  | 0, p => p
  | n + 1, p => advN mask n (adv mask p)
theorem advN_add (mask m : Nat) : ∀ (n : Nat) (p : Pb), advN mask (n + m) p = advN mask m (advN mask n p)
  | 0, p => by rw [Nat.zero_add]; rfl
  | n + 1, p => by rw [Nat.succ_add]; exact advN_add mask m n (adv mask p)
theorem advN_succ (mask n : Nat) (p : Pb) : advN mask (n + 1) p = adv mask (advN mask n p) := advN_add mask 1 n p
theorem advN_dummy (mask : Nat) (d : Option Nat) : ∀ (n : Nat) (p : Pb), advN mask n { p with dummy := d } = { advN mask n p with dummy := d }
  | 0, p => rfl
  | n + 1, p => by
    show advN mask n (adv mask { p with dummy := d }) = _
    rw [adv_dummy, advN_dummy mask d n]; rfl
theorem adv_run (mask : Nat) : ∀ (n : Nat) (p : Pb), n ≤ p.more → advN mask n p = { p with j := p.j + n, more := p.more - n }
  | 0, p, _ => rfl
  | n + 1, p, h => by
    show advN mask n (adv mask p) = _
    have : adv mask p = { p with j := p.j + 1, more := p.more - 1 } := if_pos (by omega)
    rw [this, adv_run mask n _ (by show n ≤ p.more - 1; omega)]
    show ({ p with j := p.j + 1 + n, more := p.more - 1 - n } : Pb) = { p with j := p.j + (n + 1), more := p.more - (n + 1) }
    rw [show p.j + 1 + n = p.j + (n + 1) by omega, show p.more - 1 - n = p.more - (n + 1) by omega]
theorem adv_land (mask : Nat) (p : Pb) : advN mask (p.more + 1) p = landP mask ((p.i * 5 + 1 + p.perturb / 32) % (mask + 1)) (p.perturb / 32) p.dummy := by
  rw [advN_succ, adv_run mask p.more p (Nat.le_refl _)]
  unfold adv
  dsimp only
  rw [Nat.sub_self, if_neg (by omega)]
  rfl
theorem land_more (mask i perturb : Nat) (d : Option Nat) : (landP mask i perturb d).more ≤ 9 := by
  show SetTable.runEnd mask i - i ≤ 9
  unfold SetTable.runEnd
  split <;> omega
def lp (mask : Nat) : Nat → Nat × Nat → Nat × Nat
  | 0, x => x
  | n + 1, x => lp mask n ((x.1 * 5 + 1 + x.2 / 32) % (mask + 1), x.2 / 32)
theorem lp_land (mask : Nat) (d : Option Nat) : ∀ (n i perturb : Nat), ∃ m, m ≤ 10 * n ∧ advN mask m (landP mask i perturb d) = landP mask (lp mask n (i, perturb)).1 (lp mask n (i, perturb)).2 d
  | 0, i, perturb => ⟨0, by omega, rfl⟩
  | n + 1, i, perturb => by
    obtain ⟨m, h1, h2⟩ := lp_land mask d n ((i * 5 + 1 + perturb / 32) % (mask + 1)) (perturb / 32)
    have lm := land_more mask i perturb d
    refine ⟨(landP mask i perturb d).more + 1 + m, by omega, ?_⟩
    rw [advN_add, adv_land]
    exact h2
theorem lp_zero {k mask : Nat} (hk : mask + 1 = 2 ^ k) : ∀ (n i : Nat), lp mask n (i, 0) = (itT (2 ^ k) n i, 0) := by
  have key : ∀ (n : Nat) (x : Nat), itT (2 ^ k) n ((x * 5 + 1) % 2 ^ k) = itT (2 ^ k) (n + 1) x := by
    intro n
    induction n with
    | zero => intro x; rfl
    | succ n ih => intro x; show (itT (2 ^ k) n ((x * 5 + 1) % 2 ^ k) * 5 + 1) % 2 ^ k = _; rw [ih x]; rfl
  intro n
  induction n with
  | zero => intro i; rfl
  | succ n ih =>
    intro i
    show lp mask n ((i * 5 + 1 + 0 / 32) % (mask + 1), 0 / 32) = _
    rw [Nat.zero_div, Nat.add_zero, hk, ih, key]
theorem lp_add (mask : Nat) : ∀ (m n : Nat) (x : Nat × Nat), lp mask (m + n) x = lp mask n (lp mask m x)
  | 0, n, x => by rw [Nat.zero_add]; rfl
  | m + 1, n, x => by rw [Nat.succ_add]; exact lp_add mask m n _
theorem lp_pert (mask : Nat) : ∀ (n i perturb : Nat), (lp mask n (i, perturb)).2 = perturb / 32 ^ n
  | 0, i, perturb => by simp [lp]
  | n + 1, i, perturb => by
    show (lp mask n _).2 = _
    rw [lp_pert, Nat.div_div_eq_div_mul, ← Nat.pow_succ']
theorem lp_lt (mask : Nat) : ∀ (n : Nat) (x : Nat × Nat), x.1 ≤ mask → (lp mask n x).1 ≤ mask
  | 0, x, h => h
  | n + 1, x, _ => lp_lt mask n _ (Nat.lt_succ_iff.mp (Nat.mod_lt _ (by omega)))
theorem lp_all {k mask : Nat} (hk : mask + 1 = 2 ^ k) {i perturb : Nat} (hi : i ≤ mask) (hp : perturb < 2 ^ 64) {j : Nat} (hj : j ≤ mask) : ∃ n, n ≤ 13 + mask ∧ (lp mask n (i, perturb)).1 = j := by
  have e13 : lp mask 13 (i, perturb) = ((lp mask 13 (i, perturb)).1, 0) := by
    have := lp_pert mask 13 i perturb
    rw [Nat.div_eq_of_lt (Nat.lt_of_lt_of_le hp (by decide))] at this
    exact Prod.ext rfl this
  obtain ⟨n, hn, e⟩ := lc_all (k := k) (i := (lp mask 13 (i, perturb)).1) (by have := lp_lt mask 13 (i, perturb) hi; omega) (j := j) (by omega)
  refine ⟨13 + n, by omega, ?_⟩
  rw [lp_add, e13, lp_zero hk]
  exact e
def pst (mask : Nat) (h : Int) (d : Option Nat) : Pb := landP mask (SetTable.bits h % (mask + 1)) (SetTable.bits h) d
def Jx (mask : Nat) (h : Int) (m : Nat) : Nat := (advN mask m (pst mask h none)).j
theorem Jx_any (mask : Nat) (h : Int) (m : Nat) (d : Option Nat) : (advN mask m (pst mask h d)).j = Jx mask h m := by
  have : pst mask h d = { pst mask h none with dummy := d } := rfl
  rw [this, advN_dummy]; rfl
theorem bits_lt (h : Int) : SetTable.bits h < 2 ^ 64 := by
  unfold SetTable.bits
  have h1 : 0 ≤ h % (2 ^ 64 : Int) := Int.emod_nonneg _ (by decide)
  have h2 : h % (2 ^ 64 : Int) < 2 ^ 64 := Int.emod_lt_of_pos _ (by decide)
  have h3 : ((2 : Int) ^ 64) = ((2 ^ 64 : Nat) : Int) := by decide
  omega
theorem Jx_all {k mask : Nat} (hk : mask + 1 = 2 ^ k) (h : Int) {j : Nat} (hj : j ≤ mask) : ∃ m, m ≤ 10 * (13 + mask) ∧ Jx mask h m = j := by
  obtain ⟨n, hn, e⟩ := lp_all hk (i := SetTable.bits h % (mask + 1)) (perturb := SetTable.bits h) (Nat.lt_succ_iff.mp (Nat.mod_lt _ (by omega))) (bits_lt h) hj
  obtain ⟨m, hm, e2⟩ := lp_land mask none n (SetTable.bits h % (mask + 1)) (SetTable.bits h)
  refine ⟨m, by omega, ?_⟩
  show (advN mask m (landP mask (SetTable.bits h % (mask + 1)) (SetTable.bits h) none)).j = j
  rw [e2]; exact e
def Ris (xs : Array Nat) : Prop := xs.toList.Pairwise (· < ·)
theorem Ris.lt {xs : Array Nat} (r : Ris xs) {i j : Nat} (hij : i < j) {a b : Nat} (ha : xs[i]? = some a) (hb : xs[j]? = some b) : a < b := by
  rw [← Array.getElem?_toList] at ha hb
  obtain ⟨h1, e1⟩ := List.getElem?_eq_some_iff.mp ha
  obtain ⟨h2, e2⟩ := List.getElem?_eq_some_iff.mp hb
  have := List.pairwise_iff_getElem.mp r i j h1 h2 hij
  rw [e1, e2] at this; exact this
theorem Ris.inj {xs : Array Nat} (r : Ris xs) {i j : Nat} {a : Nat} (ha : xs[i]? = some a) (hb : xs[j]? = some a) : i = j := by
  rcases Nat.lt_trichotomy i j with h | h | h
  · exact absurd (r.lt h ha hb) (by omega)
  · exact h
  · exact absurd (r.lt h hb ha) (by omega)
structure Bel (xs : Array Nat) (j p : Nat) : Prop where
  le : p ≤ xs.size
  lo : ∀ i a, i < p → xs[i]? = some a → a < j
  hi : ∀ i a, p ≤ i → xs[i]? = some a → j ≤ a
theorem bel_go {xs : Array Nat} (r : Ris xs) (j : Nat) : ∀ (fuel lo hi : Nat), hi - lo ≤ fuel → lo ≤ hi → hi ≤ xs.size → (∀ i a, i < lo → xs[i]? = some a → a < j) → (∀ i a, hi ≤ i → xs[i]? = some a → j ≤ a) → Bel xs j (SetTable.below.go xs j fuel lo hi)
  | 0, lo, hi, h1, h2, h3, h4, h5 => by
    have : lo = hi := by omega
    subst this
    exact ⟨h3, h4, h5⟩
  | fuel + 1, lo, hi, h1, h2, h3, h4, h5 => by
    unfold SetTable.below.go
    by_cases hlt : lo < hi
    · rw [if_pos hlt]
      dsimp only
      have hm : (lo + hi) / 2 < xs.size := by omega
      have em : xs[(lo + hi) / 2]? = some xs[(lo + hi) / 2] := Array.getElem?_eq_getElem hm
      have eg : xs.getD ((lo + hi) / 2) j = xs[(lo + hi) / 2] := by simp [Array.getD, hm]
      rw [eg]
      by_cases c : xs[(lo + hi) / 2] < j
      · rw [if_pos c]
        refine bel_go r j fuel _ hi (by omega) (by omega) h3 (fun i a hi' ha => ?_) h5
        by_cases e : i = (lo + hi) / 2
        · subst e; rw [em] at ha; cases ha; exact c
        · exact Nat.lt_trans (r.lt (by omega) ha em) c
      · rw [if_neg c]
        refine bel_go r j fuel lo _ (by omega) (by omega) (by omega) h4 (fun i a hi' ha => ?_)
        by_cases e : i = (lo + hi) / 2
        · subst e; rw [em] at ha; cases ha; omega
        · have := r.lt (by omega) em ha; omega
    · rw [if_neg hlt]
      have : lo = hi := by omega
      subst this
      exact ⟨h3, h4, h5⟩
theorem bel {xs : Array Nat} (r : Ris xs) (j : Nat) : Bel xs j (SetTable.below xs j) := bel_go r j _ _ _ (by omega) (by omega) (by omega) (fun i a h _ => absurd h (by omega)) fun i a h e => by
  rw [Array.getElem?_eq_none h] at e; cases e
theorem bel_at {xs : Array Nat} (r : Ris xs) {j i : Nat} (h : xs[i]? = some j) : SetTable.below xs j = i := by
  have b := bel r j
  rcases Nat.lt_trichotomy i (SetTable.below xs j) with c | c | c
  · exact absurd (b.lo i j c h) (by omega)
  · exact c.symm
  · have lt : SetTable.below xs j < xs.size := Nat.lt_trans c (Array.getElem?_eq_some_iff.mp h).1
    have e : xs[SetTable.below xs j]? = some xs[SetTable.below xs j] := Array.getElem?_eq_getElem lt
    have h1 := b.hi _ _ (Nat.le_refl _) e
    have h2 := r.lt c e h
    omega
theorem has_iff {xs : Array Nat} (r : Ris xs) (j : Nat) : SetTable.has xs j = true ↔ j ∈ xs.toList := by
  unfold SetTable.has
  rw [beq_iff_eq]
  constructor
  · intro h
    rw [← Array.getElem?_toList] at h
    exact List.mem_of_getElem? h
  · intro h
    obtain ⟨i, hi⟩ := List.mem_iff_getElem?.mp h
    rw [Array.getElem?_toList] at hi
    rw [bel_at r hi]; exact hi
structure TOk (t : SetTable) (hs : List Int) : Prop where
  pw : ∃ k, 3 ≤ k ∧ k ≤ 12 ∧ t.mask + 1 = 2 ^ k
  sz : t.place.size = hs.length
  sp : Ris t.place
  sd : Ris t.dummies
  lp : ∀ j ∈ t.place.toList, j ≤ t.mask
  ld : ∀ j ∈ t.dummies.toList, j ≤ t.mask
  dj : ∀ j ∈ t.dummies.toList, j ∉ t.place.toList
  fl : t.fill ≤ t.mask
  rc : ∀ x ∈ hs.zip t.place.toList, ∃ m, Jx t.mask x.1 m = x.2 ∧ ∀ m', m' < m → Jx t.mask x.1 m' ∈ t.place.toList ∨ Jx t.mask x.1 m' ∈ t.dummies.toList
def Usd (t : SetTable) (j : Nat) : Prop := j ∈ t.place.toList ∨ j ∈ t.dummies.toList
section
variable {t : SetTable} {hs : List Int} (T : TOk t hs)
include T
theorem TOk.mask : t.mask ≤ 4095 := by
  obtain ⟨k, h3, h12, e⟩ := T.pw
  have := Nat.pow_le_pow_right (n := 2) (by omega) h12
  have : (2 : Nat) ^ 12 = 4096 := by decide
  omega
theorem TOk.noway : t.gaveWay = false := by
  obtain ⟨k, h3, h12, e⟩ := T.pw
  unfold SetTable.gaveWay
  have : 2 ^ k % 2 = 0 := by
    obtain ⟨m, rfl⟩ := Nat.exists_eq_add_of_le h3
    rw [Nat.pow_add]; omega
  rw [beq_eq_false_iff_ne]
  omega
theorem slot_live {j i : Nat} (h : t.place[i]? = some j) : t.slot j = .live i := by
  unfold SetTable.slot
  rw [bel_at T.sp h, if_pos (by rw [h]; exact beq_self_eq_true _)]
theorem slot_dummy {j : Nat} (h : j ∈ t.dummies.toList) : t.slot j = .dummy := by
  unfold SetTable.slot
  have e : ¬ (t.place[SetTable.below t.place j]? == some j) = true := fun w => by
    rw [beq_iff_eq, ← Array.getElem?_toList] at w
    exact T.dj j h (List.mem_of_getElem? w)
  dsimp only
  rw [if_neg e, if_pos ((has_iff T.sd j).mpr h)]
theorem slot_empty {j : Nat} (h : ¬ Usd t j) : t.slot j = .empty := by
  unfold SetTable.slot
  have e : ¬ (t.place[SetTable.below t.place j]? == some j) = true := fun w => by
    rw [beq_iff_eq, ← Array.getElem?_toList] at w
    exact h (.inl (List.mem_of_getElem? w))
  dsimp only
  rw [if_neg e, if_neg fun w => h (.inr ((has_iff T.sd j).mp w))]
theorem TOk.room : ∃ j, j ≤ t.mask ∧ ¬ Usd t j := by
  refine Classical.byContradiction fun h => ?_
  have all : ∀ j, j ≤ t.mask → Usd t j := fun j hj => Classical.byContradiction fun n => h ⟨j, hj, n⟩
  have nd : (t.place.toList ++ t.dummies.toList).Nodup := by
    refine List.nodup_append.mpr ⟨T.sp.imp fun h => Nat.ne_of_lt h, T.sd.imp fun h => Nat.ne_of_lt h, fun a ha b hb e => ?_⟩
    subst e
    exact T.dj _ hb ha
  have : t.mask + 1 ≤ (t.place.toList ++ t.dummies.toList).length := by
    have h1 : (List.range (t.mask + 1)).length ≤ (t.place.toList ++ t.dummies.toList).length := by
      refine List.Nodup.length_le_of_subset List.nodup_range fun j hj => ?_
      rw [List.mem_range] at hj
      rw [List.mem_append]
      exact all j (by omega)
    simpa using h1
  have fl := T.fl
  unfold SetTable.fill at fl
  rw [List.length_append, Array.length_toList, Array.length_toList] at this
  omega
theorem TOk.first (h : Int) : ∃ M, M ≤ 10 * (13 + t.mask) ∧ ¬ Usd t (Jx t.mask h M) ∧ ∀ m, m < M → Usd t (Jx t.mask h m) := by
  obtain ⟨k, _, _, e⟩ := T.pw
  obtain ⟨j, hj, hn⟩ := T.room
  obtain ⟨m, hm, em⟩ := Jx_all e h hj
  have ex : ∀ n, (∃ m, m ≤ n ∧ ¬ Usd t (Jx t.mask h m)) → ∃ M, M ≤ n ∧ ¬ Usd t (Jx t.mask h M) ∧ ∀ m, m < M → Usd t (Jx t.mask h m) := by
    intro n
    induction n with
    | zero => rintro ⟨m, hm, q⟩; obtain rfl : m = 0 := (by omega); exact ⟨0, by omega, q, fun _ h => absurd h (by omega)⟩
    | succ n ih =>
      rintro ⟨m, hm, q⟩
      by_cases c : ∃ m, m ≤ n ∧ ¬ Usd t (Jx t.mask h m)
      · obtain ⟨M, h1, h2, h3⟩ := ih c; exact ⟨M, by omega, h2, h3⟩
      · have : m = n + 1 := Classical.byContradiction fun w => c ⟨m, by omega, q⟩
        subst this
        exact ⟨n + 1, by omega, q, fun m' hm' => Classical.byContradiction fun w => c ⟨m', by omega, w⟩⟩
  obtain ⟨M, h1, h2, h3⟩ := ex (10 * (13 + t.mask)) ⟨m, hm, by rw [em]; exact hn⟩
  exact ⟨M, h1, h2, h3⟩
end
end L2
set_option Elab.async false
set_option linter.all false
set_option maxRecDepth 100000
set_option maxHeartbeats 1000000
namespace L2
open PySem
def DOk (t : SetTable) (h : Int) (M : Nat) (d : Option Nat) : Prop := ∀ x, d = some x → x ∈ t.dummies.toList ∧ ∃ m, m < M ∧ Jx t.mask h m = x
def NoC (t : SetTable) (hashAt : Nat → Int) (h : Int) (m n : Nat) : Prop := ∀ m', m ≤ m' → m' < n → ∀ i : Nat, t.place[i]? = some (Jx t.mask h m') → hashAt i ≠ h
theorem adv_pst (mask : Nat) (h : Int) (m : Nat) (d : Option Nat) : advN mask m (pst mask h d) = ⟨Jx mask h m, (advN mask m (pst mask h none)).more, (advN mask m (pst mask h none)).i, (advN mask m (pst mask h none)).perturb, d⟩ := advN_dummy mask d m (pst mask h none)
section
variable {t : SetTable} {hs : List Int} (T : TOk t hs)
include T
theorem probe_go (hashAt : Nat → Int) {h : Int} {M : Nat} (h1 : ¬ Usd t (Jx t.mask h M)) (h2 : ∀ m, m < M → Usd t (Jx t.mask h m)) : ∀ (fuel m : Nat) (d : Option Nat), M < m + fuel → m ≤ M → DOk t h M d →
    ∃ r, SetTable.probe.go t hashAt h fuel (advN t.mask m (pst t.mask h d)) = some r ∧
      ((∃ d', r = .empty (Jx t.mask h M) d' ∧ DOk t h M d' ∧ NoC t hashAt h m M) ∨
       (∃ c i d', m ≤ c ∧ c < M ∧ t.place[i]? = some (Jx t.mask h c) ∧ hashAt i = h ∧ r = .candidate (Jx t.mask h c) i (advN t.mask (c + 1) (pst t.mask h d')) ∧ DOk t h M d' ∧ NoC t hashAt h m c))
  | 0, m, d, q1, q2, _ => absurd q1 (by omega)
  | fuel + 1, m, d, q1, q2, hd => by
    unfold SetTable.probe.go
    rw [Jx_any]
    by_cases em : m = M
    · subst em
      rw [slot_empty T h1]
      have ed : (advN t.mask m (pst t.mask h d)).dummy = d := by rw [adv_pst]
      exact ⟨_, rfl, .inl ⟨d, by rw [ed], hd, fun m' a b => absurd a (by omega)⟩⟩
    · have lt : m < M := by omega
      rcases h2 m lt with hu | hu
      · obtain ⟨i, hi⟩ := List.mem_iff_getElem?.mp hu
        rw [Array.getElem?_toList] at hi
        rw [slot_live T hi]
        dsimp only
        by_cases eh : hashAt i = h
        · rw [if_pos (beq_iff_eq.mpr eh), adv_eq, ← advN_succ]
          exact ⟨_, rfl, .inr ⟨m, i, d, Nat.le_refl _, lt, hi, eh, rfl, hd, fun m' a b => absurd a (by omega)⟩⟩
        · rw [if_neg (fun w => eh (beq_iff_eq.mp w)), adv_eq, ← advN_succ]
          obtain ⟨r, hr, hc⟩ := probe_go hashAt h1 h2 fuel (m + 1) d (by omega) (by omega) hd
          have nc : ∀ n, NoC t hashAt h (m + 1) n → NoC t hashAt h m n := fun n q m' a b i' hi' => by
            by_cases e : m' = m
            · subst e; rw [T.sp.inj hi' hi]; exact eh
            · exact q m' (by omega) b i' hi'
          refine ⟨r, hr, ?_⟩
          rcases hc with ⟨d', e, dd, q⟩ | ⟨c, i', d', a, b, e1, e2, e3, dd, q⟩
          · exact .inl ⟨d', e, dd, nc _ q⟩
          · exact .inr ⟨c, i', d', by omega, b, e1, e2, e3, dd, nc _ q⟩
      · rw [slot_dummy T hu]
        dsimp only
        have e : (⟨Jx t.mask h m, (advN t.mask m (pst t.mask h d)).more, (advN t.mask m (pst t.mask h d)).i, (advN t.mask m (pst t.mask h d)).perturb, some (Jx t.mask h m)⟩ : Pb) = advN t.mask m (pst t.mask h (some (Jx t.mask h m))) := by
          rw [adv_pst, adv_pst t.mask h m (some _)]
        rw [adv_eq, e, ← advN_succ]
        obtain ⟨r, hr, hc⟩ := probe_go hashAt h1 h2 fuel (m + 1) (some (Jx t.mask h m)) (by omega) (by omega) (fun x hx => by cases hx; exact ⟨hu, m, lt, rfl⟩)
        have nc : ∀ n, NoC t hashAt h (m + 1) n → NoC t hashAt h m n := fun n q m' a b i' hi' => by
          by_cases e : m' = m
          · subst e; exact absurd (List.mem_of_getElem? (by rw [Array.getElem?_toList]; exact hi')) (T.dj _ hu)
          · exact q m' (by omega) b i' hi'
        refine ⟨r, hr, ?_⟩
        rcases hc with ⟨d', e, dd, q⟩ | ⟨c, i', d', a, b, e1, e2, e3, dd, q⟩
        · exact .inl ⟨d', e, dd, nc _ q⟩
        · exact .inr ⟨c, i', d', by omega, b, e1, e2, e3, dd, nc _ q⟩
end
theorem erase_list {α : Type} (xs : Array α) (p : Nat) : (SetTable.eraseAt xs p).toList = xs.toList.eraseIdx p := by
  unfold SetTable.eraseAt
  rw [List.eraseIdx_eq_take_drop_succ]
  simp [List.extract_eq_take_drop, List.take_of_length_le]
theorem mem_erase {l : List Nat} (r : l.Pairwise (· < ·)) {p j : Nat} (hp : l[p]? = some j) (x : Nat) : x ∈ l.eraseIdx p ↔ x ∈ l ∧ x ≠ j := by
  rw [List.mem_eraseIdx_iff_getElem?]
  constructor
  · rintro ⟨i, ne, e⟩
    refine ⟨List.mem_of_getElem? e, fun w => ne ?_⟩
    subst w
    obtain ⟨h1, e1⟩ := List.getElem?_eq_some_iff.mp e
    obtain ⟨h2, e2⟩ := List.getElem?_eq_some_iff.mp hp
    rcases Nat.lt_trichotomy i p with c | c | c
    · have := List.pairwise_iff_getElem.mp r i p h1 h2 c; omega
    · exact c
    · have := List.pairwise_iff_getElem.mp r p i h2 h1 c; omega
  · rintro ⟨h, ne⟩
    obtain ⟨i, hi⟩ := List.mem_iff_getElem?.mp h
    exact ⟨i, fun w => by subst w; rw [hp] at hi; cases hi; exact ne rfl, hi⟩
theorem ris_insert {xs : Array Nat} (r : Ris xs) {j : Nat} (n : j ∉ xs.toList) : Ris (SetTable.insertAt xs (SetTable.below xs j) j) := by
  have b := bel r j
  unfold Ris
  rw [SetTable.toList_insertAt, List.pairwise_append]
  have hlo : ∀ a ∈ xs.toList.take (SetTable.below xs j), a < j := fun a ha => by
    obtain ⟨i, hi⟩ := List.mem_iff_getElem?.mp ha
    rw [List.getElem?_take] at hi
    split at hi
    · rename_i c; rw [Array.getElem?_toList] at hi; exact b.lo i a c hi
    · cases hi
  have hhi : ∀ a ∈ xs.toList.drop (SetTable.below xs j), j < a := fun a ha => by
    obtain ⟨i, hi⟩ := List.mem_iff_getElem?.mp ha
    rw [List.getElem?_drop] at hi
    have hm := List.mem_of_getElem? hi
    rw [Array.getElem?_toList] at hi
    have := b.hi _ a (Nat.le_add_right _ _) hi
    have : a ≠ j := fun w => n (w ▸ hm)
    omega
  refine ⟨List.Pairwise.sublist (List.take_sublist _ _) r, ?_, fun a ha c hc => ?_⟩
  · exact List.pairwise_cons.mpr ⟨hhi, List.Pairwise.sublist (List.drop_sublist _ _) r⟩
  · rcases List.mem_cons.mp hc with rfl | hc
    · exact hlo a ha
    · exact Nat.lt_trans (hlo a ha) (hhi c hc)
theorem mem_insert {α : Type} (xs : Array α) (p : Nat) (x y : α) : y ∈ (SetTable.insertAt xs p x).toList ↔ y = x ∨ y ∈ xs.toList := by
  rw [SetTable.toList_insertAt, List.mem_append, List.mem_cons]
  conv => rhs; rw [← List.take_append_drop p xs.toList, List.mem_append]
  constructor
  · rintro (h | h | h)
    · exact .inr (.inl h)
    · exact .inl h
    · exact .inr (.inr h)
  · rintro (h | h | h)
    · exact .inr (.inl h)
    · exact .inl h
    · exact .inr (.inr h)
def insTb {α : Type} (l : List α) (p : Nat) (x : α) : List α := l.take p ++ x :: l.drop p
theorem zip_ins {α β : Type} (l : List α) (m : List β) (p : Nat) (a : α) (b : β) (h : l.length = m.length) : (insTb l p a).zip (insTb m p b) = insTb (l.zip m) p (a, b) := by
  unfold insTb
  rw [List.zip_append (by rw [List.length_take, List.length_take, h]), List.zip_cons_cons]
  unfold List.zip
  rw [List.take_zipWith, List.drop_zipWith]
theorem TOk.put {t : SetTable} {hs : List Int} (T : TOk t hs) {h : Int} {j : Nat} (hj : j ≤ t.mask) (n : j ∉ t.place.toList) (rc : ∃ m, Jx t.mask h m = j ∧ ∀ m', m' < m → Usd t (Jx t.mask h m'))
    (fl : (t.put j).1.fill ≤ t.mask) : TOk (t.put j).1 (insTb hs (t.put j).2 h) := by
  have el : (t.put j).1.place.toList = insTb t.place.toList (t.put j).2 j := SetTable.toList_insertAt _ _ _
  have mp : ∀ y, y ∈ (t.put j).1.place.toList ↔ y = j ∨ y ∈ t.place.toList := mem_insert t.place _ j
  have md : ∀ y, y ∈ (t.put j).1.dummies.toList ↔ y ∈ t.dummies.toList ∧ y ≠ j := fun y => by
    show y ∈ (if SetTable.has t.dummies j = true then SetTable.eraseAt t.dummies (SetTable.below t.dummies j) else t.dummies).toList ↔ _
    split
    · rename_i c
      have c2 := (has_iff T.sd j).mp c
      obtain ⟨i, hi⟩ := List.mem_iff_getElem?.mp c2
      rw [erase_list, bel_at T.sd (by rw [← Array.getElem?_toList]; exact hi)]
      exact mem_erase T.sd hi y
    · rename_i c
      exact ⟨fun q => ⟨q, fun w => c ((has_iff T.sd j).mpr (w ▸ q))⟩, fun q => q.1⟩
  have us : ∀ y, Usd t y → y ∈ (t.put j).1.place.toList ∨ y ∈ (t.put j).1.dummies.toList := fun y q => by
    rcases q with q | q
    · exact .inl ((mp y).mpr (.inr q))
    · by_cases e : y = j
      · exact .inl ((mp y).mpr (.inl e))
      · exact .inr ((md y).mpr ⟨q, e⟩)
  refine ⟨T.pw, ?_, ris_insert T.sp n, ?_, fun y q => ?_, fun y q => T.ld y ((md y).mp q).1, fun y q w => ?_, fl, fun x hx => ?_⟩
  · rw [← Array.length_toList, el]
    unfold insTb
    have := T.sz
    rw [← Array.length_toList] at this
    simp [this]
  · show Ris (if SetTable.has t.dummies j = true then SetTable.eraseAt t.dummies (SetTable.below t.dummies j) else t.dummies)
    split
    · unfold Ris
      rw [erase_list]
      exact List.Pairwise.sublist (List.eraseIdx_sublist _ _) T.sd
    · exact T.sd
  · rcases (mp y).mp q with rfl | q
    · exact hj
    · exact T.lp y q
  · have q' := (md y).mp q
    rcases (mp y).mp w with rfl | w
    · exact q'.2 rfl
    · exact T.dj y q'.1 w
  · rw [el, zip_ins _ _ _ _ _ (by rw [Array.length_toList]; exact T.sz.symm)] at hx
    unfold insTb at hx
    have hx : x = (h, j) ∨ x ∈ hs.zip t.place.toList := by
      rcases List.mem_append.mp hx with q | q
      · exact .inr (List.mem_of_mem_take q)
      · rcases List.mem_cons.mp q with q | q
        · exact .inl q
        · exact .inr (List.mem_of_mem_drop q)
    rcases hx with rfl | hx
    · obtain ⟨m, e, q⟩ := rc
      exact ⟨m, e, fun m' hm => us _ (q m' hm)⟩
    · obtain ⟨m, e, q⟩ := T.rc x hx
      exact ⟨m, e, fun m' hm => us _ (q m' hm)⟩
theorem TOk.drop {t : SetTable} {hs : List Int} (T : TOk t hs) {i j : Nat} (hi : t.place[i]? = some j) : TOk (t.drop i) (hs.eraseIdx i) := by
  have ed : t.drop i = { t with place := SetTable.eraseAt t.place i, dummies := SetTable.insertAt t.dummies (SetTable.below t.dummies j) j } := by
    unfold SetTable.drop; rw [hi]
  have hi' : t.place.toList[i]? = some j := by rw [Array.getElem?_toList]; exact hi
  have jm : j ∈ t.place.toList := List.mem_of_getElem? hi'
  have lt : i < t.place.size := (Array.getElem?_eq_some_iff.mp hi).1
  rw [ed]
  have el : (SetTable.eraseAt t.place i).toList = t.place.toList.eraseIdx i := erase_list _ _
  have mp : ∀ y, y ∈ (SetTable.eraseAt t.place i).toList ↔ y ∈ t.place.toList ∧ y ≠ j := fun y => by rw [el]; exact mem_erase T.sp hi' y
  have md := mem_insert t.dummies (SetTable.below t.dummies j) j
  have us : ∀ y, Usd t y → y ∈ (SetTable.eraseAt t.place i).toList ∨ y ∈ (SetTable.insertAt t.dummies (SetTable.below t.dummies j) j).toList := fun y q => by
    rcases q with q | q
    · by_cases e : y = j
      · exact .inr ((md y).mpr (.inl e))
      · exact .inl ((mp y).mpr ⟨q, e⟩)
    · exact .inr ((md y).mpr (.inr q))
  refine ⟨T.pw, ?_, ?_, ris_insert T.sd fun w => T.dj j w jm, fun y q => T.lp y ((mp y).mp q).1, fun y q => ?_, fun y q w => ?_, ?_, fun x hx => ?_⟩
  · show (SetTable.eraseAt t.place i).size = _
    rw [← Array.length_toList, el, List.length_eraseIdx, List.length_eraseIdx, Array.length_toList, T.sz]
  · show Ris (SetTable.eraseAt t.place i)
    unfold Ris
    rw [el]
    exact List.Pairwise.sublist (List.eraseIdx_sublist _ _) T.sp
  · rcases (md y).mp q with rfl | q
    · exact T.lp y jm
    · exact T.ld y q
  · have w' := (mp y).mp w
    rcases (md y).mp q with rfl | q
    · exact w'.2 rfl
    · exact T.dj y q w'.1
  · show (SetTable.eraseAt t.place i).size + (SetTable.insertAt t.dummies (SetTable.below t.dummies j) j).size ≤ t.mask
    have fl := T.fl
    unfold SetTable.fill at fl
    rw [← Array.length_toList, el, List.length_eraseIdx, ← Array.length_toList (xs := SetTable.insertAt _ _ _), SetTable.toList_insertAt, if_pos (by rw [Array.length_toList]; exact lt)]
    simp
    omega
  · have hx : x ∈ (hs.eraseIdx i).zip (t.place.toList.eraseIdx i) := by rw [← el]; exact hx
    have : x ∈ hs.zip t.place.toList := by
      obtain ⟨n, hn⟩ := List.mem_iff_getElem?.mp hx
      rw [List.getElem?_zip_eq_some, List.getElem?_eraseIdx, List.getElem?_eraseIdx] at hn
      obtain ⟨h1, h2⟩ := hn
      split at h1
      · rw [if_pos (by assumption)] at h2; exact List.mem_iff_getElem?.mpr ⟨n, List.getElem?_zip_eq_some.mpr ⟨h1, h2⟩⟩
      · rw [if_neg (by assumption)] at h2; exact List.mem_iff_getElem?.mpr ⟨n + 1, List.getElem?_zip_eq_some.mpr ⟨h1, h2⟩⟩
    obtain ⟨m, e, q⟩ := T.rc x this
    exact ⟨m, e, fun m' hm => us _ (q m' hm)⟩
end L2
set_option Elab.async false
set_option linter.all false
set_option maxRecDepth 100000
set_option maxHeartbeats 1000000
namespace L2
open PySem
abbrev Ownr := Array (Option Nat)
def Fre (ow : Ownr) (j : Nat) : Prop := ow[j]? = some none
def Occ (ow : Ownr) (j : Nat) : Prop := ∃ k, ow[j]? = some (some k)
theorem fre_is {ow : Ownr} {j : Nat} : (ow.getD j (some 0)).isNone = true ↔ Fre ow j := by
  unfold Fre Array.getD
  by_cases h : j < ow.size
  · simp only [h, dite_true]
    rw [Array.getElem?_eq_getElem h]
    show (ow[j]).isNone = true ↔ _
    rw [Option.isNone_iff_eq_none, Option.some.injEq]
  · simp [h]
theorem occ_of {ow : Ownr} {j : Nat} (h : j < ow.size) (n : ¬ Fre ow j) : Occ ow j := by
  unfold Fre at n
  unfold Occ
  rw [Array.getElem?_eq_getElem h] at n ⊢
  cases e : ow[j] with
  | none => rw [e] at n; exact absurd rfl n
  | some k => exact ⟨k, rfl⟩
def Jl (mask i p m : Nat) : Nat := (advN mask m (landP mask i p none)).j
theorem runEnd_le {mask i : Nat} (hi : i ≤ mask) : SetTable.runEnd mask i ≤ mask ∧ i ≤ SetTable.runEnd mask i := by
  unfold SetTable.runEnd
  split <;> omega
theorem Jl_run {mask i p m : Nat} (h : i + m ≤ SetTable.runEnd mask i) : Jl mask i p m = i + m := by
  unfold Jl
  rw [adv_run mask m _ (show m ≤ SetTable.runEnd mask i - i by omega)]
  rfl
theorem Jl_next (mask i p m : Nat) : Jl mask i p ((SetTable.runEnd mask i - i) + 1 + m) = Jl mask ((i * 5 + 1 + p / 32) % (mask + 1)) (p / 32) m := by
  unfold Jl
  rw [advN_add]
  have := adv_land mask (landP mask i p none)
  have e : (landP mask i p none).more = SetTable.runEnd mask i - i := rfl
  rw [e] at this
  rw [this]
  rfl
theorem free_ok {mask : Nat} {ow : Ownr} (hz : ow.size = mask + 1) : ∀ (fuel i p : Nat), i ≤ mask → (∃ n, n < fuel ∧ Fre ow (lp mask n (i, p)).1) →
    ∃ j m, SetTable.layClean.free mask ow fuel i p = some j ∧ Fre ow j ∧ Jl mask i p m = j ∧ ∀ m', m' < m → Occ ow (Jl mask i p m')
  | 0, i, p, _, ⟨n, h, _⟩ => absurd h (Nat.not_lt_zero _)
  | fuel + 1, i, p, hi, ⟨n, h, hf⟩ => by
    have re := runEnd_le hi
    unfold SetTable.layClean.free
    cases e : (List.range (SetTable.runEnd mask i + 1 - i)).find? fun k => (ow.getD (i + k) (some 0)).isNone with
    | some k =>
      have h1 := List.find?_some e
      have hk : k < SetTable.runEnd mask i + 1 - i := List.mem_range.mp (List.mem_of_find?_eq_some e)
      refine ⟨i + k, k, rfl, fre_is.mp h1, Jl_run (by omega), fun m' hm => ?_⟩
      rw [Jl_run (by omega)]
      refine occ_of (by omega) fun w => ?_
      rw [List.find?_range_eq_some] at e
      have := e.2.2 m' hm
      rw [fre_is.mpr w] at this
      exact absurd this (by decide)
    | none =>
      have no : ∀ k, k < SetTable.runEnd mask i + 1 - i → ¬ Fre ow (i + k) := fun k hk w => by
        have := List.find?_eq_none.mp e k (List.mem_range.mpr hk)
        exact this (fre_is.mpr w)
      dsimp only
      obtain ⟨j, m, g1, g2, g3, g4⟩ := free_ok hz fuel ((i * 5 + 1 + p / 32) % (mask + 1)) (p / 32) (Nat.lt_succ_iff.mp (Nat.mod_lt _ (by omega))) (by
        cases n with
        | zero => exact absurd hf (no 0 (by omega))
        | succ n => exact ⟨n, by omega, hf⟩)
      refine ⟨j, (SetTable.runEnd mask i - i) + 1 + m, g1, g2, by rw [Jl_next]; exact g3, fun m' hm => ?_⟩
      by_cases c : m' ≤ SetTable.runEnd mask i - i
      · rw [Jl_run (by omega)]
        exact occ_of (by omega) (no m' (by omega))
      · obtain ⟨m2, rfl⟩ := Nat.exists_eq_add_of_le (show SetTable.runEnd mask i - i + 1 ≤ m' by omega)
        rw [Jl_next]
        exact g4 m2 (by omega)
structure LInv (mask : Nat) (ow : Ownr) (hs : List Int) : Prop where
  sz : ow.size = mask + 1
  lt : ∀ (j k : Nat), ow[j]? = some (some k) → k < hs.length
  un : ∀ (j j' k : Nat), ow[j]? = some (some k) → ow[j']? = some (some k) → j = j'
  ex : ∀ (k : Nat) (h : Int), hs[k]? = some h → ∃ j m : Nat, ow[j]? = some (some k) ∧ Jx mask h m = j ∧ ∀ m', m' < m → Occ ow (Jx mask h m')
theorem LInv.room {mask : Nat} {ow : Ownr} {hs : List Int} (I : LInv mask ow hs) (hl : hs.length ≤ mask) : ∃ j, j ≤ mask ∧ Fre ow j := by
  refine Classical.byContradiction fun h => ?_
  have all : ∀ j, j ≤ mask → Occ ow j := fun j hj => occ_of (by rw [I.sz]; omega) fun w => h ⟨j, hj, w⟩
  let f : Nat → Nat := fun j => ((ow[j]?).getD none).getD 0
  have hf : ∀ j, j ≤ mask → ow[j]? = some (some (f j)) := fun j hj => by
    obtain ⟨k, e⟩ := all j hj
    show _ = some (some (((ow[j]?).getD none).getD 0))
    rw [e]; rfl
  have nd : ((List.range (mask + 1)).map f).Nodup := by
    rw [List.Nodup, List.pairwise_map]
    refine List.Pairwise.imp_of_mem (fun {a b} ha hb hab e => ?_) List.pairwise_lt_range
    rw [List.mem_range] at ha hb
    have := I.un a b (f a) (hf a (by omega)) (by rw [e]; exact hf b (by omega))
    omega
  have := nodup_leT nd (n := hs.length) fun z hz => by
    obtain ⟨j, hj, rfl⟩ := List.mem_map.mp hz
    exact I.lt j _ (hf j (by rw [List.mem_range] at hj; omega))
  simp at this
  omega
theorem lay_step {k mask : Nat} (hk : mask + 1 = 2 ^ k) {ow : Ownr} {hs : List Int} (I : LInv mask ow hs) (hl : hs.length ≤ mask) (h : Int) :
    ∃ j, SetTable.layClean.free mask ow (SetTable.turns mask) (SetTable.bits h % (mask + 1)) (SetTable.bits h) = some j ∧ LInv mask (ow.setIfInBounds j (some hs.length)) (hs ++ [h]) := by
  obtain ⟨jf, h1, h2⟩ := I.room hl
  have hi : SetTable.bits h % (mask + 1) ≤ mask := Nat.lt_succ_iff.mp (Nat.mod_lt _ (by omega))
  obtain ⟨n, hn, e⟩ := lp_all hk hi (bits_lt h) h1
  obtain ⟨j, m, g1, g2, g3, g4⟩ := free_ok I.sz (SetTable.turns mask) _ _ hi ⟨n, by unfold SetTable.turns; omega, by rw [e]; exact h2⟩
  have jl : j < ow.size := by
    unfold Fre at g2
    exact (Array.getElem?_eq_some_iff.mp g2).1
  have gs : ∀ x, (ow.setIfInBounds j (some hs.length))[x]? = if j = x then some (some hs.length) else ow[x]? := fun x => by
    rw [Array.getElem?_setIfInBounds]
    split <;> rfl
  have occ' : ∀ x, Occ ow x → Occ (ow.setIfInBounds j (some hs.length)) x := fun x hq_ => by
    obtain ⟨q, hq⟩ := hq_
    unfold Occ
    rw [gs]
    split
    · exact ⟨_, rfl⟩
    · exact ⟨q, hq⟩
  refine ⟨j, g1, by rw [Array.size_setIfInBounds]; exact I.sz, fun x q hq => ?_, fun x x' q hq hq' => ?_, fun q z hz => ?_⟩
  · rw [gs] at hq
    rw [List.length_append, List.length_singleton]
    split at hq
    · cases hq; omega
    · have := I.lt x q hq; omega
  · rw [gs] at hq hq'
    split at hq
    · rename_i c
      cases hq
      split at hq'
      · rename_i c'; rw [← c, ← c']
      · have := I.lt _ _ hq'; omega
    · split at hq'
      · cases hq'; have := I.lt _ _ hq; omega
      · exact I.un x x' q hq hq'
  · by_cases c : q < hs.length
    · rw [List.getElem?_append_left c] at hz
      obtain ⟨x, m', e1, e2, e3⟩ := I.ex q z hz
      refine ⟨x, m', ?_, e2, fun m'' hm => occ' _ (e3 m'' hm)⟩
      rw [gs, if_neg fun w => ?_]
      · exact e1
      · subst w; unfold Fre at g2; rw [g2] at e1; cases e1
    · have hq : q = hs.length := by
        have := (List.getElem?_eq_some_iff.mp hz).1
        rw [List.length_append, List.length_singleton] at this; omega
      subst hq
      rw [List.getElem?_append_right (Nat.le_refl _), Nat.sub_self] at hz
      cases hz
      exact ⟨j, m, by rw [gs, if_pos rfl], g3, fun m' hm => occ' _ (g4 m' hm)⟩
theorem lay_all {k mask : Nat} (hk : mask + 1 = 2 ^ k) : ∀ (rest hs : List Int) (ow : Ownr), LInv mask ow hs → hs.length + rest.length ≤ mask + 1 →
    ∃ ow', rest.foldl (fun acc h => do
      let (owner, k) ← acc
      let j ← SetTable.layClean.free mask owner (SetTable.turns mask) (SetTable.bits h % (mask + 1)) (SetTable.bits h)
      pure (owner.setIfInBounds j (some k), k + 1)) (some (ow, hs.length)) = some (ow', hs.length + rest.length) ∧ LInv mask ow' (hs ++ rest)
  | [], hs, ow, I, _ => ⟨ow, rfl, by rw [List.append_nil]; exact I⟩
  | h :: rest, hs, ow, I, hl => by
    rw [List.length_cons] at hl
    obtain ⟨j, e, I'⟩ := lay_step hk I (by omega) h
    obtain ⟨ow', e2, I2⟩ := lay_all hk rest (hs ++ [h]) _ I' (by rw [List.length_append, List.length_singleton]; omega)
    rw [List.length_append, List.length_singleton] at e2
    refine ⟨ow', ?_, by rw [List.append_assoc] at I2; exact I2⟩
    rw [List.foldl_cons]
    have : (do
      let (owner, k) ← some (ow, hs.length)
      let j ← SetTable.layClean.free mask owner (SetTable.turns mask) (SetTable.bits h % (mask + 1)) (SetTable.bits h)
      pure (owner.setIfInBounds j (some k), k + 1) : Option (Ownr × Nat)) = some (ow.setIfInBounds j (some hs.length), hs.length + 1) := by
      show (SetTable.layClean.free mask ow (SetTable.turns mask) (SetTable.bits h % (mask + 1)) (SetTable.bits h)).bind (fun j => some (ow.setIfInBounds j (some hs.length), hs.length + 1)) = _
      rw [e]; rfl
    rw [this, e2, List.length_cons]
    congr 2; omega
theorem lay_start (mask : Nat) : LInv mask (Array.replicate (mask + 1) none) [] where
  sz := by simp
  lt := fun j k h => by
    rw [Array.getElem?_replicate] at h
    split at h <;> cases h
  un := fun j j' k h => by
    rw [Array.getElem?_replicate] at h
    split at h <;> cases h
  ex := fun k h e => by simp at e
def liveL (mask : Nat) (ow : Ownr) : List (Nat × Nat) := (List.range (mask + 1)).filterMap fun j => (ow.getD j none).map (j, ·)
theorem live_mem {mask : Nat} {ow : Ownr} (hz : ow.size = mask + 1) {x : Nat × Nat} : x ∈ liveL mask ow ↔ ow[x.1]? = some (some x.2) := by
  unfold liveL
  rw [List.mem_filterMap]
  constructor
  · rintro ⟨j, hj, e⟩
    rw [List.mem_range] at hj
    have : j < ow.size := by omega
    simp only [Array.getD, this, dite_true] at e
    obtain ⟨k, e1, rfl⟩ := Option.map_eq_some_iff.mp e
    show ow[j]? = some (some k)
    rw [Array.getElem?_eq_getElem this, ← e1]; rfl
  · intro h
    obtain ⟨h1, h2⟩ := Array.getElem?_eq_some_iff.mp h
    refine ⟨x.1, List.mem_range.mpr (by omega), ?_⟩
    simp only [Array.getD, h1, dite_true]
    have : ow.getInternal x.1 h1 = some x.2 := h2
    rw [this]; rfl
theorem live_fst (mask : Nat) (ow : Ownr) : ((liveL mask ow).map (·.1)).Pairwise (· < ·) := by
  unfold liveL
  have : ∀ l : List Nat, (l.filterMap fun j => (ow.getD j none).map (j, ·)).map (·.1) = l.filter fun j => (ow.getD j none).isSome := by
    intro l
    induction l with
    | nil => rfl
    | cons j l ih =>
      rw [List.filterMap_cons, List.filter_cons]
      cases e : ow.getD j none with
      | none => exact ih
      | some k => show j :: _ = _; rw [ih]; rfl
  rw [this]
  exact List.Pairwise.filter _ List.pairwise_lt_range
theorem laid_ok {k mask : Nat} (h3 : 3 ≤ k) (h12 : k ≤ 12) (hk : mask + 1 = 2 ^ k) (finger moves : Nat) (led plain : Bool) (hs : Array Int) (hl : hs.size ≤ mask) :
    ∃ place order : Array Nat, SetTable.laid mask finger moves led plain hs = some (⟨mask, place, #[], finger, led, moves, plain⟩, order) ∧ order.toList.Perm (List.range hs.size) ∧
      TOk ⟨mask, place, #[], finger, led, moves, plain⟩ (order.toList.map fun k => hs.toList.getD k 0) := by
  obtain ⟨ow, e, I⟩ := lay_all hk hs.toList [] _ (lay_start mask) (by simp; omega)
  rw [List.nil_append] at I
  have elay : SetTable.layClean mask hs = some ow := by
    unfold SetTable.layClean
    rw [← Array.foldl_toList]
    have e : hs.toList.foldl _ (some (Array.replicate (mask + 1) none, 0)) = _ := e
    rw [e]; rfl
  have mem := @live_mem mask ow I.sz
  have o1 : ((liveL mask ow).map (·.2)).Nodup := by
    rw [List.Nodup, List.pairwise_map]
    have := live_fst mask ow
    rw [List.pairwise_map] at this
    refine this.imp_of_mem fun {a b} ha hb hab w => ?_
    have h1 := mem.mp ha
    have h2 := mem.mp hb
    rw [← w] at h2
    have := I.un _ _ _ h1 h2
    omega
  have o2 : ∀ k, k ∈ (liveL mask ow).map (·.2) ↔ k ∈ List.range hs.size := fun k => by
    rw [List.mem_map, List.mem_range]
    constructor
    · rintro ⟨x, hx, rfl⟩
      have := I.lt _ _ (mem.mp hx)
      simpa using this
    · intro h
      obtain ⟨j, m, h1, _⟩ := I.ex k (hs.toList[k]'(by simpa using h)) (List.getElem?_eq_getElem _)
      exact ⟨(j, k), mem.mpr h1, rfl⟩
  have occ : ∀ x, Occ ow x → x ∈ (liveL mask ow).map (·.1) := fun x ⟨q, hq⟩ => List.mem_map.mpr ⟨(x, q), mem.mpr hq, rfl⟩
  refine ⟨((liveL mask ow).map (·.1)).toArray, ((liveL mask ow).map (·.2)).toArray, ?_, ?_, ⟨k, h3, h12, hk⟩, ?_, ?_, ?_, ?_, ?_, ?_, ?_, ?_⟩
  · unfold SetTable.laid
    rw [elay]; rfl
  · exact (List.perm_ext_iff_of_nodup o1 List.nodup_range).mpr o2
  · simp
  · exact live_fst mask ow
  · exact List.Pairwise.nil
  · intro j hj
    obtain ⟨x, hx, rfl⟩ := List.mem_map.mp hj
    have := (Array.getElem?_eq_some_iff.mp (mem.mp hx)).1
    show x.1 ≤ mask
    rw [I.sz] at this; omega
  · intro j hj; cases hj
  · intro j hj; cases hj
  · show ((liveL mask ow).map (·.1)).toArray.size + 0 ≤ mask
    have hp := ((List.perm_ext_iff_of_nodup o1 List.nodup_range).mpr o2).length_eq
    simp at hp ⊢
    omega
  · intro x hx
    have hx : x ∈ ((((liveL mask ow).map (·.2)).map fun k => hs.toList.getD k 0)).zip ((liveL mask ow).map (·.1)) := hx
    rw [List.map_map, List.zip_map'] at hx
    obtain ⟨y, hy, rfl⟩ := List.mem_map.mp hx
    have hy' := mem.mp hy
    have lt := I.lt _ _ hy'
    obtain ⟨j, m, e1, e2, e3⟩ := I.ex y.2 (hs.toList[y.2]'lt) (List.getElem?_eq_getElem _)
    have ej := I.un _ _ _ e1 hy'
    have eg : hs.toList.getD y.2 0 = hs.toList[y.2]'lt := by rw [List.getD, List.getElem?_eq_getElem lt]; rfl
    refine ⟨m, ?_, fun m' hm => .inl ?_⟩
    · show Jx mask (hs.toList.getD y.2 0) m = y.1
      rw [eg, e2, ej]
    · show Jx mask (hs.toList.getD y.2 0) m' ∈ ((liveL mask ow).map (·.1))
      rw [eg]
      exact occ _ (e3 m' hm)
theorem sizeAbove_go : ∀ (fuel s n : Nat), n < s * 2 ^ fuel → ∃ e, e ≤ fuel ∧ SetTable.sizeAbove.go n fuel s = s * 2 ^ e ∧ n < s * 2 ^ e ∧ (e = 0 ∨ s * 2 ^ e ≤ 2 * n)
  | 0, s, n, h => ⟨0, by omega, by simp [SetTable.sizeAbove.go], h, .inl rfl⟩
  | fuel + 1, s, n, h => by
    unfold SetTable.sizeAbove.go
    by_cases c : s ≤ n
    · rw [if_pos c]
      obtain ⟨e, h1, h2, h3, h4⟩ := sizeAbove_go fuel (s * 2) n (by rw [Nat.pow_succ'] at h; rw [Nat.mul_assoc]; exact h)
      refine ⟨e + 1, by omega, by rw [h2, Nat.pow_succ', Nat.mul_assoc], by rw [Nat.pow_succ', ← Nat.mul_assoc]; exact h3, .inr ?_⟩
      rw [Nat.pow_succ', ← Nat.mul_assoc]
      rcases h4 with rfl | h4
      · simp; omega
      · exact h4
    · rw [if_neg c]
      exact ⟨0, by omega, by simp, by simp; omega, .inl rfl⟩
theorem sizeAbove_ok {n : Nat} (hn : n ≤ 4095) : ∃ k, 3 ≤ k ∧ k ≤ 12 ∧ SetTable.sizeAbove n = 2 ^ k ∧ n < 2 ^ k := by
  obtain ⟨e, h1, h2, h3, h4⟩ := sizeAbove_go 64 8 n (Nat.lt_of_le_of_lt hn (by decide))
  have hp : 8 * 2 ^ e = 2 ^ (3 + e) := by rw [Nat.pow_add]
  refine ⟨3 + e, by omega, ?_, h2.trans hp, by rw [← hp]; exact h3⟩
  rcases h4 with rfl | h4
  · omega
  · refine Classical.byContradiction fun c => ?_
    have := Nat.pow_le_pow_right (n := 2) (by omega) (show 13 ≤ 3 + e by omega)
    rw [← hp] at this
    have : (2 : Nat) ^ 13 = 8192 := by decide
    omega
end L2
set_option Elab.async false
set_option linter.all false
set_option maxRecDepth 100000
set_option maxHeartbeats 1000000
namespace L2
open PySem PySem.Spec PyProof.Rows
def th (ks : List Int) : Int := reduceHash (Builtin.Tuple.tupleHashOf (ks.map hashInt))
abbrev KI (prog : Program) (w : World) : HeapKind prog w (List Int) := tupleKind (intKind prog w)
theorem th_eq (prog : Program) (w : World) (ks : List Int) : (KI prog w).hash ks = th ks := rfl
def ent (x : List Int × Addr) : Int × Value := (th x.1, .ref x.2)
abbrev Els := List (List Int × Addr)
def thE (xs : Els) : List Int := xs.map fun x => th x.1
def EOk (prog : Program) (w : World) (h : Heap) (xs : Els) : Prop := ∀ x ∈ xs, (KI prog w).is h x.1 x.2
structure SetAt (w : World) (o : Obj) (es : Array (Int × Value)) (ep : Nat) (t : SetTable) (xs : Els) : Prop where
  ex : o.ExactSet
  hd : o.data = .set es ep t
  he : es.toList = xs.map ent
  T : TOk t (thE xs)
  led : t.led = !w.params.followText "set-order"
  pl : t.plain = true
  nd : (xs.map (·.1)).Nodup
section
variable {prog : Program} {w : World} {A : Around} {E : Value → Shared → Prop} {s : Shared} {a b : Addr} {o : Obj} {es : Array (Int × Value)} {ep : Nat} {t : SetTable} {xs : Els} {k : List Int}
theorem SetAt.size (S : SetAt w o es ep t xs) : es.size = xs.length := by
  have := congrArg List.length S.he
  simpa using this
theorem SetAt.fits (S : SetAt w o es ep t xs) : t.fits es.size = true := by
  have h1 := S.T.sz
  have h2 := S.T.fl
  unfold thE at h1
  rw [List.length_map] at h1
  unfold SetTable.fits
  rw [S.size, h1]
  simp [h2]
theorem SetAt.at_ (S : SetAt w o es ep t xs) (i : Nat) : es[i]? = (xs[i]?).map ent := by
  rw [← Array.getElem?_toList, S.he, List.getElem?_map]
theorem quiet_class {k : List Int} (hk : (KI prog w).is s.heap k b) {Q : Bool → Shared → Prop} (h : Q false s) : wpAny (model prog w) A (ofAClassStatement 8 (.ref b)) Q E s := by
  have hT := IsTupleKey.typeIs (s := s) hk
  obtain ⟨o, items, n, ho, hc, hd, hi⟩ := hk
  unfold ofAClassStatement
  refine wpAny_bind (wpAny_typeOf hT ?_)
  dsimp only
  rw [if_pos (by decide)]
  refine wpAny_bind (wpAny_pure ?_)
  simp only [Bool.not_true, Bool.false_eq_true, if_false]
  refine wpAny_bind (wpAny_seqItems ho hd ?_)
  dsimp only
  refine wpAny_bind ?_
  rw [← Array.forIn_toList]
  refine wpAny_forIn_list _ (fun rest r s' => r.1 = none ∧ s' = s ∧ ∀ v ∈ rest, carriedByValue v = true) _ ?_ ?_ _ _ ⟨rfl, rfl, hi.byValue⟩
  · rintro v rest r s' ⟨hr, rfl, hall⟩
    have hv := hall v List.mem_cons_self
    have : ofAClassStatement 7 v = pure false := by
      cases v with
      | ref a => simp [carriedByValue] at hv
      | _ => rfl
    rw [this]
    refine wpAny_bind (wpAny_pure ?_)
    simp only [Bool.false_eq_true, if_false]
    exact wpAny_pure ⟨rfl, rfl, fun u hu' => hall u (List.mem_cons_of_mem _ hu')⟩
  · rintro ⟨r1, r2⟩ s' ⟨hr, rfl, _⟩
    simp only at hr
    subst hr
    exact wpAny_pure h
theorem quiet_search {k : List Int} (hk : (KI prog w).is s.heap k b) {vs : List Value} (hv : ∀ v ∈ vs, ∃ k' c, v = .ref c ∧ (KI prog w).is s.heap k' c) {Q : Bool → Shared → Prop} (h : Q false s) : wpAny (model prog w) A (searchCouldBeSeen (.ref b) vs) Q E s := by
  unfold searchCouldBeSeen
  refine wpAny_bind ?_
  refine wpAny_forIn_list _ (fun rest r s' => r.1 = none ∧ s' = s ∧ ∀ v ∈ rest, ∃ k' c, v = .ref c ∧ (KI prog w).is s.heap k' c) _ ?_ ?_ _ _ ⟨rfl, rfl, hv⟩
  · rintro v rest r s' ⟨hr, rfl, hall⟩
    obtain ⟨k', c, rfl, hc⟩ := hall v List.mem_cons_self
    dsimp only
    split
    · exact wpAny_pure ⟨rfl, rfl, fun u hu' => hall u (List.mem_cons_of_mem _ hu')⟩
    · refine wpAny_bind ((KI prog w).quiet hk ?_)
      simp only [Bool.not_true, Bool.false_eq_true, if_false]
      refine wpAny_bind ((KI prog w).quiet hc ?_)
      simp only [Bool.not_true, Bool.false_eq_true, if_false]
      refine wpAny_bind (quiet_class hk ?_)
      simp only [Bool.false_eq_true, if_false]
      refine wpAny_bind (quiet_class hc ?_)
      simp only [Bool.false_eq_true, if_false]
      exact wpAny_pure ⟨rfl, rfl, fun u hu' => hall u (List.mem_cons_of_mem _ hu')⟩
  · rintro ⟨r1, r2⟩ s' ⟨hr, rfl, _⟩
    simp only at hr
    subst hr
    exact wpAny_pure h
def hAt (es : Array (Int × Value)) (i : Nat) : Int := (es[i]?.map (·.1)).getD 0
theorem skip_seen {α : Type} {m : Sem Bool} {U R : Sem α} {c : Bool} {Q : α → Shared → Prop} (hK : wpAny (model prog w) A R Q E s) (hm : wpAny (model prog w) A m (fun b s' => b = false ∧ s' = s) E s) :
    wpAny (model prog w) A (if c = true then (m >>= fun x => if x = true then U else R) else R) Q E s := by
  split
  · refine wpAny_bind (wpAny_mono hm (fun b s' ⟨h1, h2⟩ => ?_) fun _ _ x => x)
    subst h1 h2
    simp only [Bool.false_eq_true, if_false]
    exact hK
  · exact hK
theorem search_from (ho : s.heap.get? a = some o) (S : SetAt w o es ep t xs) (hE : EOk prog w s.heap xs) (hu : A.units < cLine) (hk : (KI prog w).is s.heap k b) (adding : Bool) {M : Nat} (hM : M ≤ 10 * (13 + t.mask))
    (h1 : ¬ Usd t (Jx t.mask (th k) M)) (h2 : ∀ m, m < M → Usd t (Jx t.mask (th k) m)) {Q : SetFound → Shared → Prop}
    (hyes : ∀ (i : Nat) (c : Addr), xs[i]? = some (k, c) → Q (.there (if adding then none else some i)) s)
    (hno : k ∉ xs.map (·.1) → ∀ (d : Option Nat), DOk t (th k) M d → Q (.free (d.getD (Jx t.mask (th k) M)) d.isSome) s) :
    ∀ (fuel m : Nat) (st : Option Pb) (d : Option Nat), M < m + fuel → m ≤ M → DOk t (th k) M d → st.getD (t.probeStart (th k)) = advN t.mask m (pst t.mask (th k) d) →
      (∀ (i : Nat) (c : Addr) (j : Nat), xs[i]? = some (k, c) → t.place[i]? = some j → ∃ m0, m ≤ m0 ∧ m0 < M ∧ Jx t.mask (th k) m0 = j) →
      wpAny (model prog w) A (setSearchFrom a (.ref b) (th k) adding fuel st) Q E s
  | 0, m, st, d, q1, q2, _, _, _ => absurd q1 (by omega)
  | fuel + 1, m, st, d, q1, q2, hd, hst, hin => by
    have T := S.T
    have kiu : (KI prog w).room A := hu
    have hsz : ∀ i : Nat, (∃ j, t.place[i]? = some j) ↔ ∃ x, xs[i]? = some x := fun i => by
      have e1 := T.sz
      unfold thE at e1
      rw [List.length_map] at e1
      constructor
      · rintro ⟨j, hj⟩
        have := (Array.getElem?_eq_some_iff.mp hj).1
        exact ⟨_, List.getElem?_eq_getElem (show i < xs.length by omega)⟩
      · rintro ⟨x, hx⟩
        have := (List.getElem?_eq_some_iff.mp hx).1
        exact ⟨_, Array.getElem?_eq_getElem (show i < t.place.size by omega)⟩
    unfold setSearchFrom
    refine wpAny_bind (wpAny_setState_of ho S.hd S.fits ?_)
    dsimp only
    rw [T.noway]
    simp only [Bool.false_eq_true, if_false]
    rw [hst]
    unfold SetTable.probe
    obtain ⟨r, hr, hc⟩ := probe_go T (hAt es) h1 h2 (10 * SetTable.turns t.mask) m d (by unfold SetTable.turns; omega) q2 hd
    generalize hP : SetTable.probe.go t _ (th k) _ _ = P
    obtain rfl : P = some r := hP.symm.trans hr
    dsimp only
    have hat : ∀ (i : Nat) (x : List Int × Addr), xs[i]? = some x → hAt es i = th x.1 := fun i x hx => by
      unfold hAt
      rw [S.at_, hx]; rfl
    rcases hc with ⟨d', rfl, dd, nc⟩ | ⟨c, i, d', a1, a2, a3, a4, rfl, dd, nc⟩
    · have nk : k ∉ xs.map (·.1) := fun w => by
        obtain ⟨x, hx, rfl⟩ := List.mem_map.mp w
        obtain ⟨i, hi⟩ := List.mem_iff_getElem?.mp hx
        obtain ⟨j, hj⟩ := (hsz i).mpr ⟨x, hi⟩
        obtain ⟨m0, g1, g2, g3⟩ := hin i x.2 j hi hj
        exact nc m0 g1 g2 i (by rw [g3]; exact hj) (hat i x hi)
      have := hno nk d' dd
      dsimp only
      cases d' with
      | none => exact wpAny_pure this
      | some z =>
        dsimp only
        have e : (adding && t.slot z != SetTable.Slot.dummy) = false := by
          rw [slot_dummy T (dd z rfl).1]
          simp
        rw [e]
        simp only [Bool.false_eq_true, if_false]
        exact wpAny_pure this
    · obtain ⟨x, hx⟩ := (hsz i).mp ⟨_, a3⟩
      have ex : es[i]? = some (th x.1, .ref x.2) := by rw [S.at_, hx]; rfl
      have hxm := List.mem_of_getElem? hx
      have hxk := hE x hxm
      dsimp only
      refine skip_seen ?_ (quiet_search hk (fun v hv => ?_) ⟨rfl, rfl⟩)
      · rw [ex]
        dsimp only
        refine wpAny_bind (wpAny_holding ((KI prog w).eqBool (x := x.1) (y := k) kiu hxk hk ?_))
        refine wpAny_bind (wpAny_setState_of ho S.hd S.fits ?_)
        dsimp only
        have sm : t.sameMemory t.moves t.mask = some true := by unfold SetTable.sameMemory; rw [if_pos (beq_self_eq_true _)]
        by_cases ek : x.1 = k
        · rw [decide_eq_true ek]
          have hy := hyes i x.2 (by rw [hx, ← ek])
          cases adding with
          | true => simp only [Bool.and_self, if_true]; exact wpAny_pure hy
          | false =>
            simp only [Bool.false_and, Bool.false_eq_true, if_false]
            rw [sm]
            dsimp only
            rw [if_pos rfl, slot_live T a3]
            dsimp only
            rw [ex]
            dsimp only
            refine wpAny_bind (wpAny_isSame_ref_self ?_)
            simp only [if_true]
            refine wpAny_bind (wpAny_pure ?_)
            dsimp only
            exact wpAny_pure hy
        · rw [decide_eq_false ek, Bool.and_false]
          simp only [Bool.false_eq_true, if_false]
          rw [sm]
          dsimp only
          rw [if_pos rfl, slot_live T a3]
          dsimp only
          rw [ex]
          dsimp only
          refine wpAny_bind (wpAny_isSame_ref_self ?_)
          simp only [if_true]
          refine wpAny_bind (wpAny_pure ?_)
          dsimp only
          refine search_from ho S hE hu hk adding hM h1 h2 hyes hno fuel (c + 1) _ d' (by omega) (by omega) dd rfl fun i' c' j' hi' hj' => ?_
          obtain ⟨m0, g1, g2, g3⟩ := hin i' c' j' hi' hj'
          refine ⟨m0, ?_, g2, g3⟩
          refine Classical.byContradiction fun w => ?_
          by_cases e : m0 = c
          · subst e
            have := T.sp.inj a3 (by rw [g3]; exact hj')
            subst this
            rw [hx] at hi'
            cases hi'
            exact ek rfl
          · exact nc m0 g1 (by omega) i' (by rw [g3]; exact hj') (hat i' _ hi')
      · obtain ⟨e, he, rfl⟩ := List.mem_map.mp hv
        have he : e ∈ es := (Array.mem_filter.mp (Array.mem_toList_iff.mp he)).1
        have he : e ∈ xs.map ent := by rw [← S.he]; exact Array.mem_toList_iff.mpr he
        obtain ⟨y, hy, rfl⟩ := List.mem_map.mp he
        exact ⟨y.1, y.2, rfl, hE y hy⟩
end
end L2
set_option Elab.async false
set_option linter.all false
set_option maxRecDepth 100000
set_option maxHeartbeats 1000000
namespace L2
open PySem PySem.Spec PyProof.Rows
theorem adv_le (mask : Nat) (p : Pb) (h : p.j + p.more ≤ mask) : (adv mask p).j + (adv mask p).more ≤ mask := by
  unfold adv
  split
  · dsimp only; omega
  · have hi : (SetTable.leap mask p.i p.perturb).1 ≤ mask := Nat.lt_succ_iff.mp (Nat.mod_lt _ (by omega))
    have := runEnd_le hi
    dsimp only; omega
theorem Jx_le (mask : Nat) (h : Int) (m : Nat) : Jx mask h m ≤ mask := by
  have : ∀ m, (advN mask m (pst mask h none)).j + (advN mask m (pst mask h none)).more ≤ mask := fun m => by
    induction m with
    | zero =>
      have hi : SetTable.bits h % (mask + 1) ≤ mask := Nat.lt_succ_iff.mp (Nat.mod_lt _ (by omega))
      have := runEnd_le hi
      show SetTable.bits h % (mask + 1) + (SetTable.runEnd mask (SetTable.bits h % (mask + 1)) - SetTable.bits h % (mask + 1)) ≤ mask
      omega
    | succ m ih => rw [advN_succ]; exact adv_le mask _ ih
  have := this m
  unfold Jx; omega
structure SetOk (w : World) (o : Obj) (es : Array (Int × Value)) (ep : Nat) (t : SetTable) (xs : Els) : Prop extends SetAt w o es ep t xs where
  f5 : t.fill * 5 < t.mask * 3
section
variable {prog : Program} {w : World} {A : Around} {E : Value → Shared → Prop} {s : Shared} {a b : Addr} {o : Obj} {es : Array (Int × Value)} {ep : Nat} {t : SetTable} {xs : Els} {k : List Int}
theorem set_search (ho : s.heap.get? a = some o) (S : SetAt w o es ep t xs) (hE : EOk prog w s.heap xs) (hu : A.units < cLine) (hk : (KI prog w).is s.heap k b) (adding : Bool) {Q : SetFound → Shared → Prop}
    (hyes : ∀ (i : Nat) (c : Addr), xs[i]? = some (k, c) → Q (.there (if adding then none else some i)) s)
    (hno : k ∉ xs.map (·.1) → ∀ (j : Nat) (wd : Bool), j ≤ t.mask → (wd = true → j ∈ t.dummies.toList) → (wd = false → ¬ Usd t j) → (∃ m, Jx t.mask (th k) m = j ∧ ∀ m', m' < m → Usd t (Jx t.mask (th k) m')) → Q (.free j wd) s) :
    wpAny (model prog w) A (setSearch a (.ref b) (th k) adding) Q E s := by
  obtain ⟨M, hM, h1, h2⟩ := S.T.first (th k)
  have mk := S.T.mask
  unfold setSearch
  refine search_from ho S hE hu hk adding hM h1 h2 hyes (fun nk d dd => ?_) 100000 0 none none (by omega) (by omega) (fun x hx => by cases hx) rfl fun i c j hi hj => ?_
  · cases d with
    | none => exact hno nk _ _ (Jx_le _ _ _) (fun w => by cases w) (fun _ => h1) ⟨M, rfl, h2⟩
    | some z =>
      obtain ⟨z1, m, z2, z3⟩ := dd z rfl
      exact hno nk z true (S.T.ld z z1) (fun _ => z1) (fun w => by cases w) ⟨m, z3, fun m' hm => h2 m' (by omega)⟩
  · obtain ⟨m0, e, q⟩ := S.T.rc (th k, j) (List.mem_iff_getElem?.mpr ⟨i, List.getElem?_zip_eq_some.mpr ⟨by unfold thE; rw [List.getElem?_map, hi]; rfl, by rw [Array.getElem?_toList]; exact hj⟩⟩)
    refine ⟨m0, by omega, ?_, e⟩
    have ju : Usd t j := .inl (List.mem_of_getElem? (by rw [Array.getElem?_toList]; exact hj))
    rcases Nat.lt_trichotomy m0 M with c | c | c
    · exact c
    · subst c; rw [e] at h1; exact absurd ju h1
    · exact absurd (q M c) h1
theorem byScan_ref (b : Addr) (es : Array (Int × Value)) : byScan (.ref b) es = false := rfl
theorem set_find (ho : s.heap.get? a = some o) (S : SetAt w o es ep t xs) (hE : EOk prog w s.heap xs) (hu : A.units < cLine) (hk : (KI prog w).is s.heap k b) {Q : Option Nat → Shared → Prop}
    (hyes : ∀ (i : Nat) (c : Addr), xs[i]? = some (k, c) → Q (some i) s) (hno : k ∉ xs.map (·.1) → Q none s) : wpAny (model prog w) A (setFind a (.ref b) (th k)) Q E s := by
  unfold setFind setFindIn
  refine wpAny_bind (wpAny_setState_of ho S.hd S.fits ?_)
  dsimp only
  rw [byScan_ref]
  simp only [Bool.false_eq_true, if_false]
  refine wpAny_bind (set_search ho S hE hu hk false (fun i c hi => ?_) fun nk j wd _ _ _ _ => ?_)
  · exact wpAny_pure (hyes i c hi)
  · exact wpAny_pure (hno nk)
theorem has_hash {k : List Int} (hk : (KI prog w).is s.heap k b) {Q : Bool → Shared → Prop} (h : Q true s) : wpAny (model prog w) A (hashByValue 8 (.ref b)) Q E s := by
  have hT := IsTupleKey.typeIs (s := s) hk
  obtain ⟨o, items, n, ho, hc, hd, hi⟩ := hk
  unfold hashByValue
  refine wpAny_bind (wpAny_specialOf hT F.slot_tuple_hash.lookup ?_)
  refine wpAny_bind (wpAny_seqItems ho hd ?_)
  dsimp only
  refine wpAny_bind ?_
  show wpAny _ _ (forIn items _ _) _ _ _
  rw [← Array.forIn_toList]
  have hall : ∀ v ∈ items.toList, ∃ (i : Int) (tk : Tok), v = .int i tk := by
    intro v hv
    clear ho hd hT
    generalize items.toList = l at hi hv
    induction hi with
    | nil => cases hv
    | @cons k v' ks vs h1 _ ih =>
      rcases List.mem_cons.mp hv with rfl | hv
      · obtain ⟨tk, rfl⟩ := Value.isInt_shape h1; exact ⟨_, _, rfl⟩
      · exact ih hv
  refine wpAny_forIn_list _ (fun rest r s' => r.1 = none ∧ s' = s ∧ ∀ v ∈ rest, ∃ (i : Int) (tk : Tok), v = .int i tk) _ ?_ ?_ _ _ ⟨rfl, rfl, hall⟩
  · rintro v rest r s' ⟨hr, rfl, hall⟩
    obtain ⟨i, tk, rfl⟩ := hall v List.mem_cons_self
    have : hashByValue 7 (.int i tk) = pure true := rfl
    rw [this]
    refine wpAny_bind (wpAny_pure ?_)
    simp only [Bool.not_true, Bool.false_eq_true, if_false]
    exact wpAny_pure ⟨rfl, rfl, fun u hu' => hall u (List.mem_cons_of_mem _ hu')⟩
  · rintro ⟨r1, r2⟩ s' ⟨hr, rfl, _⟩
    simp only at hr
    subst hr
    exact wpAny_pure h
theorem hashes_of (S : SetAt w o es ep t xs) : (es.map (·.1)).toList = thE xs := by
  rw [Array.toList_map, S.he, List.map_map]; rfl
def pick (xs : Els) (ix : List Nat) : Els := ix.map fun i => xs.getD i ([], 0)
theorem pick_perm {xs : Els} {ix : List Nat} (p : ix.Perm (List.range xs.length)) : (pick xs ix).Perm xs := by
  have e : (List.range xs.length).map (fun i => xs.getD i ([], 0)) = xs := by
    refine List.ext_getElem (by simp) fun i h1 h2 => ?_
    simp [List.getD, h2]
  have := p.map fun i => xs.getD i ([], 0)
  rw [e] at this
  exact this
theorem relaid_ok (S : SetAt w o es ep t xs) {wanted : Nat} (hw : wanted ≤ 4095) (hl : xs.length * 5 < wanted * 3) : ∃ (place order : Array Nat) (mv : Nat), t.relaid (es.map (·.1)) wanted = some (⟨SetTable.sizeAbove wanted - 1, place, #[], t.finger, t.led, mv, t.plain⟩, order) ∧
    order.toList.Perm (List.range xs.length) ∧ (∀ (o' : Obj) (ep' : Nat), o'.ExactSet → o'.data = .set (order.filterMap (es[·]?)) ep' ⟨SetTable.sizeAbove wanted - 1, place, #[], t.finger, t.led, mv, t.plain⟩ →
      SetOk w o' (order.filterMap (es[·]?)) ep' ⟨SetTable.sizeAbove wanted - 1, place, #[], t.finger, t.led, mv, t.plain⟩ (pick xs order.toList)) ∧ (order.filterMap (es[·]?)).size = es.size := by
  obtain ⟨q, h3, h12, e, hlt⟩ := sizeAbove_ok hw
  have sz : (es.map (·.1)).size = xs.length := by rw [Array.size_map, S.size]
  have hk : SetTable.sizeAbove wanted - 1 + 1 = 2 ^ q := by rw [e]; omega
  obtain ⟨place, order, g1, g2, g3⟩ := laid_ok h3 h12 hk t.finger (t.movedTo (SetTable.sizeAbove wanted - 1)) t.led t.plain (es.map (·.1)) (by rw [sz, e]; omega)
  rw [sz] at g2
  have lt : ∀ i ∈ order.toList, i < xs.length := fun i hi => List.mem_range.mp (g2.mem_iff.mp hi)
  have el : (order.filterMap (es[·]?)).toList = (pick xs order.toList).map ent := by
    rw [Array.toList_filterMap]
    unfold pick
    rw [List.map_map]
    have key : ∀ l : List Nat, (∀ i ∈ l, i < xs.length) → l.filterMap (fun i => es[i]?) = l.map (ent ∘ fun i => xs.getD i ([], 0)) := by
      intro l
      induction l with
      | nil => intro _; rfl
      | cons i l ih =>
        intro hl
        have h1 := hl i List.mem_cons_self
        have e1 : es[i]? = some (ent (xs.getD i ([], 0))) := by
          rw [S.at_, List.getElem?_eq_getElem h1]
          simp [List.getD, h1]
        rw [List.filterMap_cons, e1, List.map_cons, ih fun j hj => hl j (List.mem_cons_of_mem _ hj)]
        rfl
    exact key _ lt
  have et : thE (pick xs order.toList) = order.toList.map fun k => (es.map (·.1)).toList.getD k 0 := by
    unfold thE pick
    rw [List.map_map]
    refine List.map_congr_left fun i hi => ?_
    have := lt i hi
    rw [hashes_of S]
    show th (xs.getD i ([], 0)).1 = (thE xs).getD i 0
    unfold thE
    simp [List.getD, this]
  have pp := pick_perm g2
  refine ⟨place, order, _, g1, g2, fun o' ep' hex hd => ?_, ?_⟩
  · refine ⟨⟨hex, hd, el, by rw [et]; exact g3, S.led, S.pl, ?_⟩, ?_⟩
    · exact ((pp.map (·.1)).nodup_iff).mpr S.nd
    · have z := g3.sz
      rw [List.length_map, g2.length_eq, List.length_range] at z
      show (place.size + 0) * 5 < (SetTable.sizeAbove wanted - 1) * 3
      have z : place.size = xs.length := z
      rw [z, e]; omega
  · rw [← Array.length_toList, el, List.length_map, pp.length_eq, S.size]
theorem relay_ok (ho : s.heap.get? a = some o) (S : SetAt w o es ep t xs) {wanted : Nat} (hw : wanted ≤ 4095) (hl : xs.length * 5 < wanted * 3) {Q : Unit → Shared → Prop}
    (h : ∀ h' o' es' ep' t' xs', Heap.SameBut a s.heap h' → h'.get? a = some o' → SetOk w o' es' ep' t' xs' → xs'.Perm xs → Q () { s with heap := h' }) : wpAny (model prog w) A (setRelay a wanted) Q E s := by
  obtain ⟨place, order, mv, g1, g2, g3, g4⟩ := relaid_ok S hw hl
  obtain ⟨q, h3, h12, e, hlt⟩ := sizeAbove_ok hw
  have e0 : setRelay a wanted = (do
    let (es, _, t) ← setState a
    if SetTable.sizeAbove wanted > sizeLine then unsupported "set:memory"
    let (es, t) ← (do
      let some (t, order) := t.relaid (es.map (·.1)) wanted | unsupported "internal:set-table-without-room"
      let es' := order.filterMap (es[·]?)
      if es'.size != es.size then unsupported "internal:set-table-lost-an-element"
      pure (es', t) : Sem (Array (Int × Value) × SetTable))
    storeSet a es t) := rfl
  rw [e0]
  refine wpAny_bind (wpAny_setState_of ho S.hd S.fits ?_)
  dsimp only
  have p12 : 2 ^ q ≤ 2 ^ 12 := Nat.pow_le_pow_right (by omega) h12
  rw [if_neg (by rw [e, sizeLine_eq]; have : (2 : Nat) ^ 12 = 4096 := by decide
                 omega), g1]
  dsimp only
  rw [g4, bne_self_eq_false]
  simp only [Bool.false_eq_true, if_false]
  refine wpAny_bind (wpAny_pure ?_)
  dsimp only
  have sl : (order.filterMap (es[·]?)).size ≤ sizeLine := by
    rw [g4, S.size, sizeLine_eq]; omega
  refine wpAny_storeSet_of ho S.hd ?_ sl
  have hg := Heap.get?_update_self (Obj.putSet (order.filterMap (es[·]?)) ⟨SetTable.sizeAbove wanted - 1, place, #[], t.finger, t.led, mv, t.plain⟩) ho (by rw [putSet_of _ _ S.hd]; rfl)
  rw [putSet_of _ _ S.hd] at hg
  exact h _ _ _ _ _ _ (Heap.SameBut.update s.heap a _) hg (g3 _ _ S.ex rfl) (pick_perm g2)
end
end L2
set_option Elab.async false
set_option linter.all false
set_option maxRecDepth 100000
set_option maxHeartbeats 1000000
namespace L2
open PySem PySem.Spec PyProof.Rows
theorem fill_put {t : SetTable} {hs : List Int} (T : TOk t hs) {j : Nat} (wd : Bool) (h1 : wd = true → j ∈ t.dummies.toList) (h2 : wd = false → ¬ Usd t j) : (t.put j).1.fill = if wd then t.fill else t.fill + 1 := by
  have e1 : (SetTable.insertAt t.place (SetTable.below t.place j) j).size = t.place.size + 1 := by
    have := congrArg List.length (SetTable.toList_insertAt t.place (SetTable.below t.place j) j)
    rw [Array.length_toList] at this
    rw [this]
    have b := (bel T.sp j).le
    simp; omega
  show (SetTable.insertAt t.place (SetTable.below t.place j) j).size + (if SetTable.has t.dummies j = true then SetTable.eraseAt t.dummies (SetTable.below t.dummies j) else t.dummies).size = _
  rw [e1]
  unfold SetTable.fill
  cases wd with
  | true =>
    have hm := h1 rfl
    obtain ⟨i, hi⟩ := List.mem_iff_getElem?.mp hm
    rw [Array.getElem?_toList] at hi
    have lt := (Array.getElem?_eq_some_iff.mp hi).1
    have e2 : (SetTable.eraseAt t.dummies (SetTable.below t.dummies j)).size = t.dummies.size - 1 := by
      rw [← Array.length_toList, erase_list, List.length_eraseIdx, bel_at T.sd hi, if_pos (by rw [Array.length_toList]; exact lt), Array.length_toList]
    rw [if_pos ((has_iff T.sd j).mpr hm), if_pos rfl, e2]; omega
  | false =>
    have hn := h2 rfl
    rw [if_neg fun w => hn (.inr ((has_iff T.sd j).mp w)), if_neg (by decide)]; omega
theorem er_map {α β : Type} (f : α → β) : ∀ (l : List α) (i : Nat), (l.map f).eraseIdx i = (l.eraseIdx i).map f
  | [], _ => rfl
  | _ :: _, 0 => rfl
  | a :: l, i + 1 => by rw [List.map_cons, List.eraseIdx_cons_succ, List.eraseIdx_cons_succ, List.map_cons, er_map f l i]
section
variable {prog : Program} {w : World} {A : Around} {E : Value → Shared → Prop} {s : Shared} {a b : Addr} {o : Obj} {es : Array (Int × Value)} {ep : Nat} {t : SetTable} {xs : Els} {k : List Int}
theorem ins_perm {α : Type} (l : List α) (p : Nat) (x : α) : (insTb l p x).Perm (l ++ [x]) := by
  unfold insTb
  refine List.perm_middle.trans ?_
  rw [List.take_append_drop]
  exact (List.perm_append_singleton x l).symm
theorem set_add (ho : s.heap.get? a = some o) (S : SetOk w o es ep t xs) (hE : EOk prog w s.heap xs) (hu : A.units < cLine) (hk : (KI prog w).is s.heap k b) (hlen : xs.length ≤ 1000) {Q : Bool → Shared → Prop}
    (hyes : k ∈ xs.map (·.1) → Q false s)
    (hno : k ∉ xs.map (·.1) → ∀ h' o' es' ep' t' xs', Heap.SameBut a s.heap h' → h'.get? a = some o' → SetOk w o' es' ep' t' xs' → xs'.Perm (xs ++ [(k, b)]) → Q true { s with heap := h' }) :
    wpAny (model prog w) A (setAddHashed a (.ref b) (th k)) Q E s := by
  have S' := S.toSetAt
  unfold setAddHashed setAddHashedIn
  refine wpAny_holding (wpAny_bind (wpAny_setState_of ho S.hd S'.fits ?_))
  dsimp only
  rw [byScan_ref]
  simp only [Bool.false_eq_true, if_false]
  refine wpAny_bind (set_search ho S' hE hu hk true (fun i c hi => ?_) fun nk j wd hj hd1 hd2 hrc => ?_)
  · exact wpAny_pure (hyes (List.mem_map.mpr ⟨(k, c), List.mem_of_getElem? hi, rfl⟩))
  · dsimp only
    refine wpAny_bind (wpAny_setState_of ho S.hd S'.fits ?_)
    dsimp only
    have T := S.T
    have nj : j ∉ t.place.toList := fun w => by
      cases wd with
      | true => exact T.dj j (hd1 rfl) w
      | false => exact hd2 rfl (.inl w)
    have fp := fill_put T wd hd1 hd2
    have f5 := S.f5
    obtain ⟨q, q3, q12, qe⟩ := T.pw
    have p3 : 2 ^ 3 ≤ 2 ^ q := Nat.pow_le_pow_right (by omega) q3
    have fl : (t.put j).1.fill ≤ t.mask := by rw [fp]; split <;> omega
    have T2 := T.put hj nj hrc fl
    have pl : (t.put j).1.plain = true := S.pl
    have hsz := S'.size
    have el : (SetTable.insertAt es (t.put j).2 (th k, Value.ref b)).toList = (insTb xs (t.put j).2 (k, b)).map ent := by
      rw [SetTable.toList_insertAt, S.he]
      unfold insTb
      rw [List.map_append, List.map_cons, List.map_take, List.map_drop]; rfl
    have et : thE (insTb xs (t.put j).2 (k, b)) = insTb (thE xs) (t.put j).2 (th k) := by
      unfold thE insTb
      rw [List.map_append, List.map_cons, List.map_take, List.map_drop]
    have pp := ins_perm xs (t.put j).2 (k, b)
    have nd2 : ((insTb xs (t.put j).2 (k, b)).map (·.1)).Nodup := by
      refine ((pp.map (·.1)).nodup_iff).mpr ?_
      rw [List.map_append, List.nodup_append]
      exact ⟨S.nd, by simp, fun x hx y hy => by
        simp only [List.map_cons, List.map_nil, List.mem_singleton] at hy
        subst hy
        exact fun e => nk (e ▸ hx)⟩
    have sz2 : (SetTable.insertAt es (t.put j).2 (th k, Value.ref b)).size = xs.length + 1 := by
      rw [← Array.length_toList, el, List.length_map, pp.length_eq]; simp
    have S2 : ∀ (o' : Obj) (ep' : Nat), o'.ExactSet → o'.data = .set (SetTable.insertAt es (t.put j).2 (th k, Value.ref b)) ep' (t.put j).1 → SetAt w o' (SetTable.insertAt es (t.put j).2 (th k, Value.ref b)) ep' (t.put j).1 (insTb xs (t.put j).2 (k, b)) :=
      fun o' ep' hex hd => ⟨hex, hd, el, by rw [et]; exact T2, S.led, pl, nd2⟩
    have hg := Heap.get?_update_self (Obj.putSet (SetTable.insertAt es (t.put j).2 (th k, Value.ref b)) (t.put j).1) ho (by rw [putSet_of _ _ S.hd]; rfl)
    rw [putSet_of _ _ S.hd] at hg
    rw [pl]
    simp only [if_true]
    refine wpAny_bind (has_hash hk ?_)
    simp only [if_true]
    refine wpAny_bind (wpAny_storeSet_of ho S.hd ?_ (by rw [sz2, sizeLine_eq]; omega))
    have hb := Heap.SameBut.update s.heap a (Obj.putSet (SetTable.insertAt es (t.put j).2 (th k, Value.ref b)) (t.put j).1)
    split
    · rename_i hc
      rw [Bool.and_eq_true] at hc
      refine wpAny_bind (relay_ok (s := { s with heap := s.heap.update a (Obj.putSet (SetTable.insertAt es (t.put j).2 (th k, Value.ref b)) (t.put j).1) }) hg (S2 _ _ S.ex rfl) ?_ ?_ fun h' o' es' ep' t' xs' g1 g2 g3 g4 => ?_)
      · rw [hsz]; unfold SetTable.grown; split <;> omega
      · rw [hsz, pp.length_eq]; unfold SetTable.grown
        rw [List.length_append, List.length_singleton]
        split <;> omega
      · exact wpAny_pure (hno nk h' o' es' ep' t' xs' (hb.trans g1) g2 g3 (g4.trans pp))
    · rename_i hc
      refine wpAny_pure (hno nk _ _ _ _ _ _ hb hg ⟨S2 _ _ S.ex rfl, ?_⟩ pp)
      show (t.put j).1.fill * 5 < t.mask * 3
      rw [fp]
      cases wd with
      | true => exact f5
      | false =>
        have hc : ¬ (t.put j).1.tooFull = true := fun w => hc (by rw [w]; rfl)
        unfold SetTable.tooFull at hc
        rw [decide_eq_true_eq, fp] at hc
        have : (t.put j).1.mask = t.mask := rfl
        rw [this] at hc
        simp only [Bool.false_eq_true, if_false] at hc ⊢
        omega
theorem set_discard (ho : s.heap.get? a = some o) (S : SetOk w o es ep t xs) (hE : EOk prog w s.heap xs) (hu : A.units < cLine) (hk : (KI prog w).is s.heap k b) (hlen : xs.length ≤ 1000) {Q : Bool → Shared → Prop}
    (hno : k ∉ xs.map (·.1) → Q false s)
    (hyes : k ∈ xs.map (·.1) → ∀ h' o' es' ep' t' xs', Heap.SameBut a s.heap h' → h'.get? a = some o' → SetOk w o' es' ep' t' xs' → (∃ i c, xs[i]? = some (k, c) ∧ xs' = xs.eraseIdx i) → Q true { s with heap := h' }) :
    wpAny (model prog w) A (setDiscardHashed a (.ref b) (th k)) Q E s := by
  have S' := S.toSetAt
  unfold setDiscardHashed
  refine wpAny_bind (set_find ho S' hE hu hk (fun i c hi => ?_) fun nk => ?_)
  · dsimp only
    refine wpAny_bind (wpAny_setState_of ho S.hd S'.fits ?_)
    dsimp only
    have T := S.T
    have zz := T.sz
    unfold thE at zz
    rw [List.length_map] at zz
    have il := (List.getElem?_eq_some_iff.mp hi).1
    have hp : t.place[i]? = some (t.place[i]'(by omega)) := Array.getElem?_eq_getElem (by omega)
    have T2 := T.drop hp
    have el : (SetTable.eraseAt es i).toList = (xs.eraseIdx i).map ent := by
      rw [erase_list, S.he, er_map]
    have et : thE (xs.eraseIdx i) = (thE xs).eraseIdx i := by unfold thE; rw [er_map]
    have sz2 : (SetTable.eraseAt es i).size ≤ 1000 := by
      rw [← Array.length_toList, el, List.length_map]
      exact Nat.le_trans (List.length_eraseIdx_le _ _) hlen
    have hg := Heap.get?_update_self (Obj.putSet (SetTable.eraseAt es i) (t.drop i)) ho (by rw [putSet_of _ _ S.hd]; rfl)
    rw [putSet_of _ _ S.hd] at hg
    have ed : t.drop i = { t with place := SetTable.eraseAt t.place i, dummies := SetTable.insertAt t.dummies (SetTable.below t.dummies (t.place[i]'(by omega))) (t.place[i]'(by omega)) } := by
      unfold SetTable.drop; rw [hp]
    refine wpAny_bind (wpAny_storeSet_of ho S.hd ?_ (by rw [sizeLine_eq]; omega))
    refine wpAny_bind (wpAny_point ?_)
    refine wpAny_pure (hyes (List.mem_map.mpr ⟨(k, c), List.mem_of_getElem? hi, rfl⟩) _ _ _ _ _ (xs.eraseIdx i) (Heap.SameBut.update s.heap a _) hg ⟨⟨S.ex, rfl, el, by rw [et]; exact T2, by rw [ed]; exact S.led, by rw [ed]; exact S.pl, ?_⟩, ?_⟩ ⟨i, c, hi, rfl⟩)
    · rw [← er_map]
      exact List.Nodup.sublist (List.eraseIdx_sublist _ _) S.nd
    · have f5 := S.f5
      have ff : (t.drop i).fill = t.fill := by
        rw [ed]
        show (SetTable.eraseAt t.place i).size + (SetTable.insertAt t.dummies _ _).size = t.place.size + t.dummies.size
        rw [← Array.length_toList, erase_list, List.length_eraseIdx, ← Array.length_toList (xs := SetTable.insertAt _ _ _), SetTable.toList_insertAt, if_pos (by rw [Array.length_toList]; omega)]
        have b := (bel T.sd (t.place[i]'(by omega))).le
        simp
        omega
      rw [ff, ed]
      exact f5
  · exact wpAny_pure (hno nk)
end
end L2
set_option Elab.async false
set_option linter.all false
set_option maxRecDepth 100000
namespace L2
open PySem PySem.Spec PyProof.Rows
abbrev Key := Sum Int Str
def keyIs : Key → Value → Bool
  | .inl k, v => Value.isInt k v
  | .inr x, v => Value.isStrOf x v
def keyH (w : World) : Key → Int
  | .inl k => hashInt k
  | .inr x => hashStr w x
theorem keyIs_shape : ∀ {k : Key} {v : Value}, keyIs k v = true → (∃ i t, k = Sum.inl i ∧ v = Value.int i t) ∨ (∃ x t, k = Sum.inr x ∧ v = Value.str x t)
  | .inl i, v, h => by
    obtain ⟨t, e⟩ := Value.isInt_shape (k := i) (v := v) h
    exact .inl ⟨i, t, rfl, e⟩
  | .inr x, v, h => by
    obtain ⟨t, e⟩ := Value.isStrOf_shape (x := x) (v := v) h
    exact .inr ⟨x, t, rfl, e⟩
theorem key_ll (a b : Int) : decide ((Sum.inl a : Key) = Sum.inl b) = (a == b) := by
  by_cases e : a = b
  · subst e; simp
  · have h : ¬ (Sum.inl a : Key) = Sum.inl b := fun q => e (Sum.inl.inj q)
    rw [decide_eq_false h]
    exact (beq_eq_false_iff_ne.mpr e).symm
theorem key_rr (a b : Str) : decide ((Sum.inr a : Key) = Sum.inr b) = decide (a = b) := by
  by_cases e : a = b
  · subst e; simp
  · have h : ¬ (Sum.inr a : Key) = Sum.inr b := fun q => e (Sum.inr.inj q)
    rw [decide_eq_false h, decide_eq_false e]
theorem key_lr (a : Int) (b : Str) : decide ((Sum.inl a : Key) = Sum.inr b) = false := decide_eq_false (fun q => nomatch q)
theorem key_rl (a : Str) (b : Int) : decide ((Sum.inr a : Key) = Sum.inl b) = false := decide_eq_false (fun q => nomatch q)
def mixKind (prog : Program) (w : World) : PySem.KeyKind prog w Key where
  is := keyIs
  hash := keyH w
  inj := fun v a b ha hb => by
    rcases keyIs_shape ha with ⟨i, t, rfl, rfl⟩ | ⟨x, t, rfl, rfl⟩
    · rcases keyIs_shape hb with ⟨j, u, rfl, e⟩ | ⟨y, u, rfl, e⟩
      · injection e with e1 _; rw [e1]
      · exact nomatch e
    · rcases keyIs_shape hb with ⟨j, u, rfl, e⟩ | ⟨y, u, rfl, e⟩
      · exact nomatch e
      · injection e with e1 _; rw [e1]
  byValue := fun k v h => by
    rcases keyIs_shape h with ⟨i, t, rfl, rfl⟩ | ⟨x, t, rfl, rfl⟩ <;> rfl
  pyHash := fun hv h => by
    rcases keyIs_shape hv with ⟨i, t, rfl, rfl⟩ | ⟨x, t, rfl, rfl⟩
    · exact wpAny_pyHash_int h
    · exact wpAny_pyHash_str h
  eqBool := fun hu hv h => by
    rcases keyIs_shape hu with ⟨i, t, rfl, rfl⟩ | ⟨x, t, rfl, rfl⟩
    · rcases keyIs_shape hv with ⟨j, u, rfl, rfl⟩ | ⟨y, u, rfl, rfl⟩
      · rw [key_ll] at h; exact wpAny_eqBool_int h
      · rw [key_lr] at h; exact SeqAt.EqAt.int_str i t y u _ _ _ _ h
    · rcases keyIs_shape hv with ⟨j, u, rfl, rfl⟩ | ⟨y, u, rfl, rfl⟩
      · rw [key_rl] at h; exact SeqAt.EqAt.str_int x t j u _ _ _ _ h
      · rw [key_rr] at h; exact wpAny_eqBool_str h
  «strs» := fun k x t v h => by
    rcases keyIs_shape h with ⟨i, u, rfl, e⟩ | ⟨y, u, rfl, e⟩
    · exact nomatch e
    · injection e with e1 _
      subst e1
      cases v <;> rfl
end L2
namespace L2
open PySem PySem.Spec PyProof.Rows
inductive V where
  | non | bl (b : Bool) | int (i : Int) | str (x : Str) | byt (b : Array UInt8) | flt (b : UInt64) | ref (a : Addr) | ty (n : String)
  deriving DecidableEq
def RelV : V → Value → Prop
  | .non, u => u = Value.none
  | .bl b, u => u = Value.bool b
  | .int i, u => ∃ t, u = Value.int i t
  | .str x, u => ∃ t, u = Value.str x t
  | .byt b, u => ∃ t, u = Value.bytes b t
  | .flt b, u => ∃ t, u = Value.float b t
  | .ref a, u => u = Value.ref a
  | .ty n, u => u = Value.type n
abbrev Vals : List V → List Value → Prop := Paired RelV
theorem Vals.length {xs : List V} {us : List Value} (r : Vals xs us) : xs.length = us.length := Paired.length r
theorem Vals.get : ∀ {xs : List V} {us : List Value} {i : Nat} {x : V}, Vals xs us → xs[i]? = some x → ∃ u, us[i]? = some u ∧ RelV x u
  | _, _, _, _, .nil, e => by simp at e
  | _, _, 0, _, .cons r _, e => by simp at e; subst e; exact ⟨_, rfl, r⟩
  | _, _, i + 1, x, .cons _ t, e => by
    obtain ⟨u, h1, h2⟩ := Vals.get (i := i) (x := x) t (by simpa using e)
    exact ⟨u, by simpa using h1, h2⟩
theorem Vals.set {x : V} {u : Value} (r : RelV x u) : ∀ {xs : List V} {us : List Value} (i : Nat), Vals xs us → Vals (xs.set i x) (us.set i u)
  | _, _, _, .nil => .nil
  | _, _, 0, .cons _ t => .cons r t
  | _, _, i + 1, .cons q t => .cons q (Vals.set r i t)
theorem Vals.append : ∀ {xs ys : List V} {us ws : List Value}, Vals xs us → Vals ys ws → Vals (xs ++ ys) (us ++ ws)
  | _, _, _, _, .nil, s => s
  | _, _, _, _, .cons r t, s => .cons r (Vals.append t s)
def RelO : Option V → Option Value → Prop
  | some v, some u => RelV v u
  | none, none => True
  | _, _ => False
def KV {κ : Type} : List (κ × V) → List (κ × Value) → Prop := Paired fun (p : κ × V) (q : κ × Value) => p.1 = q.1 ∧ RelV p.2 q.2
def kV : Key → V
  | .inl i => .int i
  | .inr x => .str x
inductive HO where
  | lst (xs : List V)
  | tup (xs : List V)
  | dK (kvs : List (Key × V)) | dT (kvs : List (List Key × V))
  | set (S : Int → Bool) (n : Nat)
  | tst (xs : List (List Int × Addr))
  | ins (C dx : Addr) (fs : List (Str × V))
  | own (x : Addr)
  | xd (fs : List (Str × V))
  | met (f x : Addr)
  | rng (lo hi : Int)
  | frz (o : Obj) (u : HO)
  | tbl (ps : Array Value)
  | ext (φ : Heap → Prop)
abbrev Hp := Addr → Option HO
def upd (H : Hp) (a : Addr) (o : HO) : Hp := fun b => if b = a then some o else H b
theorem upd_same {H : Hp} {a : Addr} {o : HO} : upd H a o a = some o := by unfold upd; rw [if_pos rfl]
theorem upd_ne {H : Hp} {a b : Addr} {o : HO} (h : b ≠ a) : upd H a o b = H b := by unfold upd; rw [if_neg h]
theorem ne_of_none {H : Hp} {a b : Addr} {o : HO} (h : H a = some o) (h' : H b = none) : a ≠ b := by
  intro e; subst e; rw [h] at h'; cases h'
section
variable (P : Program) (w : World)
def ObjOk (H : Hp) (h : Heap) (a : Addr) : HO → Prop
  | .lst xs => xs.length ≤ sizeLine ∧ ∃ (its : List Value) (n : Nat), Vals xs its ∧ h.get? a = some { cls := .type "list", data := .seq its.toArray n }
  | .tup xs => xs.length ≤ sizeLine ∧ ∃ its : List Value, Vals xs its ∧ IsTup h a its.toArray ∧ ∃ o, h.get? a = some o ∧ o.dict = none
  | .dK kvs => kvs.length ≤ sizeLine ∧ (a == sysModules) = false ∧ ∃ vs, KV kvs vs ∧ h.DictOf (mixKind P w) a vs
  | .dT kvs => kvs.length ≤ sizeLine ∧ (a == sysModules) = false ∧ ∃ xs : List (List Key × Addr × Value),
      Paired (fun (p : List Key × V) (q : List Key × Addr × Value) => p.1 = q.1 ∧ H q.2.1 = some (.tup (p.1.map kV)) ∧ RelV p.2 q.2.2) kvs xs ∧
      ∃ o es ep, h.get? a = some o ∧ o.ExactDict ∧ o.data = .dict es ep ∧ es.toList = xs.map (entryOfKey (tupleKind (mixKind P w))) ∧ (xs.map (·.1)).Nodup
  | .set S n => h.SetOf (intKind P w) a S n
  | .tst xs => ∃ o es ep t, h.get? a = some o ∧ SetOk w o es ep t xs
  | .ins C dx fs => H dx = some (.own a) ∧ fs.length ≤ 1000 ∧ dx ≠ a ∧ h.get? a = some (PySem.W.instObj C dx) ∧
      ∃ mA, h.Ns1 dx mA ∧ (∀ f, RelO (fs.lookup f) (mA f)) ∧ PySem.Within mA (fs.map (·.1))
  | .own _ => ∃ o, h.get? a = some o
  | .xd fs => ∃ mA, h.Ns1 a mA ∧ ∀ f, RelO (fs.lookup f) (mA f)
  | .rng lo hi => ∃ t u v, h.get? a = some { cls := .type "range", data := .fields #[.int lo t, .int hi u, .int 1 v] }
  | .frz o u => h.get? a = some o ∧ ObjOk H h a u
  | .tbl ps => h.get? a = some { cls := .none, data := .fields ps }
  | .met f x => h.get? a = some (PySem.W.methodObj (.ref f) (.ref x))
  | .ext φ => φ h ∧ (∃ o, h.get? a = some o) ∧ ∀ h1 h2 : Heap, φ h1 → (∀ o, h1.get? a = some o → h2.get? a = some o) → φ h2
def HOk (H : Hp) (h : Heap) : Prop := ∀ a o, H a = some o → ObjOk P w H h a o
end
section
variable {P : Program} {w : World} {H H' : Hp} {h h' : Heap} {a : Addr} {o : HO}
theorem ObjOk.lt (x : ObjOk P w H h a o) : a < h.objs.size := by
  cases o with
  | lst xs => obtain ⟨_, _, _, _, e⟩ := x; exact Heap.lt_size e
  | tup xs => obtain ⟨_, _, _, p, _⟩ := x; exact p.lt
  | dK kvs => obtain ⟨_, _, _, _, o, _, _, e, _⟩ := x; exact Heap.lt_size e
  | dT kvs => obtain ⟨_, _, _, _, o, _, _, e, _⟩ := x; exact Heap.lt_size e
  | set S n => obtain ⟨o, _, _, _, e, _⟩ := x; exact Heap.lt_size e
  | tst xs => obtain ⟨o, _, _, _, e, _⟩ := x; exact Heap.lt_size e
  | ins C dx fs => obtain ⟨_, _, _, e, _⟩ := x; exact Heap.lt_size e
  | own y => obtain ⟨_, e⟩ := x; exact Heap.lt_size e
  | xd fs => obtain ⟨_, ⟨_, _, _, e, _⟩, _⟩ := x; exact Heap.lt_size e
  | rng lo hi => obtain ⟨_, _, _, e⟩ := x; exact Heap.lt_size e
  | frz ob u => obtain ⟨e, _⟩ := x; exact Heap.lt_size e
  | tbl ps => exact Heap.lt_size (show h.get? a = some _ from x)
  | met f y => exact Heap.lt_size (show h.get? a = some _ from x)
  | ext φ => obtain ⟨_, ⟨_, e⟩, _⟩ := x; exact Heap.lt_size e
theorem Paired.mapP {α β : Type} {F G : α → β → Prop} : ∀ {l₁ : List α} {l₂ : List β}, Paired F l₁ l₂ → (∀ a b, F a b → G a b) → Paired G l₁ l₂
  | _, _, .nil, _ => .nil
  | _, _, .cons r t, f => .cons (f _ _ r) (Paired.mapP t f)
theorem ObjOk.stay (x : ObjOk P w H h a o) (k : ∀ b u, (b = a ∨ H b = some (.own a)) → h.get? b = some u → h'.get? b = some u)
    (ho : ∀ b, H b = some (.own a) → H' b = some (.own a)) (ht : ∀ b xs, H b = some (.tup xs) → H' b = some (.tup xs)) : ObjOk P w H' h' a o := by
  induction o with
  | lst xs => obtain ⟨z, its, n, r, e⟩ := x; exact ⟨z, its, n, r, k _ _ (.inl rfl) e⟩
  | tup xs => obtain ⟨z, its, r, ⟨ob, e, c⟩, ob2, e2, c2⟩ := x; exact ⟨z, its, r, ⟨ob, k _ _ (.inl rfl) e, c⟩, ob2, k _ _ (.inl rfl) e2, c2⟩
  | dK kvs => obtain ⟨z, y, vs, r, ob, es, ep, e, c⟩ := x; exact ⟨z, y, vs, r, ob, es, ep, k _ _ (.inl rfl) e, c⟩
  | dT kvs =>
    obtain ⟨z, y, xs, r, ob, es, ep, e, c⟩ := x
    exact ⟨z, y, xs, Paired.mapP r fun p q z => ⟨z.1, ht _ _ z.2.1, z.2.2⟩, ob, es, ep, k _ _ (.inl rfl) e, c⟩
  | set S n => obtain ⟨ob, es, ep, t, e, c⟩ := x; exact ⟨ob, es, ep, t, k _ _ (.inl rfl) e, c⟩
  | tst xs => obtain ⟨ob, es, ep, t, e, c⟩ := x; exact ⟨ob, es, ep, t, k _ _ (.inl rfl) e, c⟩
  | ins C dx fs =>
    obtain ⟨d, z, ne, e, mA, ⟨od, es, ep, e2, c⟩, r⟩ := x
    exact ⟨ho _ d, z, ne, k _ _ (.inl rfl) e, mA, ⟨od, es, ep, k _ _ (.inr d) e2, c⟩, r⟩
  | own y => obtain ⟨ob, e⟩ := x; exact ⟨ob, k _ _ (.inl rfl) e⟩
  | xd fs => obtain ⟨mA, ⟨od, es, ep, e, c⟩, r⟩ := x; exact ⟨mA, ⟨od, es, ep, k _ _ (.inl rfl) e, c⟩, r⟩
  | rng lo hi => obtain ⟨t, u, v, e⟩ := x; exact ⟨t, u, v, k _ _ (.inl rfl) e⟩
  | frz ob u ih => obtain ⟨e, q⟩ := x; exact ⟨k _ _ (.inl rfl) e, ih q⟩
  | tbl ps =>
    have e : h.get? a = some { cls := .none, data := .fields ps } := x
    show h'.get? a = some { cls := .none, data := .fields ps }
    exact k a _ (.inl rfl) e
  | met f y =>
    have e : h.get? a = some (PySem.W.methodObj (.ref f) (.ref y)) := x
    show h'.get? a = some (PySem.W.methodObj (.ref f) (.ref y))
    exact k a _ (.inl rfl) e
  | ext φ => obtain ⟨p, ⟨o, e⟩, st⟩ := x; exact ⟨st _ _ p fun o q => k _ _ (.inl rfl) q, ⟨o, k _ _ (.inl rfl) e⟩, st⟩
theorem HOk.lt (x : HOk P w H h) (e : H a = some o) : a < h.objs.size := (x a o e).lt
theorem HOk.fresh (x : HOk P w H h) (e : h.objs.size ≤ a) : H a = none := by
  cases q : H a with
  | none => rfl
  | some u => exact absurd (Nat.lt_of_lt_of_le (x.lt q) e) (Nat.lt_irrefl _)
theorem HOk.kept (x : HOk P w H h) (k : ∀ b u, h.get? b = some u → h'.get? b = some u) : HOk P w H h' := fun a o e =>
  (x a o e).stay (fun b u _ q => k b u q) (fun _ q => q) fun _ _ q => q
theorem HOk.laid (x : HOk P w H h) (k : ∀ b u, h.get? b = some u → h'.get? b = some u) (hp : h.objs.size ≤ a) (new : ObjOk P w (upd H a o) h' a o) : HOk P w (upd H a o) h' := fun b u e => by
  have hn := x.fresh hp
  by_cases hb : b = a
  · subst hb; rw [upd_same] at e; cases e; exact new
  · rw [upd_ne hb] at e
    exact (x b u e).stay (fun c v _ q => k c v q) (fun c q => by rw [upd_ne (ne_of_none q hn)]; exact q) fun c xs q => by rw [upd_ne (ne_of_none q hn)]; exact q
end
def Rd (H : Hp) (a : Addr) (u : HO) : Prop := H a = some u ∨ ∃ o, H a = some (.frz o u)
theorem Rd.ok {P : Program} {w : World} {H : Hp} {h : Heap} {a : Addr} {u : HO} (r : Rd H a u) (x : HOk P w H h) : ObjOk P w H h a u := by
  rcases r with r | ⟨o, r⟩
  · exact x a u r
  · obtain ⟨_, q⟩ := x a _ r
    exact q
def Mut : Option HO → Prop
  | some (.lst _) => True
  | some (.dK _) => True
  | some (.dT _) => True
  | some (.set _ _) => True
  | some (.tst _) => True
  | some (.ins _ _ _) => True
  | some (.ext _) => True
  | _ => False
section
variable {P : Program} {w : World} {H : Hp} {h h' : Heap} {x e : Addr} {o' : HO}
theorem HOk.write (ok : HOk P w H h) (mu : Mut (H x)) (he : e = x ∨ H e = some (.own x)) (k : ∀ b u, b ≠ e → h.get? b = some u → h'.get? b = some u) (heo : ∃ u, h'.get? e = some u)
    (new : ObjOk P w (upd H x o') h' x o') : HOk P w (upd H x o') h' := fun b u q => by
  have nown : ∀ c y, H c = some (.own y) → c ≠ x := fun c y r z => by subst z; rw [r] at mu; exact mu
  have ntup : ∀ c xs, H c = some (.tup xs) → c ≠ x := fun c xs r z => by subst z; rw [r] at mu; exact mu
  by_cases hb : b = x
  · subst hb; rw [upd_same] at q; cases q; exact new
  · rw [upd_ne hb] at q
    by_cases hbe : b = e
    · have q' : H b = some (.own x) := by
        rcases he with z | z
        · exact absurd (hbe.trans z) hb
        · rw [hbe]; exact z
      rw [q] at q'; cases q'
      obtain ⟨v, hv⟩ := heo
      exact ⟨v, by rw [hbe]; exact hv⟩
    · refine (ok b u q).stay (fun c v hc r => k c v ?_ r) (fun c r => by rw [upd_ne (nown c b r)]; exact r) fun c xs r => by rw [upd_ne (ntup c xs r)]; exact r
      rcases hc with rfl | hc
      · exact hbe
      · rintro rfl
        rcases he with z | z
        · exact nown c b hc z
        · rw [hc] at z; cases z; exact hb rfl
end
structure Un (fs ex : List Addr) (H H' : Hp) (h h' : Heap) : Prop where
  keep : ∀ b o, h.get? b = some o → H b = none → b ∉ fs → b ∉ ex → h'.get? b = some o
  slot : ∀ b o, h.get? b = some o → H b = none → b ∈ fs → b ∉ ex → ∃ sl, h'.get? b = some { o with slots := sl }
  free : ∀ b o, h.get? b = some o → H b = none → b ∉ ex → H' b = none
  there : ∀ b o, h.get? b = some o → b ∉ ex → ∃ o', h'.get? b = some o'
  tups : ∀ b xs, H b = some (.tup xs) → H' b = some (.tup xs)
  frzs : ∀ b o u, H b = some (.frz o u) → H' b = some (.frz o u)
  tbls : ∀ b ps, H b = some (.tbl ps) → ∃ more, H' b = some (.tbl (ps ++ more))
section
variable {fs fs' ex ex' : List Addr} {H H1 H2 : Hp} {h h1 h2 h' : Heap} {a x e : Addr} {o : HO}
theorem Un.any (u : Un fs ex H H1 h h1) {b : Addr} {ob : Obj} (q : h.get? b = some ob) (n : H b = none) (hx : b ∉ ex) : ∃ sl, h1.get? b = some { ob with slots := sl } := by
  by_cases hb : b ∈ fs
  · exact u.slot b ob q n hb hx
  · exact ⟨ob.slots, u.keep b ob q n hb hx⟩
theorem Un.trans (a : Un fs ex H H1 h h1) (b : Un fs ex H1 H2 h1 h2) : Un fs ex H H2 h h2 where
  keep := fun c ob q n hc hx => b.keep c ob (a.keep c ob q n hc hx) (a.free c ob q n hx) hc hx
  slot := fun c ob q n hc hx => by
    obtain ⟨sl, e1⟩ := a.slot c ob q n hc hx
    obtain ⟨sl', e2⟩ := b.slot c _ e1 (a.free c ob q n hx) hc hx
    exact ⟨sl', e2⟩
  free := fun c ob q n hx => by
    obtain ⟨o', e1⟩ := a.there c ob q hx
    exact b.free c o' e1 (a.free c ob q n hx) hx
  there := fun c ob q hx => by
    obtain ⟨o', e1⟩ := a.there c ob q hx
    exact b.there c o' e1 hx
  tups := fun c xs q => b.tups c xs (a.tups c xs q)
  frzs := fun c ob xs q => b.frzs c ob xs (a.frzs c ob xs q)
  tbls := fun c ps q => by
    obtain ⟨m1, e1⟩ := a.tbls c ps q
    obtain ⟨m2, e2⟩ := b.tbls c _ e1
    exact ⟨m1 ++ m2, by rw [e2, Array.append_assoc]⟩
theorem Un.kept (k : ∀ b u, h.get? b = some u → h'.get? b = some u) : Un fs ex H H h h' :=
  ⟨fun b ob q _ _ _ => k b ob q, fun b ob q _ _ _ => ⟨ob.slots, k b ob q⟩, fun _ _ _ n _ => n, fun b ob q _ => ⟨ob, k b ob q⟩, fun _ _ q => q, fun _ _ _ q => q, fun _ ps q => ⟨#[], by rw [q]; simp⟩⟩
theorem Un.refl : Un fs ex H H h h := Un.kept fun _ _ q => q
theorem Un.laid (k : ∀ b u, h.get? b = some u → h'.get? b = some u) (hp : h.objs.size ≤ a) (hn : H a = none) : Un fs ex H (upd H a o) h h' where
  keep := fun b u q _ _ _ => k b u q
  slot := fun b u q _ _ _ => ⟨u.slots, k b u q⟩
  free := fun b u q n _ => by rw [upd_ne (Nat.ne_of_lt (Nat.lt_of_lt_of_le (Heap.lt_size q) hp))]; exact n
  there := fun b u q _ => ⟨u, k b u q⟩
  tups := fun b xs q => by rw [upd_ne (ne_of_none q hn)]; exact q
  frzs := fun b u xs q => by rw [upd_ne (ne_of_none q hn)]; exact q
  tbls := fun b ps q => ⟨#[], by rw [upd_ne (ne_of_none q hn), q]; simp⟩
theorem Un.write (mu : Mut (H x)) (he : e = x ∨ H e = some (.own x)) (k : ∀ b u, b ≠ e → h.get? b = some u → h'.get? b = some u) (heo : ∃ u, h'.get? e = some u) : Un fs ex H (upd H x o) h h' := by
  have hx : ∀ b, H b = none → b ≠ x := fun b n z => by subst z; rw [n] at mu; exact mu
  have hb : ∀ b, H b = none → b ≠ e := fun b n z => by
    subst z
    rcases he with r | r
    · exact hx b n r
    · rw [n] at r; cases r
  have hm : ∀ b u, H b = some u → ¬ Mut (some u) → b ≠ x := fun b u q nm z => by subst z; rw [q] at mu; exact nm mu
  refine ⟨fun b u q n _ _ => k b u (hb b n) q, fun b u q n _ _ => ⟨u.slots, k b u (hb b n) q⟩, fun b u q n _ => by rw [upd_ne (hx b n)]; exact n, fun b u q _ => ?_,
    fun b xs q => by rw [upd_ne (hm b _ q fun z => z)]; exact q, fun b u xs q => by rw [upd_ne (hm b _ q fun z => z)]; exact q, fun b ps q => ⟨#[], by rw [upd_ne (hm b _ q fun z => z), q]; simp⟩⟩
  by_cases hbe : b = e
  · subst hbe; exact heo
  · exact ⟨u, k b u hbe q⟩
end
def trk (h : Heap) (H : Hp) : List Addr := (List.range h.objs.size).filter fun a => (H a).isSome
def hidT (h : Heap) (H : Hp) : Heap := PySem.W.hideAll h (trk h H)
theorem hidT_size (h : Heap) (H : Hp) : (hidT h H).objs.size = h.objs.size := PySem.W.hideAll_size _ _
theorem hidT_get {h : Heap} {H : Hp} {b : Addr} {o : Obj} (e : h.get? b = some o) (n : H b = none) : (hidT h H).get? b = some o :=
  PySem.W.hideAll_get _ e fun hm => by
    have q : (H b).isSome = true := (List.mem_filter.mp hm).2
    rw [n] at q; simp at q
theorem of_hidT {h : Heap} {H : Hp} {b : Addr} {o : Obj} (e : (hidT h H).get? b = some o) : h.get? b = some o ∧ H b = none := by
  have e' : h.get? b = some o := PySem.W.of_hideAll (trk h H) e
  refine ⟨e', ?_⟩
  cases q : H b with
  | none => rfl
  | some x =>
    have hm : b ∈ trk h H := List.mem_filter.mpr ⟨List.mem_range.mpr (Heap.lt_size e'), by simp [q]⟩
    have z : (hidT h H).get? b = none := PySem.W.hideAll_none (trk h H) hm
    rw [z] at e; cases e
end L2
namespace L2
open PySem PySem.Spec PyProof.Rows
structure Mod (K : PySem.W.Frag) (mg : Str → Option Value) (base : Heap) : Prop where
  kin : K.In base
  glob : base.Ns mainGlobals mg
  blt : ∃ mb, base.Ns builtinsNs mb ∧ ∀ x : Str, x ≠ "__name__" → mb x = bootBuiltins x
  nolimit : base.NoLimit
structure Cx where
  prog : Program
  w : World
  K : PySem.W.Frag
  mg : Str → Option Value
  base : Heap
  A : Around
  N : List Str
  s₀ : Shared
  H₀ : Hp
  env : Env
  outer : List Env
  stack : List Env
  ex : List Addr
  fn : Str → Bool
  calm : Bool
  pn : List (Addr × Obj)
  xe : Value → Shared → Prop
def frs (l : List Env) : List Addr := l.filterMap (·.frame)
abbrev Cx.fs (X : Cx) : List Addr := frs X.outer
def Vis (sc : Scope) (x : Str) : Prop := sc.names.lookup x = some .local ∨ sc.names.lookup x = some .cell ∨ sc.names.lookup x = some .free
def Loc (sc : Scope) (x : Str) : Prop := sc.names.lookup x = some .local ∨ sc.names.lookup x = some .cell
def Look (env : Env) (h : Heap) (m : Str → Option Value) (x : Str) (u : Value) : Prop :=
  (env.kindOf x = some .local ∧ m x = some u) ∨ ((env.kindOf x = some .cell ∨ env.kindOf x = some .free) ∧ ∃ c, env.cells.lookup x = some c ∧ h.IsCell c (some u))
structure Cx.Ok (X : Cx) : Prop where
  mod : Mod X.K X.mg X.base
  kind : X.env.scope.kind = .function
  glob : X.env.globals = mainGlobals
  blt : X.env.builtins = builtinsNs
  above : X.s₀.heap.objs.size ≤ X.env.locals
  inj : ∀ x y c, X.env.cells.lookup x = some c → X.env.cells.lookup y = some c → x = y
  has : ∀ x, (X.env.kindOf x = some .cell ∨ X.env.kindOf x = some .free) → ∃ c, X.env.cells.lookup x = some c
  cab : ∀ x c, X.fn x = true → X.env.cells.lookup x = some c → X.s₀.heap.objs.size ≤ c
  hd : X.calm = true → X.A.handled = none
  frames : X.A.frames = some X.stack
  stk : X.stack = X.outer ∨ (X.stack = X.env :: X.outer ∧ X.env.frame = some X.env.locals)
  exf : ∀ b ∈ X.ex, b ≠ X.env.locals ∧ ∀ x c, X.env.cells.lookup x = some c → c ≠ b
  bs : ∀ b o, X.base.get? b = some o → X.s₀.heap.get? b = some o ∧ X.H₀ b = none
  bsz : X.base.objs.size ≤ X.s₀.heap.objs.size
  noex : ∀ b o, X.base.get? b = some o → b ∉ X.ex
  exfs : ∀ b ∈ X.ex, b ∉ X.fs
  funs : X.s₀.heap.FunFrames X.base X.outer
  frf : ∀ b ∈ X.fs, X.H₀ b = none
structure Inv (X : Cx) (pins : List (Addr × Obj)) (σ : List (Option V)) (H : Hp) (s : Shared) : Prop where
  ok : X.Ok
  os : s.os = X.s₀.os
  bare : AllBare s.gens
  base : Un X.fs X.ex X.H₀ H X.s₀.heap s.heap
  loc : ∃ m, s.heap.Ns X.env.locals m ∧ ∀ (i : Nat) (x : Str) (v : V), X.N[i]? = some x → σ[i]? = some (some v) → Vis X.env.scope x → ∃ u, RelV v u ∧ Look X.env s.heap m x u
  cell : ∀ x c, X.env.cells.lookup x = some c → ∃ v, s.heap.IsCell c v
  free : H X.env.locals = none
  freeC : ∀ x c, X.env.cells.lookup x = some c → H c = none
  pin : ∀ p ∈ X.pn ++ pins, s.heap.get? p.1 = some p.2 ∧ H p.1 = none ∧ p.1 ≠ X.env.locals ∧ p.1 ∉ X.fs ∧ ∀ v, p.2.data ≠ .cell v
  hok : HOk X.prog X.w H s.heap
  len : σ.length = X.N.length
section
variable {X : Cx} {pins : List (Addr × Obj)} {σ : List (Option V)} {H H' : Hp} {s : Shared} {h' : Heap}
theorem Cx.Ok.nofr (ok : X.Ok) {b : Addr} {o : Obj} (e : X.base.get? b = some o) : b ∉ X.fs := fun hb => by
  have := (ok.funs.mem hb).1
  rw [e] at this; cases this
theorem Inv.bs (I : Inv X pins σ H s) : ∀ b o, X.base.get? b = some o → s.heap.get? b = some o ∧ H b = none := fun b o e =>
  ⟨I.base.keep b o (I.ok.bs b o e).1 (I.ok.bs b o e).2 (I.ok.nofr e) (I.ok.noex b o e), I.base.free b o (I.ok.bs b o e).1 (I.ok.bs b o e).2 (I.ok.noex b o e)⟩
theorem Inv.bk (I : Inv X pins σ H s) : ∀ b o, X.base.get? b = some o → s.heap.get? b = some o := fun b o e => (I.bs b o e).1
theorem Inv.mod (I : Inv X pins σ H s) : Mod X.K X.mg X.base := I.ok.mod
theorem Inv.kIn (I : Inv X pins σ H s) : X.K.In s.heap := I.ok.mod.kin.keeps I.bk
theorem Inv.lt (I : Inv X pins σ H s) : X.env.locals < s.heap.objs.size := let ⟨_, hn, _⟩ := I.loc; hn.lt
theorem Inv.sz (I : Inv X pins σ H s) : X.s₀.heap.objs.size ≤ s.heap.objs.size := Nat.le_trans I.ok.above (Nat.le_of_lt I.lt)
theorem Inv.nofs (I : Inv X pins σ H s) {a : Addr} (h : s.heap.objs.size ≤ a) : a ∉ X.fs := fun hb => by
  obtain ⟨_, o, ho, _⟩ := I.ok.funs.mem hb
  exact absurd (Nat.lt_of_lt_of_le (Heap.lt_size ho) (Nat.le_trans I.sz h)) (Nat.lt_irrefl _)
theorem Inv.cne (I : Inv X pins σ H s) : ∀ x c, X.env.cells.lookup x = some c → c ≠ X.env.locals := fun x c e z => by
  obtain ⟨v, o, ho, hd⟩ := I.cell x c e
  obtain ⟨m, ⟨o', es, ep, ho', hd', _⟩, _⟩ := I.loc
  rw [z, ho'] at ho; cases ho; rw [hd'] at hd; cases hd
theorem Inv.funs (I : Inv X pins σ H s) : s.heap.FunFrames X.base X.outer := by
  have all : ∀ (l : List Env), (∀ b ∈ frs l, b ∈ X.fs) → X.s₀.heap.FunFrames X.base l → s.heap.FunFrames X.base l := by
    intro l
    induction l with
    | nil => intro _ _; trivial
    | cons env r ih =>
      intro hs hl
      obtain ⟨hk, ⟨L, o, hf, hn, ho, hd⟩, hr⟩ := hl
      have hL : L ∈ X.fs := hs L (by unfold frs; rw [List.filterMap_cons, hf]; exact List.mem_cons_self)
      obtain ⟨sl, e⟩ := I.base.slot L o ho (I.ok.frf L hL) hL fun z => I.ok.exfs L z hL
      exact ⟨hk, ⟨L, _, hf, hn, e, hd⟩, ih (fun b hb => hs b (by unfold frs; rw [List.filterMap_cons, hf]; exact List.mem_cons_of_mem _ hb)) hr⟩
  exact all X.outer (fun _ hb => hb) I.ok.funs
theorem Inv.stack (I : Inv X pins σ H s) : s.heap.FunFrames X.base X.stack := by
  rcases I.ok.stk with e | ⟨e, hf⟩
  · rw [e]; exact I.funs
  · rw [e]
    obtain ⟨m, hn, _⟩ := I.loc
    refine .cons (by rw [I.ok.kind]; decide) hf hn ?_ I.funs
    exact Heap.get?_none_of_le (Nat.le_trans I.ok.bsz I.ok.above)
theorem Inv.stkSub (I : Inv X pins σ H s) : ∀ b ∈ frs X.stack, b ∈ X.env.locals :: X.fs := fun b hb => by
  rcases I.ok.stk with e | ⟨e, hf⟩
  · rw [e] at hb; exact List.mem_cons_of_mem _ hb
  · rw [e] at hb
    unfold frs at hb
    rw [List.filterMap_cons, hf] at hb
    exact hb
theorem Inv.stkFree (I : Inv X pins σ H s) : ∀ b ∈ frs X.stack, H b = none := fun b hb => by
  rcases List.mem_cons.mp (I.stkSub b hb) with e | hb
  · rw [e]; exact I.free
  · obtain ⟨_, o, ho, _⟩ := I.ok.funs.mem hb
    exact I.base.free b o ho (I.ok.frf b hb) fun z => I.ok.exfs b z hb
theorem Inv.step {g' : Array GenState} {t' : Nat} {d' : Drawn} {ch : List Addr} (I : Inv X pins σ H s)
    (hch : ∀ b ∈ ch, (b ∈ X.ex ∨ X.s₀.heap.objs.size ≤ b) ∧ b ≠ X.env.locals ∧ (∀ x c, X.env.cells.lookup x = some c → c ≠ b) ∧ ∀ p ∈ X.pn ++ pins, p.1 ≠ b)
    (keep : ∀ b o, b ≠ X.env.locals → b ∉ X.fs → b ∉ ch → s.heap.get? b = some o → H b = none → h'.get? b = some o)
    (slot : ∀ b o, b ≠ X.env.locals → b ∈ X.fs → b ∉ ch → s.heap.get? b = some o → H b = none → ∃ sl, h'.get? b = some { o with slots := sl }) (free : ∀ b o, b ∉ ch → s.heap.get? b = some o → H b = none → H' b = none)
    (there : ∀ b o, b ∉ ch → s.heap.get? b = some o → ∃ o', h'.get? b = some o')
    (tups : ∀ b xs, H b = some (.tup xs) → H' b = some (.tup xs)) (frzs : ∀ b o u, H b = some (.frz o u) → H' b = some (.frz o u)) (tbls : ∀ b ps, H b = some (.tbl ps) → ∃ more, H' b = some (.tbl (ps ++ more)))
    (ns : ∀ m, s.heap.Ns X.env.locals m → h'.Ns X.env.locals m) (hok : HOk X.prog X.w H' h') (hg : AllBare g') :
    Inv X pins σ H' { s with heap := h', gens := g', drawn := d', toks := t' } := by
  have neL : ∀ b o, X.s₀.heap.get? b = some o → b ≠ X.env.locals := fun b o e => Nat.ne_of_lt (Nat.lt_of_lt_of_le (Heap.lt_size e) I.ok.above)
  have neC : ∀ b o, X.s₀.heap.get? b = some o → b ∉ X.ex → b ∉ ch := fun b o e hx hb => by
    rcases (hch b hb).1 with z | z
    · exact hx z
    · exact absurd (Nat.lt_of_lt_of_le (Heap.lt_size e) z) (Nat.lt_irrefl _)
  have cellK : ∀ x c, X.env.cells.lookup x = some c → ∀ v, s.heap.IsCell c v → h'.IsCell c v := fun x c e v hq_ => by
    obtain ⟨o, ho, hd⟩ := hq_
    have nch : c ∉ ch := fun z => (hch c z).2.2.1 x c e rfl
    by_cases hc : c ∈ X.fs
    · obtain ⟨sl, q⟩ := slot c o (I.cne x c e) hc nch ho (I.freeC x c e)
      exact ⟨_, q, hd⟩
    · exact ⟨o, keep c o (I.cne x c e) hc nch ho (I.freeC x c e), hd⟩
  refine ⟨I.ok, I.os, hg, ⟨fun b o e n hb hx => ?_, fun b o e n hb hx => ?_, fun b o e n hx => ?_, fun b o e hx => ?_, fun b xs e => tups b xs (I.base.tups b xs e), fun b o xs e => frzs b o xs (I.base.frzs b o xs e), fun b ps e => ?_⟩, ?_, fun x c e => ?_, ?_, fun x c e => ?_, fun p hp => ?_, hok, I.len⟩
  · exact keep b o (neL b o e) hb (neC b o e hx) (I.base.keep b o e n hb hx) (I.base.free b o e n hx)
  · obtain ⟨sl, e1⟩ := I.base.slot b o e n hb hx
    obtain ⟨sl', e2⟩ := slot b _ (neL b o e) hb (neC b o e hx) e1 (I.base.free b o e n hx)
    exact ⟨sl', e2⟩
  · obtain ⟨o', e1⟩ := I.base.there b o e hx
    exact free b o' (neC b o e hx) e1 (I.base.free b o e n hx)
  · obtain ⟨o', e1⟩ := I.base.there b o e hx
    exact there b o' (neC b o e hx) e1
  · obtain ⟨m1, e1⟩ := I.base.tbls b ps e
    obtain ⟨m2, e2⟩ := tbls b _ e1
    exact ⟨m1 ++ m2, by rw [e2, Array.append_assoc]⟩
  · obtain ⟨m, hn, hl⟩ := I.loc
    refine ⟨m, ns m hn, fun i x v e1 e2 e3 => ?_⟩
    obtain ⟨u, r, l⟩ := hl i x v e1 e2 e3
    refine ⟨u, r, ?_⟩
    rcases l with l | ⟨k, c, e, z⟩
    · exact .inl l
    · exact .inr ⟨k, c, e, cellK x c e _ z⟩
  · obtain ⟨v, z⟩ := I.cell x c e
    exact ⟨v, cellK x c e v z⟩
  · obtain ⟨m, ⟨o, _, _, ho, _⟩, _⟩ := I.loc
    exact free _ o (fun z => (hch _ z).2.1 rfl) ho I.free
  · obtain ⟨v, o, ho, hd⟩ := I.cell x c e
    exact free c o (fun z => (hch c z).2.2.1 x c e rfl) ho (I.freeC x c e)
  · obtain ⟨e, n, ne, nf, d⟩ := I.pin p hp
    have nch : p.1 ∉ ch := fun z => (hch p.1 z).2.2.2 p hp rfl
    exact ⟨keep p.1 p.2 ne nf nch e n, free p.1 p.2 nch e n, ne, nf, d⟩
theorem Inv.un {t' : Nat} (I : Inv X pins σ H s) (u : Un X.fs [] H H' s.heap h') (hok : HOk X.prog X.w H' h') : Inv X pins σ H' { s with heap := h', toks := t' } := by
  obtain ⟨m, ⟨o, es, ep, ho, r⟩, _⟩ := id I.loc
  obtain ⟨sl, hL⟩ := u.any ho I.free (by simp)
  exact I.step (g' := s.gens) (d' := s.drawn) (ch := []) (fun _ z => nomatch z) (fun b o _ hb _ e n => u.keep b o e n hb (by simp)) (fun b o _ hb _ e n => u.slot b o e n hb (by simp)) (fun b o _ e n => u.free b o e n (by simp)) (fun b o _ e => u.there b o e (by simp)) u.tups u.frzs u.tbls (fun m' hm => by
    obtain ⟨o', es', ep', ho', r'⟩ := hm
    rw [ho] at ho'; cases ho'
    exact ⟨_, es', ep', hL, r'⟩) hok I.bare
theorem Inv.call {g' : Array GenState} {t' : Nat} {d' : Drawn} {ch : List Addr} (I : Inv X pins σ H s) (u : Un (frs X.stack) ch H H' s.heap h') (hok : HOk X.prog X.w H' h') (hg : AllBare g')
    (hch : ∀ b ∈ ch, (b ∈ X.ex ∨ X.s₀.heap.objs.size ≤ b) ∧ b ≠ X.env.locals ∧ (∀ x c, X.env.cells.lookup x = some c → c ≠ b) ∧ ∀ p ∈ X.pn ++ pins, p.1 ≠ b) :
    Inv X pins σ H' { s with heap := h', gens := g', drawn := d', toks := t' } := by
  obtain ⟨m, ⟨o, es, ep, ho, r⟩, _⟩ := id I.loc
  obtain ⟨sl, hL⟩ := u.any ho I.free fun z => (hch _ z).2.1 rfl
  exact I.step (ch := ch) hch (fun b o hL hb hc e n => u.keep b o e n (fun z => (List.mem_cons.mp (I.stkSub b z)).elim hL hb) hc) (fun b o _ _ hc e n => u.any e n hc) (fun b o hc e n => u.free b o e n hc) (fun b o hc e => u.there b o e hc) u.tups u.frzs u.tbls (fun m' hm => by
    obtain ⟨o', es', ep', ho', r'⟩ := hm
    rw [ho] at ho'; cases ho'
    exact ⟨_, es', ep', hL, r'⟩) hok hg
theorem Inv.turned {t' : Nat} {it : Addr} (I : Inv X pins σ H s) (k : ∀ b o, b ≠ it → s.heap.get? b = some o → h'.get? b = some o) (hn : H it = none) (hL : it ≠ X.env.locals)
    (h1 : it ∈ X.ex ∨ X.s₀.heap.objs.size ≤ it) (h2 : ∀ x c, X.env.cells.lookup x = some c → c ≠ it) (h3 : ∀ p ∈ X.pn ++ pins, p.1 ≠ it) : Inv X pins σ H { s with heap := h', toks := t' } := by
  have nit : ∀ b u, H b = some u → b ≠ it := fun b u e z => by rw [z, hn] at e; cases e
  refine I.step (g' := s.gens) (d' := s.drawn) (ch := [it]) (fun b hb => ?_) (fun b o _ _ hc e _ => k b o (fun z => hc (by simp [z])) e) (fun b o _ _ hc e _ => ⟨o.slots, k b o (fun z => hc (by simp [z])) e⟩) (fun _ _ _ _ n => n)
    (fun b o hc e => ⟨o, k b o (fun z => hc (by simp [z])) e⟩) (fun _ _ e => e) (fun _ _ _ e => e) (fun b ps e => ⟨#[], by rw [e]; simp⟩) (fun m hm => ?_) (fun b u e => ?_) I.bare
  · have e : b = it := by simpa using hb
    subst e
    exact ⟨h1, hL, h2, h3⟩
  · obtain ⟨o, es, ep, ho, r⟩ := hm
    exact ⟨o, es, ep, k _ o (Ne.symm hL) ho, r⟩
  · refine (I.hok b u e).stay (fun c v hc q => k c v ?_ q) (fun _ q => q) fun _ _ q => q
    rcases hc with z | z
    · rw [z]; exact nit b u e
    · exact nit c _ z
theorem Inv.tok (I : Inv X pins σ H s) (t : Nat) : Inv X pins σ H { s with toks := t } := I.un (h' := s.heap) (t' := t) Un.refl I.hok
theorem Inv.kept {t' : Nat} (I : Inv X pins σ H s) (k : ∀ b u, s.heap.get? b = some u → h'.get? b = some u) : Inv X pins σ H { s with heap := h', toks := t' } := I.un (Un.kept k) (I.hok.kept k)
theorem Inv.laid {a : Addr} {o : HO} {t' : Nat} (I : Inv X pins σ H s) (k : ∀ b u, s.heap.get? b = some u → h'.get? b = some u) (hp : s.heap.objs.size ≤ a) (new : ObjOk X.prog X.w (upd H a o) h' a o) :
    Inv X pins σ (upd H a o) { s with heap := h', toks := t' } := I.un (Un.laid k hp (I.hok.fresh hp)) (I.hok.laid k hp new)
theorem Inv.write {x e : Addr} {o : HO} {t' : Nat} (I : Inv X pins σ H s) (mu : Mut (H x)) (he : e = x ∨ H e = some (.own x)) (k : ∀ b u, b ≠ e → s.heap.get? b = some u → h'.get? b = some u) (heo : ∃ u, h'.get? e = some u)
    (new : ObjOk X.prog X.w (upd H x o) h' x o) : Inv X pins σ (upd H x o) { s with heap := h', toks := t' } := I.un (Un.write mu he k heo) (I.hok.write mu he k heo new)
theorem Inv.pins_of {pins' : List (Addr × Obj)} (I : Inv X pins σ H s) (h : ∀ p ∈ pins', s.heap.get? p.1 = some p.2 ∧ H p.1 = none ∧ p.1 ≠ X.env.locals ∧ p.1 ∉ X.fs ∧ ∀ v, p.2.data ≠ .cell v) : Inv X pins' σ H s :=
  ⟨I.ok, I.os, I.bare, I.base, I.loc, I.cell, I.free, I.freeC, fun p hp => (List.mem_append.mp hp).elim (fun z => I.pin p (List.mem_append_left _ z)) (h p), I.hok, I.len⟩
theorem nodup_ix {N : List Str} (hN : N.Nodup) {i j : Nat} {x : Str} (a : N[i]? = some x) (b : N[j]? = some x) : i = j := by
  obtain ⟨h1, e1⟩ := List.getElem?_eq_some_iff.mp a
  obtain ⟨h2, e2⟩ := List.getElem?_eq_some_iff.mp b
  exact (List.getElem_inj hN).mp (e1.trans e2.symm)
theorem store_ok2 {M : Model} {A : Around} {E : Value → Shared → Prop} {i : Nat} {x : Str} {v : V} {u : Value} {Q : Unit → Shared → Prop} (I : Inv X pins σ H s) (hN : X.N.Nodup) (hi : X.N[i]? = some x) (hx : Loc X.env.scope x) (r : RelV v u)
    (h : ∀ s', Inv X pins (σ.set i (some v)) H s' → (∃ a, Heap.SameBut a s.heap s'.heap ∧ (a = X.env.locals ∨ X.env.cells.lookup x = some a)) → Q () s') (hf : X.fn x = true ∨ X.env.scope.names.lookup x = some .local := by first | exact .inl rfl | exact .inr rfl | assumption) : wpAny M A (storeName X.env x u) Q E s := by
  obtain ⟨m, hn, hl⟩ := id I.loc
  have hcls : (X.env.scope.kind == .class || (X.env.scope.kind == .module && X.env.locals != X.env.globals)) = false := by rw [I.ok.kind]; rfl
  have hiσ : i < σ.length := by rw [I.len]; exact (List.getElem?_eq_some_iff.mp hi).1
  have cne := I.cne
  have tracked : ∀ {a : Addr} {h' : Heap}, (∃ o, s.heap.get? a = some o ∧ H a = none) → Heap.SameBut a s.heap h' → HOk X.prog X.w H h' := fun {a h'} ha hs b ob e => by
    obtain ⟨_, _, hfree⟩ := ha
    refine (I.hok b ob e).stay (fun c w' hc q => (hs.2 c ?_).trans q) (fun _ q => q) fun _ _ q => q
    rintro rfl
    rcases hc with rfl | hc
    · rw [hfree] at e; cases e
    · rw [hfree] at hc; cases hc
  rcases hx with hk | hk
  · refine wpAny_storeName_local hk hn (fun h' hn' hs => ?_) hcls
    obtain ⟨oL, _, _, hoL, _⟩ := id hn
    refine h _ ⟨I.ok, I.os, I.bare, ⟨fun b o e n hb hx => ?_, fun b o e n hb hx => ?_, I.base.free, fun b o e hx => ?_, I.base.tups, I.base.frzs, I.base.tbls⟩, ⟨_, hn', fun j y v' e1 e2 e3 => ?_⟩, fun y c e => ?_, I.free, I.freeC, fun p hp => ?_, tracked ⟨oL, hoL, I.free⟩ hs, by simpa using I.len⟩ ⟨_, hs, .inl rfl⟩
    · exact (hs.2 b (Nat.ne_of_lt (Nat.lt_of_lt_of_le (Heap.lt_size e) I.ok.above))).trans (I.base.keep b o e n hb hx)
    · obtain ⟨sl, e1⟩ := I.base.slot b o e n hb hx
      exact ⟨sl, (hs.2 b (Nat.ne_of_lt (Nat.lt_of_lt_of_le (Heap.lt_size e) I.ok.above))).trans e1⟩
    · obtain ⟨o', e1⟩ := I.base.there b o e hx
      exact ⟨o', (hs.2 b (Nat.ne_of_lt (Nat.lt_of_lt_of_le (Heap.lt_size e) I.ok.above))).trans e1⟩
    · by_cases hj : j = i
      · subst hj
        rw [hi] at e1; cases e1
        rw [List.getElem?_set_self hiσ] at e2
        cases e2
        exact ⟨u, r, .inl ⟨hk, by simp⟩⟩
      · rw [List.getElem?_set_ne (Ne.symm hj)] at e2
        obtain ⟨u', r', q⟩ := hl j y v' e1 e2 e3
        refine ⟨u', r', ?_⟩
        rcases q with ⟨k, e⟩ | ⟨k, c, e, z⟩
        · refine .inl ⟨k, ?_⟩
          have : y ≠ x := fun e => hj (nodup_ix hN e1 (e ▸ hi))
          simp [this, e]
        · exact .inr ⟨k, c, e, z.sameBut hs (cne y c e)⟩
    · obtain ⟨w', z⟩ := I.cell y c e
      exact ⟨w', z.sameBut hs (cne y c e)⟩
    · obtain ⟨e, n, ne, nf, d⟩ := I.pin p hp
      exact ⟨(hs.2 p.1 ne).trans e, n, ne, nf, d⟩
  · have hfn : X.fn x = true := by
      rcases hf with z | z
      · exact z
      · rw [z] at hk; cases hk
    obtain ⟨c, hc⟩ := I.ok.has x (.inl hk)
    obtain ⟨w', z⟩ := I.cell x c hc
    refine wpAny_storeName_cell I.ok.kind hk hc z (fun h' hc' hs => ?_)
    obtain ⟨oc, hoc, hocd⟩ := id z
    refine h { s with heap := h' } ⟨I.ok, I.os, I.bare, ⟨fun b o e n hb hx => ?_, fun b o e n hb hx => ?_, I.base.free, fun b o e hx => ?_, I.base.tups, I.base.frzs, I.base.tbls⟩, ⟨m, hn.sameBut hs (Ne.symm (cne x c hc)), fun j y v' e1 e2 e3 => ?_⟩, fun y c' e => ?_, I.free, I.freeC, fun p hp => ?_, tracked ⟨oc, hoc, I.freeC x c hc⟩ hs, by simpa using I.len⟩ ⟨c, hs, .inr hc⟩
    · exact (hs.2 b (Nat.ne_of_lt (Nat.lt_of_lt_of_le (Heap.lt_size e) (I.ok.cab x c hfn hc)))).trans (I.base.keep b o e n hb hx)
    · obtain ⟨sl, e1⟩ := I.base.slot b o e n hb hx
      exact ⟨sl, (hs.2 b (Nat.ne_of_lt (Nat.lt_of_lt_of_le (Heap.lt_size e) (I.ok.cab x c hfn hc)))).trans e1⟩
    · obtain ⟨o', e1⟩ := I.base.there b o e hx
      exact ⟨o', (hs.2 b (Nat.ne_of_lt (Nat.lt_of_lt_of_le (Heap.lt_size e) (I.ok.cab x c hfn hc)))).trans e1⟩
    · by_cases hj : j = i
      · subst hj
        rw [hi] at e1; cases e1
        rw [List.getElem?_set_self hiσ] at e2
        cases e2
        exact ⟨u, r, .inr ⟨.inl hk, c, hc, hc'⟩⟩
      · rw [List.getElem?_set_ne (Ne.symm hj)] at e2
        obtain ⟨u', r', q⟩ := hl j y v' e1 e2 e3
        refine ⟨u', r', ?_⟩
        rcases q with q | ⟨k, c', e, z'⟩
        · exact .inl q
        · refine .inr ⟨k, c', e, z'.sameBut hs ?_⟩
          rintro rfl
          exact hj (nodup_ix hN e1 (I.ok.inj _ _ _ e hc ▸ hi))
    · by_cases hcc : c' = c
      · subst hcc; exact ⟨_, hc'⟩
      · obtain ⟨w2, z2⟩ := I.cell y c' e
        exact ⟨w2, z2.sameBut hs hcc⟩
    · obtain ⟨e, n, ne, nf, d⟩ := I.pin p hp
      refine ⟨(hs.2 p.1 ?_).trans e, n, ne, nf, d⟩
      intro q
      rw [q, hoc] at e
      have q' : oc = p.2 := Option.some.inj e
      exact d w' (by rw [← q']; exact hocd)
theorem store_ok {M : Model} {A : Around} {E : Value → Shared → Prop} {i : Nat} {x : Str} {v : V} {u : Value} {Q : Unit → Shared → Prop} (I : Inv X pins σ H s) (hN : X.N.Nodup) (hi : X.N[i]? = some x) (hx : Loc X.env.scope x) (r : RelV v u)
    (h : ∀ s', Inv X pins (σ.set i (some v)) H s' → Q () s') (hf : X.fn x = true ∨ X.env.scope.names.lookup x = some .local := by first | exact .inl rfl | exact .inr rfl | assumption) : wpAny M A (storeName X.env x u) Q E s :=
  store_ok2 I hN hi hx r (fun s' I' _ => h s' I') hf
theorem Inv.call' {s' : Shared} {ch : List Addr} (I : Inv X pins σ H s) (ho : s'.os = s.os) (u : Un (frs X.stack) ch H H' s.heap s'.heap) (hok : HOk X.prog X.w H' s'.heap) (hg : AllBare s'.gens)
    (hch : ∀ b ∈ ch, (b ∈ X.ex ∨ X.s₀.heap.objs.size ≤ b) ∧ b ≠ X.env.locals ∧ (∀ x c, X.env.cells.lookup x = some c → c ≠ b) ∧ ∀ p ∈ X.pn ++ pins, p.1 ≠ b) : Inv X pins σ H' s' := by
  obtain ⟨h', g', d', t', o'⟩ := s'
  have e : o' = s.os := ho
  subst e
  exact I.call (g' := g') (t' := t') (d' := d') u hok hg hch
end
abbrev XK := Value → Option Addr → Hp → Prop
abbrev St := List (Option V)
abbrev VK := V → Hp → Prop
abbrev TE := St → Hp → VK → Prop
abbrev TT := St → Hp → (Bool → Hp → Prop) → Prop
abbrev TA := St → Hp → (List V → Hp → Prop) → Prop
structure Ends where
  nx : St → Hp → Prop
  rt : VK
  bk : St → Hp → Prop := fun _ _ => False
  ct : St → Hp → Prop := fun _ _ => False
abbrev TS := Ends → St → Hp → Prop
def EP (X : Cx) (pins : List (Addr × Obj)) (σ : St) (Q : VK) (u : Value) (s' : Shared) : Prop := ∃ v H', Inv X pins σ H' s' ∧ RelV v u ∧ Q v H'
def TP (X : Cx) (pins : List (Addr × Obj)) (σ : St) (Q : Bool → Hp → Prop) (b : Bool) (s' : Shared) : Prop := ∃ H', Inv X pins σ H' s' ∧ Q b H'
def AP (X : Cx) (pins : List (Addr × Obj)) (σ : St) (Q : List V → Hp → Prop) (us : List Value) (s' : Shared) : Prop := ∃ vs H', Inv X pins σ H' s' ∧ Vals vs us ∧ Q vs H'
def SP (X : Cx) (pins : List (Addr × Obj)) (D : Ends) (f : Flow) (s' : Shared) : Prop :=
  match f with
  | .next => ∃ σ' H', Inv X pins σ' H' s' ∧ D.nx σ' H'
  | .brk => ∃ σ' H', Inv X pins σ' H' s' ∧ D.bk σ' H'
  | .cont => ∃ σ' H', Inv X pins σ' H' s' ∧ D.ct σ' H'
  | .ret u => ∃ v σ' H', Inv X pins σ' H' s' ∧ RelV v u ∧ D.rt v H'
def PE (X : Cx) (e : Expr) (t : TE) : Prop :=
  ∀ (pins : List (Addr × Obj)) (s : Shared) (σ : St) (H : Hp) (Q : VK), Inv X pins σ H s → t σ H Q → wpAny (model X.prog X.w) X.A (eval e X.env) (EP X pins σ Q) X.xe s
def PT (X : Cx) (e : Expr) (t : TT) : Prop :=
  ∀ (pins : List (Addr × Obj)) (s : Shared) (σ : St) (H : Hp) (Q : Bool → Hp → Prop), Inv X pins σ H s → t σ H Q → wpAny (model X.prog X.w) X.A (isTrue e X.env (eval e X.env)) (TP X pins σ Q) X.xe s
def PW (X : Cx) (e : Expr) (t : TT) : Prop :=
  ∀ (whole : Sem Value) (pins : List (Addr × Obj)) (s : Shared) (σ : St) (H : Hp) (Q : Bool → Hp → Prop), Inv X pins σ H s → t σ H Q → wpAny (model X.prog X.w) X.A (isTrue e X.env whole) (TP X pins σ Q) X.xe s
theorem PW.pt {X : Cx} {e : Expr} {t : TT} (h : PW X e t) : PT X e t := h _
def PA (X : Cx) (es : List Expr) (t : TA) : Prop :=
  ∀ (pos : Pos) (pins : List (Addr × Obj)) (s : Shared) (σ : St) (H : Hp) (Q : List V → Hp → Prop), Inv X pins σ H s → t σ H Q → wpAny (model X.prog X.w) X.A (spliced (backTo pos (starEach es X.env))) (AP X pins σ Q) X.xe s
def PS (X : Cx) (st : Stmt) (t : TS) : Prop :=
  ∀ (pins : List (Addr × Obj)) (s : Shared) (σ : St) (H : Hp) (D : Ends), Inv X pins σ H s → t D σ H → wpAny (model X.prog X.w) X.A (exec st X.env) (SP X pins D) X.xe s
def PSs (X : Cx) (st : List Stmt) (t : TS) : Prop :=
  ∀ (pins : List (Addr × Obj)) (s : Shared) (σ : St) (H : Hp) (D : Ends), Inv X pins σ H s → t D σ H → wpAny (model X.prog X.w) X.A (execs st X.env) (SP X pins D) X.xe s
theorem thn {α : Type} {t : Sem α} {Q Q' : α → Shared → Prop} {M : Model} {A : Around} {E : Value → Shared → Prop} {s : Shared} (h : wpAny M A t Q E s) (hQ : ∀ a s, Q a s → Q' a s) : wpAny M A t Q' E s := wpAny_mono h hQ fun _ _ x => x
end L2
namespace L2
open PySem PySem.Spec PyProof.Rows
section
variable {X : Cx}
def tVar (i : Nat) : TE := fun σ H Q => ∃ v, σ[i]? = some (some v) ∧ Q v H
def tC (v : V) : TE := fun _ H Q => Q v H
theorem pe_var {i : Nat} {x : Str} {pos : Pos} (hN : X.N[i]? = some x) (hv : Vis X.env.scope x) (hd : (x == ("__debug__" : Str)) = false := by decide) (hcd : (x == ("__classdict__" : Str)) = false := by decide) : PE X (.Name x pos) (tVar i) := by
  intro pins s σ H Q I h
  obtain ⟨v, e, h⟩ := h
  obtain ⟨m, hn, hl⟩ := I.loc
  obtain ⟨u, r, l⟩ := hl i x v hN e hv
  have fin : EP X pins σ Q u s := ⟨v, H, I, r, h⟩
  rcases l with ⟨hk, hm⟩ | ⟨hk, c, hc, hcell⟩
  · exact wpAny_Name (wpAny_loadName_local I.ok.kind hk hn hm fin) hd
  · rcases hk with hk | hk
    · exact wpAny_Name (wpAny_loadName_cell I.ok.kind hk hc hcell fin) hd
    · exact wpAny_Name (wpAny_loadName_free I.ok.kind hk hc hcell fin hcd) hd
theorem pe_int {i j pos} : PE X (.Constant (.int i) j pos) (tC (.int i)) := fun _ _ _ H _ I h => wpAny_Constant_int ⟨.int i, H, I.tok _, ⟨_, rfl⟩, h⟩
theorem pe_bl {b j pos} : PE X (.Constant (.bool b) j pos) (tC (.bl b)) := fun _ _ _ H _ I h => Constant_bool ⟨.bl b, H, I, rfl, h⟩
theorem pe_non {j pos} : PE X (.Constant .none j pos) (tC .non) := fun _ _ _ H _ I h => Constant_none ⟨.non, H, I, rfl, h⟩
def Gl (X : Cx) (x : Str) : Prop := X.env.kindOf x = some .globalImplicit
theorem ld_glob {E : Value → Shared → Prop} {pins : List (Addr × Obj)} {s : Shared} {σ : St} {H : Hp} {x : Str} {u : Value} {pos : Pos} {Q : Value → Shared → Prop} (I : Inv X pins σ H s) (hg : Gl X x) (hm : X.mg x = some u) (h : Q u s)
    (hd : (x == ("__debug__" : Str)) = false := by decide) : wpAny (model X.prog X.w) X.A (eval (.Name x pos) X.env) Q E s :=
  Calls.Name_function_global I.ok.kind hg (Calls.loadGlobal_global (by rw [I.ok.glob]; exact I.mod.glob.keeps I.bk) hm h) hd
theorem ld_blt {E : Value → Shared → Prop} {pins : List (Addr × Obj)} {s : Shared} {σ : St} {H : Hp} {x : Str} {u : Value} {pos : Pos} {Q : Value → Shared → Prop} (I : Inv X pins σ H s) (hg : Gl X x) (hm : X.mg x = none) (hv : bootBuiltins x = some u) (h : Q u s)
    (hn : x ≠ "__name__" := by decide) (hd : (x == ("__debug__" : Str)) = false := by decide) : wpAny (model X.prog X.w) X.A (eval (.Name x pos) X.env) Q E s := by
  obtain ⟨mb, h1, h2⟩ := I.mod.blt
  exact Calls.Name_function_global I.ok.kind hg (Calls.loadGlobal_builtin (by rw [I.ok.glob]; exact I.mod.glob.keeps I.bk) hm (by rw [I.ok.blt]; exact h1.keeps I.bk) ((h2 x hn).trans hv) h) hd
theorem pe_bltn {x : Str} {v : V} {u : Value} {pos : Pos} (hg : Gl X x) (hm : X.mg x = none) (hv : bootBuiltins x = some u) (r : RelV v u) (hn : x ≠ "__name__" := by decide) (hd : (x == ("__debug__" : Str)) = false := by decide) : PE X (.Name x pos) (tC v) :=
  fun _ _ _ H _ I h => ld_blt I hg hm hv ⟨v, H, I, r, h⟩ hn hd
variable {a b : Expr} {ta tb : TE} {pos : Pos}
variable {tA tB' : TT} {rest : List Expr}
def tOr (t u : TT) : TT := fun σ H Q => t σ H fun c H1 => if c = true then Q true H1 else u σ H1 Q
def tNot (t : TT) : TT := fun σ H Q => t σ H fun c H1 => Q (!c) H1
theorem pw_or1 (ha : PT X a tA) : PW X (.BoolOp .Or [a] pos) tA := by
  intro wh pins s σ H Q I h
  refine isTrue_or (thn (ha pins s σ H Q I h) fun c s1 e => ?_)
  cases c with
  | false => exact isTrue_or_nil e
  | true => exact e
theorem pw_or (ha : PT X a tA) (hb : PW X (.BoolOp .Or (b :: rest) pos) tB') : PW X (.BoolOp .Or (a :: b :: rest) pos) (tOr tA tB') := by
  intro wh pins s σ H Q I h
  refine isTrue_or (thn (ha pins s σ H _ I h) fun c s1 hq_ => ?_)
  obtain ⟨H1, I1, q1⟩ := hq_
  cases c with
  | true => exact ⟨H1, I1, q1⟩
  | false => exact hb wh pins s1 σ H1 Q I1 q1
theorem pt_not (ha : PT X a tA) : PT X (.UnaryOp .Not a pos) (tNot tA) := by
  intro pins s σ H Q I h
  exact isTrue_not (ha pins s σ H (fun c H1 => Q (!c) H1) I h)
def tAndV (ta tb : TE) : TE := fun σ H Q => ta σ H fun x H1 => ∃ c, x = .bl c ∧ if c = true then tb σ H1 Q else Q (.bl false) H1
theorem pe_one {op} {t : TE} (h : PE X a t) : PE X (.BoolOp op [a] pos) t := fun pins s σ H Q I hw => BoolOp_one (h pins s σ H Q I hw)
theorem pe_and (ha : PE X a ta) (hb : PE X (.BoolOp .And (b :: rest) pos) tb) : PE X (.BoolOp .And (a :: b :: rest) pos) (tAndV ta tb) := by
  intro pins s σ H Q I h
  refine BoolOp_and (thn (ha pins s σ H _ I h) fun v s1 hq_ => ?_)
  obtain ⟨x, H1, I1, r1, q1⟩ := hq_
  obtain ⟨c, rfl, q1⟩ := q1
  cases r1
  refine wpAny_truthy_bool ?_
  cases c with
  | true => exact hb pins s1 σ H1 Q I1 q1
  | false => exact ⟨.bl false, H1, I1, rfl, q1⟩
end
end L2
namespace L2
open PySem PySem.Spec PyProof.Rows
def SqL (K : PySem.W.Frag) (H : Hp) (a : Addr) (xs : List V) : Prop :=
  Rd H a (.lst xs) ∨
    ∃ (o : Obj) (its : Array Value) (n : Nat), K.lookup a = some o ∧ o.cls = .type "list" ∧ o.dict = none ∧ o.data = .seq its n ∧ its.size ≤ sizeLine ∧ Vals xs its.toList
def SqT (K : PySem.W.Frag) (H : Hp) (a : Addr) (xs : List V) : Prop :=
  Rd H a (.tup xs) ∨
    ∃ (o : Obj) (its : Array Value) (n : Nat), K.lookup a = some o ∧ o.cls = .type "tuple" ∧ o.data = .seq its n ∧ its.size ≤ sizeLine ∧ Vals xs its.toList ∧ o.dict = none
def absV : Value → Option V
  | .none => some .non
  | .bool b => some (.bl b)
  | .int i _ => some (.int i)
  | .str x _ => some (.str x)
  | .bytes b _ => some (.byt b)
  | .float b _ => some (.flt b)
  | .ref a => some (.ref a)
  | .type n => some (.ty n)
  | _ => none
theorem RelV.abs {x : V} {u : Value} (r : RelV x u) : absV u = some x := by
  cases x with
  | non => cases r; rfl
  | bl _ => cases r; rfl
  | int _ => obtain ⟨t, rfl⟩ := r; rfl
  | str _ => obtain ⟨t, rfl⟩ := r; rfl
  | byt _ => obtain ⟨t, rfl⟩ := r; rfl
  | flt _ => obtain ⟨t, rfl⟩ := r; rfl
  | ref _ => cases r; rfl
  | ty _ => cases r; rfl
theorem RelV.inj {x y : V} {u : Value} (r : RelV x u) (q : RelV y u) : x = y := Option.some.inj (r.abs.symm.trans q.abs)
theorem Vals.inj : ∀ {xs ys : List V} {us : List Value}, Vals xs us → Vals ys us → xs = ys
  | _, _, _, .nil, .nil => rfl
  | _, _, _, .cons r t, .cons r' t' => by rw [r.inj r', Vals.inj t t']
section
variable {X : Cx} {pins : List (Addr × Obj)} {σ : St} {H : Hp} {s : Shared} {a : Addr} {xs ys : List V}
theorem SqL.of {K : PySem.W.Frag} (h : H a = some (.lst xs)) : SqL K H a xs := .inl (.inl h)
theorem SqT.of {K : PySem.W.Frag} (h : H a = some (.tup xs)) : SqT K H a xs := .inl (.inl h)
theorem Inv.list (I : Inv X pins σ H s) (h : SqL X.K H a xs) : ∃ its : List Value, Vals xs its ∧ PlainL s.heap a its.toArray ∧ xs.length ≤ sizeLine := by
  rcases h with h | ⟨o, its, n, hk, hc, hd, hs, hz, r⟩
  · obtain ⟨z, its, n, r, e⟩ := h.ok I.hok
    exact ⟨its, r, ⟨_, n, e, rfl, rfl, rfl⟩, z⟩
  · refine ⟨its.toList, r, ⟨o, n, I.kIn a o hk, hc, hd, by simpa using hs⟩, ?_⟩
    have e := r.length
    simp only [Array.length_toList] at e
    omega
theorem Inv.tuple (I : Inv X pins σ H s) (h : SqT X.K H a xs) : ∃ its : List Value, Vals xs its ∧ IsTup s.heap a its.toArray ∧ xs.length ≤ sizeLine := by
  rcases h with h | ⟨o, its, n, hk, hc, hs, hz, r, _⟩
  · obtain ⟨z, its, r, p, _⟩ := h.ok I.hok
    exact ⟨its, r, p, z⟩
  · refine ⟨its.toList, r, ⟨o, I.kIn a o hk, hc, n, by simpa using hs⟩, ?_⟩
    have e := r.length
    simp only [Array.length_toList] at e
    omega
theorem Inv.tupleN (I : Inv X pins σ H s) (h : SqT X.K H a xs) : (∃ o, s.heap.get? a = some o ∧ o.cls = .type "tuple") ∧ ∃ o, s.heap.get? a = some o ∧ o.dict = none := by
  rcases h with h | ⟨o, its, n, hk, hc, hs, hz, r, hd⟩
  · obtain ⟨z, its, r, ⟨ob, e, c, _⟩, o2, e2, d2⟩ := h.ok I.hok
    exact ⟨⟨ob, e, c⟩, o2, e2, d2⟩
  · exact ⟨⟨o, I.kIn a o hk, hc⟩, o, I.kIn a o hk, hd⟩
theorem Inv.list_inj (I : Inv X pins σ H s) (h : SqL X.K H a xs) (h' : SqL X.K H a ys) : xs = ys := by
  obtain ⟨its, r, ⟨o, n, e, _, _, d⟩, _⟩ := I.list h
  obtain ⟨its', r', ⟨o', n', e', _, _, d'⟩, _⟩ := I.list h'
  rw [e] at e'; cases e'
  rw [d] at d'
  injection d' with d1 _
  have : its = its' := by simpa using congrArg Array.toList d1
  subst this
  exact r.inj r'
theorem Inv.tuple_inj (I : Inv X pins σ H s) (h : SqT X.K H a xs) (h' : SqT X.K H a ys) : xs = ys := by
  obtain ⟨its, r, ⟨o, e, _, n, d⟩, _⟩ := I.tuple h
  obtain ⟨its', r', ⟨o', e', _, n', d'⟩, _⟩ := I.tuple h'
  rw [e] at e'; cases e'
  rw [d] at d'
  injection d' with d1 _
  have : its = its' := by simpa using congrArg Array.toList d1
  subst this
  exact r.inj r'
end
abbrev Cx.wish (X : Cx) (E : Value → Shared → Prop) : Cx := { X with xe := E }
abbrev Cx.nox (X : Cx) : Cx := X.wish fun _ _ => False
theorem Cx.Ok.wish {X : Cx} (ok : X.Ok) (E : Value → Shared → Prop) : (X.wish E).Ok :=
  ⟨ok.mod, ok.kind, ok.glob, ok.blt, ok.above, ok.inj, ok.has, ok.cab, ok.hd, ok.frames, ok.stk, ok.exf, ok.bs, ok.bsz, ok.noex, ok.exfs, ok.funs, ok.frf⟩
theorem Cx.Ok.unwish {X : Cx} {E : Value → Shared → Prop} (ok : (X.wish E).Ok) : X.Ok :=
  ⟨ok.mod, ok.kind, ok.glob, ok.blt, ok.above, ok.inj, ok.has, ok.cab, ok.hd, ok.frames, ok.stk, ok.exf, ok.bs, ok.bsz, ok.noex, ok.exfs, ok.funs, ok.frf⟩
section
variable {X : Cx} {pins : List (Addr × Obj)} {σ : St} {H : Hp} {s : Shared} {E : Value → Shared → Prop}
theorem Inv.wish (I : Inv X pins σ H s) (E : Value → Shared → Prop) : Inv (X.wish E) pins σ H s := ⟨I.ok.wish E, I.os, I.bare, I.base, I.loc, I.cell, I.free, I.freeC, I.pin, I.hok, I.len⟩
theorem Inv.unwish (I : Inv (X.wish E) pins σ H s) : Inv X pins σ H s := ⟨I.ok.unwish, I.os, I.bare, I.base, I.loc, I.cell, I.free, I.freeC, I.pin, I.hok, I.len⟩
theorem SP.unwish {D : Ends} {f : Flow} {s' : Shared} (h : SP (X.wish E) pins D f s') : SP X pins D f s' := by
  cases f with
  | next => obtain ⟨σ', H', I, q⟩ := h; exact ⟨σ', H', I.unwish, q⟩
  | brk => obtain ⟨σ', H', I, q⟩ := h; exact ⟨σ', H', I.unwish, q⟩
  | cont => obtain ⟨σ', H', I, q⟩ := h; exact ⟨σ', H', I.unwish, q⟩
  | ret u => obtain ⟨v, σ', H', I, r, q⟩ := h; exact ⟨v, σ', H', I.unwish, r, q⟩
theorem PSs.nox {st : List Stmt} {t : TS} (h : PSs X.nox st t) : PSs X st t := fun pins s σ H D I hw =>
  wpAny_mono (h pins s σ H D (I.wish _) hw) (fun _ _ q => q.unwish) fun _ _ z => False.elim z
end
section
variable {X : Cx} {st : Stmt} {rest : List Stmt} {t u : TS} {e : Expr} {te : TE} {pos : Pos}
def tNext : TS := fun D σ H => D.nx σ H
def tSeq (t u : TS) : TS := fun D σ H => t { D with nx := u D } σ H
theorem pss_nil : PSs X [] tNext := fun _ _ σ H _ I h => wpAny_execs_nil ⟨σ, H, I, h⟩
theorem pss_cons (h1 : PS X st t) (h2 : PSs X rest u) : PSs X (st :: rest) (tSeq t u) := by
  intro pins s σ H D I h
  refine wpAny_execs_cons (thn (h1 pins s σ H { D with nx := u D } I h) fun f s1 q => ?_)
  cases f with
  | next =>
    obtain ⟨σ', H', I', q⟩ := q
    exact h2 pins s1 σ' H' D I' q
  | ret v => exact q
  | brk => exact q
  | cont => exact q
theorem pss_one (h1 : PS X st t) : PSs X [st] t := by
  intro pins s σ H D I h
  refine wpAny_execs_cons (thn (h1 pins s σ H D I h) fun f s1 q => ?_)
  cases f with
  | next => exact wpAny_execs_nil q
  | ret v => exact q
  | brk => exact q
  | cont => exact q
theorem Inv.quiet {pins : List (Addr × Obj)} {σ : St} {H : Hp} {s : Shared} (I : Inv X pins σ H s) : interactive X.env = false := by simp [interactive, I.ok.kind]
def tDrop (te : TE) : TS := fun D σ H => te σ H fun _ H1 => D.nx σ H1
theorem ps_expr (he : PE X e te) (hs : swapsWith e none pos.line X.env = pure false := by rfl) : PS X (.Expr e pos) (tDrop te) := by
  intro pins s σ H D I h
  exact wpAny_Expr_any (thn (he pins s σ H _ I h) fun v s1 ⟨x, H1, I1, r1, q1⟩ => ⟨σ, H1, I1, q1⟩) I.quiet hs
def tRet (te : TE) : TS := fun D σ H => te σ H D.rt
theorem ps_ret (he : PE X e te) : PS X (.Return (some e) pos) (tRet te) := by
  intro pins s σ H D I h
  exact wpAny_Return_some (thn (he pins s σ H _ I h) fun v s1 ⟨x, H1, I1, r1, q1⟩ => ⟨x, σ, H1, I1, r1, q1⟩)
def tIfS (c : TT) (t u : TS) : TS := fun D σ H => c σ H fun b H1 => if b = true then t D σ H1 else u D σ H1
theorem ps_if {c : Expr} {a b : List Stmt} {tc : TT} (hc : PT X c tc) (ha : PSs X a t) (hb : PSs X b u) : PS X (.If c a b pos) (tIfS tc t u) := by
  intro pins s σ H D I h
  refine wpAny_If (thn (hc pins s σ H _ I h) fun d s1 hq_ => ?_)
  obtain ⟨H1, I1, q1⟩ := hq_
  cases d with
  | true => exact ha pins s1 σ H1 D I1 q1
  | false => exact hb pins s1 σ H1 D I1 q1
end
abbrev TG := V → St → Hp → (St → Hp → Prop) → Prop
def PG (X : Cx) (target : Expr) (t : TG) : Prop :=
  ∀ (pins : List (Addr × Obj)) (s : Shared) (σ : St) (H : Hp) (v : V) (u : Value) (Q : St → Hp → Prop), Inv X pins σ H s → RelV v u → t v σ H Q →
    wpAny (model X.prog X.w) X.A (assign target X.env u) (fun _ s' => ∃ σ' H', Inv X pins σ' H' s' ∧ Q σ' H') X.xe s
abbrev TSet := V → V → V → Hp → (Hp → Prop) → Prop
def PSet (X : Cx) (t : TSet) : Prop :=
  ∀ (pins : List (Addr × Obj)) (s : Shared) (σ : St) (H : Hp) (o i v : V) (ov iv u : Value) (Q : Hp → Prop), Inv X pins σ H s → RelV o ov → RelV i iv → RelV v u → t o i v H Q →
    wpAny (model X.prog X.w) X.A (setItem ov iv u) (fun _ s' => ∃ H', Inv X pins σ H' s' ∧ Q H') X.xe s
section
variable {X : Cx} {pos : Pos}
def gName (i : Nat) : TG := fun v σ H Q => Q (σ.set i (some v)) H
theorem pg_name {i : Nat} {x : Str} (hN : X.N.Nodup) (hi : X.N[i]? = some x) (hx : Loc X.env.scope x) (hf : X.fn x = true ∨ X.env.scope.names.lookup x = some .local := by first | exact .inl rfl | exact .inr rfl | assumption) : PG X (.Name x pos) (gName i) := by
  intro pins s σ H v u Q I r h
  exact wpAny_assign_Name (store_ok I hN hi hx r (fun s' I' => ⟨_, H, I', h⟩) hf)
def gSub (to ti : TE) (t : TSet) : TG := fun v σ H Q => to σ H fun o H1 => ti σ H1 fun i H2 => t o i v H2 fun H3 => Q σ H3
theorem pg_sub {o i : Expr} {to ti : TE} {t : TSet} (ho : PE X o to) (hi : PE X i ti) (hs : PSet X t)
    (ha : ∀ v, assign (.Subscript o i pos) X.env v = (do
      let ov ← holding [v] (eval o X.env)
      let iv ← holding [v, ov] (eval i X.env)
      standAt pos
      holding [v, ov, iv] (setItem ov iv v)
      release [v, ov, iv] []) := by intro _; rfl) : PG X (.Subscript o i pos) (gSub to ti t) := by
  intro pins s σ H v u Q I r h
  rw [ha]
  refine wpAny_bind (wpAny_holding (thn (ho pins s σ H _ I h) fun ov s1 hq_ => ?_))
  obtain ⟨x, H1, I1, r1, q1⟩ := hq_
  refine wpAny_bind (wpAny_holding (thn (hi pins s1 σ H1 _ I1 q1) fun iv s2 hq_ => ?_))
  obtain ⟨y, H2, I2, r2, q2⟩ := hq_
  refine wpAny_bind (wpAny_standAt (wpAny_bind (wpAny_holding (thn (hs pins s2 σ H2 x y v ov iv u _ I2 r1 r2 r q2) fun _ s3 hq_ => ?_))))
  obtain ⟨H3, I3, q3⟩ := hq_
  exact wpAny_release ⟨σ, H3, I3, q3⟩
def tAsg (te : TE) (g : TG) : TS := fun D σ H => te σ H fun x H1 => g x σ H1 D.nx
theorem ps_asg {tg e : Expr} {te : TE} {g : TG} (he : PE X e te) (hg : PG X tg g) (hs : swapsWithSole [tg] e pos.line X.env = pure false := by rfl) (hw : swappedStores [tg] e X.env = pure none := by rfl)
    (h1 : (assignEach [tg] X.env).map (·.2) = [assign tg X.env] := by rfl) : PS X (.Assign [tg] e pos) (tAsg te g) := by
  intro pins s σ H D I h
  refine wpAny_Assign_stores (thn (he pins s σ H _ I h) fun v s1 ⟨x, H1, I1, r1, q1⟩ => ?_) hs hw
  rw [h1]
  exact thn (hg pins s1 σ H1 x v _ I1 r1 q1) fun _ s2 q => q
theorem ps_set {i : Nat} {x : Str} {e : Expr} {te : TE} {pos' : Pos} (hN : X.N.Nodup) (hi : X.N[i]? = some x) (hx : Loc X.env.scope x) (he : PE X e te) (hs : swapsWith e (some (.Name x pos')) pos.line X.env = pure false := by rfl) (hf : X.fn x = true ∨ X.env.scope.names.lookup x = some .local := by first | exact .inl rfl | exact .inr rfl | assumption) :
    PS X (.Assign [.Name x pos'] e pos) (tAsg te (gName i)) := by
  intro pins s σ H D I h
  refine wpAny_Assign_Name (thn (he pins s σ H _ I h) fun v s1 ⟨y, H1, I1, r1, q1⟩ => ?_) hs
  exact store_ok I1 hN hi hx r1 (fun s2 I2 => ⟨_, H1, I2, q1⟩) hf
end
section
variable {X : Cx} {pos : Pos}
def tWhile (c : TT) (tb : TS) : TS := fun D σ H => ∃ W : Nat → St → Hp → Prop, (∃ m, W m σ H) ∧ ∀ m σ H, W m σ H →
  c σ H fun b H1 => if b = true then ∃ N : St → Hp → Prop, (∀ σ' H', N σ' H' → ∃ m', m' < m ∧ W m' σ' H') ∧ tb { D with nx := N, ct := N, bk := D.nx } σ H1 else D.nx σ H1
theorem ps_while {c : Expr} {body : List Stmt} {tc : TT} {tb : TS} (hp : PassesOwn (model X.prog X.w) X.A X.env X.xe) (hc : PT X c tc) (hb : PSs X body tb) : PS X (.While c body [] pos) (tWhile tc tb) := by
  intro pins s σ H D I h
  obtain ⟨W, ⟨m0, w0⟩, turn⟩ := h
  refine wpAny_While (codeAny_whileLoop (fun n s' => ∃ σ' H', Inv X pins σ' H' s' ∧ W n σ' H') ?_ m0 ⟨σ, H, I, w0⟩)
  rintro n s1 ⟨σ1, H1, I1, w1⟩
  refine wpAny_passesOwn hp (thn (hc pins s1 σ1 H1 _ I1 (turn n σ1 H1 w1)) fun b s2 hq_ => ?_)
  obtain ⟨H2, I2, q2⟩ := hq_
  cases b with
  | true =>
    obtain ⟨N, hN, q2⟩ := q2
    rw [if_pos rfl]
    refine wpAny_passesOwn hp (thn (hb pins s2 σ1 H2 _ I2 q2) fun f s3 q3 => ?_)
    cases f with
    | next =>
      obtain ⟨σ3, H3, I3, n3⟩ := q3
      obtain ⟨m', hm, w3⟩ := hN σ3 H3 n3
      exact ⟨m', hm, σ3, H3, I3, w3⟩
    | cont =>
      obtain ⟨σ3, H3, I3, n3⟩ := q3
      obtain ⟨m', hm, w3⟩ := hN σ3 H3 n3
      exact ⟨m', hm, σ3, H3, I3, w3⟩
    | brk => exact q3
    | ret v => exact q3
  | false =>
    rw [if_neg Bool.false_ne_true]
    exact wpAny_execs_nil ⟨σ1, H2, I2, q2⟩
end
structure It where
  go : Nat → Hp → Prop
  yld : Nat → Hp → V → Hp → Prop
  stop : Nat → Hp → Prop
def FpOk (X : Cx) (pins : List (Addr × Obj)) (H : Hp) (b : Addr) : Prop :=
  H b = none ∧ b ≠ X.env.locals ∧ b ∉ X.fs ∧ (b ∈ X.ex ∨ X.s₀.heap.objs.size ≤ b) ∧ (∀ x c, X.env.cells.lookup x = some c → c ≠ b) ∧ ∀ p ∈ X.pn ++ pins, p.1 ≠ b
theorem Inv.fpOk {X : Cx} {pins : List (Addr × Obj)} {σ : St} {H H' : Hp} {s : Shared} {b : Addr} (I : Inv X pins σ H s) (hb : s.heap.objs.size ≤ b) (hn : H' b = none) : FpOk X pins H' b := by
  refine ⟨hn, Nat.ne_of_gt (Nat.lt_of_lt_of_le I.lt hb), I.nofs hb, .inr (Nat.le_trans I.sz hb), fun x c e z => ?_, fun p hp z => ?_⟩
  · obtain ⟨v, q⟩ := I.cell x c e
    exact absurd (Nat.lt_of_lt_of_le q.lt (by rw [z]; exact hb)) (Nat.lt_irrefl _)
  · exact absurd (Nat.lt_of_lt_of_le (Heap.lt_size (I.pin p hp).1) (by rw [z]; exact hb)) (Nat.lt_irrefl _)
structure Turn (P : Program) (w : World) (K : PySem.W.Frag) (tg : Expr) (J : It) (fp : List Addr) (it : Addr) (tn : Nat → Heap → Prop) : Prop where
  mem : it ∈ fp
  obj : ∀ i h, tn i h → ∀ b ∈ fp, ∃ o, h.get? b = some o ∧ ∀ v, o.data ≠ .cell v
  keep : ∀ i h h', tn i h → (∀ b ∈ fp, ∀ o, h.get? b = some o → h'.get? b = some o) → tn i h'
  item : ∀ (X : Cx), X.prog = P → X.w = w → X.K = K → X.calm = true → ∀ (i : Nat) (pins : List (Addr × Obj)) (s : Shared) (σ : St) (H : Hp) (E : Value → Shared → Prop), Inv X pins σ H s → (∀ b ∈ fp, FpOk X pins H b) → tn i s.heap → J.go i H →
    wpAny (model P w) X.A (pyNext (.ref it)) (fun r s1 => ∃ u, r = some u ∧
      wpAny (model P w) X.A (letOwnedTupleGo tg (.ref it) u) (fun _ s2 => ∃ x H', Inv X pins σ H' s2 ∧ RelV x u ∧ J.yld i H x H' ∧ tn (i + 1) s2.heap ∧ ∀ b ∈ fp, H' b = none) E s1) E s
  done : ∀ (X : Cx), X.prog = P → X.w = w → X.K = K → X.calm = true → ∀ (i : Nat) (pins : List (Addr × Obj)) (s : Shared) (σ : St) (H : Hp) (E : Value → Shared → Prop), Inv X pins σ H s → (∀ b ∈ fp, FpOk X pins H b) → tn i s.heap → J.stop i H →
    wpAny (model P w) X.A (pyNext (.ref it)) (fun r s1 => r = none ∧ Inv X pins σ H s1) E s
  self : ∀ (A : Around) (i : Nat) (s : Shared) (Q : Value → Shared → Prop) (E : Value → Shared → Prop), tn i s.heap → Q (.ref it) s → wpAny (model P w) A (pyIter (.ref it)) Q E s
abbrev TI := St → Hp → (It → Hp → Prop) → Prop
def PIE (X : Cx) (pins : List (Addr × Obj)) (σ : St) (tg : Expr) (R : It → Hp → Prop) (itv : Value) (s2 : Shared) : Prop :=
  ∃ (it : Addr) (fp : List Addr) (tn : Nat → Heap → Prop) (J : It) (H' : Hp), itv = .ref it ∧ Inv X pins σ H' s2 ∧ Turn X.prog X.w X.K tg J fp it tn ∧ tn 0 s2.heap ∧ (∀ b ∈ fp, FpOk X pins H' b) ∧ R J H'
def PI (X : Cx) (tg iter : Expr) (wi : TI) : Prop :=
  ∀ (pins : List (Addr × Obj)) (s : Shared) (σ : St) (H : Hp) (R : It → Hp → Prop), Inv X pins σ H s → wi σ H R →
    wpAny (model X.prog X.w) X.A (eval iter X.env) (fun v s1 => wpAny (model X.prog X.w) X.A (pyIter v) (PIE X pins σ tg R) X.xe s1) X.xe s
theorem go_of {M : Model} {A : Around} {E : Value → Shared → Prop} {s : Shared} {tg : Expr} {it : Addr} {u : Value} {o : Obj} {n : String} {vs : Array Value} {Q : Unit → Shared → Prop} (ho : s.heap.get? it = some o) (hc : o.cls = .type n) (hd : o.data = .fields vs)
    (hn : ["enumerate", "zip", "dict_itemiterator", "dict_reverseitemiterator", "odict_iterator", "itertools.zip_longest", "itertools.pairwise"].contains n = false) (hQ : Q () s) : wpAny M A (letOwnedTupleGo tg (.ref it) u) Q E s := by
  unfold letOwnedTupleGo
  cases tg <;> first
    | exact wpAny_pure hQ
    | (cases u <;> first
        | exact wpAny_pure hQ
        | (refine wpAny_bind (wpAny_load ho ?_)
           rw [hc, hd]
           show wpAny M A (if (["enumerate", "zip", "dict_itemiterator", "dict_reverseitemiterator", "odict_iterator", "itertools.zip_longest", "itertools.pairwise"].contains n && vs[0]? == some (rawInt _)) = true then _ else _) Q E s
           rw [if_neg (by intro h; rw [hn, Bool.false_and] at h; cases h)]
           exact wpAny_pure hQ))
def Itl (K : PySem.W.Frag) (a : Addr) : It :=
  ⟨fun i H => ∃ xs x, SqL K H a xs ∧ xs[i]? = some x, fun i H x H' => H' = H ∧ ∀ xs, SqL K H a xs → xs[i]? = some x, fun i H => ∃ xs, SqL K H a xs ∧ xs.length ≤ i⟩
def Itt (K : PySem.W.Frag) (a : Addr) : It :=
  ⟨fun i H => ∃ xs x, SqT K H a xs ∧ xs[i]? = some x, fun i H x H' => H' = H ∧ ∀ xs, SqT K H a xs → xs[i]? = some x, fun i H => ∃ xs, SqT K H a xs ∧ xs.length ≤ i⟩
def Itr (lo : Int) (n : Nat) : It := ⟨fun i _ => i < n, fun i H x H' => H' = H ∧ x = .int (lo + i), fun i _ => n ≤ i⟩
theorem turn_list {P : Program} {w : World} {K : PySem.W.Frag} {tg : Expr} (a it : Addr) : Turn P w K tg (Itl K a) [it] it (fun i h => h.IsListIter it a i) where
  mem := by simp
  obj := fun i h st b hb => by
    have e : b = it := by simpa using hb
    subst e
    obtain ⟨o, e, c, d⟩ := st
    exact ⟨o, e, fun v z => by rw [d] at z; cases z⟩
  keep := fun i h h' st k => st.at fun o e => k it (by simp) o e
  item := by
    intro X hP hw hK hc i pins s σ H E I hf st hg
    subst hP hw hK
    obtain ⟨xs, x, hq, hx⟩ := hg
    obtain ⟨its, rv, p, hz⟩ := I.list hq
    obtain ⟨u, hu, ru⟩ := rv.get hx
    obtain ⟨f0, f1, f2, f3, f4, f5⟩ := hf it (by simp)
    refine wpAny_pyNext_list_item st p.isList (x := u) (by simpa using hu) fun h' st' sb => ?_
    have I1 : Inv X pins σ H { s with heap := h' } := I.turned (t' := s.toks) (fun b o hb e => (sb.2 b hb).trans e) f0 f1 f3 f4 f5
    obtain ⟨o, e, c, d⟩ := id st'
    exact ⟨u, rfl, go_of (s := { s with heap := h' }) e c d (by decide) ⟨x, H, I1, ru, ⟨rfl, fun ys hy => by rw [I.list_inj hy hq]; exact hx⟩, st', fun b hb => (hf b hb).1⟩⟩
  done := by
    intro X hP hw hK hc i pins s σ H E I hf st hg
    subst hP hw hK
    obtain ⟨xs, hq, hx⟩ := hg
    obtain ⟨its, rv, p, hz⟩ := I.list hq
    obtain ⟨f0, f1, f2, f3, f4, f5⟩ := hf it (by simp)
    have hl := rv.length
    exact wpAny_pyNext_list_end (I.ok.hd hc) st p.isList (by simp; omega) fun h' eb => ⟨rfl, I.turned (t' := s.toks) (fun b o hb e => eb b o hb e) f0 f1 f3 f4 f5⟩
  self := fun _ _ _ _ _ st h => wpAny_pyIter_listiter st h
theorem turn_tuple {P : Program} {w : World} {K : PySem.W.Frag} {tg : Expr} (a it : Addr) : Turn P w K tg (Itt K a) [it] it (fun i h => h.IsTupleIter it a i) where
  mem := by simp
  obj := fun i h st b hb => by
    have e : b = it := by simpa using hb
    subst e
    obtain ⟨o, e, c, d⟩ := st
    exact ⟨o, e, fun v z => by rw [d] at z; cases z⟩
  keep := fun i h h' st k => st.at fun o e => k it (by simp) o e
  item := by
    intro X hP hw hK hc i pins s σ H E I hf st hg
    subst hP hw hK
    obtain ⟨xs, x, hq, hx⟩ := hg
    obtain ⟨its, rv, p, hz⟩ := I.tuple hq
    obtain ⟨u, hu, ru⟩ := rv.get hx
    obtain ⟨f0, f1, f2, f3, f4, f5⟩ := hf it (by simp)
    refine wpAny_pyNext_tuple_item st (show s.heap.IsTuple a its.toArray from p) (x := u) (by simpa using hu) fun h' st' sb => ?_
    have I1 : Inv X pins σ H { s with heap := h' } := I.turned (t' := s.toks) (fun b o hb e => (sb.2 b hb).trans e) f0 f1 f3 f4 f5
    obtain ⟨o, e, c, d⟩ := id st'
    exact ⟨u, rfl, go_of (s := { s with heap := h' }) e c d (by decide) ⟨x, H, I1, ru, ⟨rfl, fun ys hy => by rw [I.tuple_inj hy hq]; exact hx⟩, st', fun b hb => (hf b hb).1⟩⟩
  done := by
    intro X hP hw hK hc i pins s σ H E I hf st hg
    subst hP hw hK
    obtain ⟨xs, hq, hx⟩ := hg
    obtain ⟨its, rv, p, hz⟩ := I.tuple hq
    obtain ⟨f0, f1, f2, f3, f4, f5⟩ := hf it (by simp)
    have hl := rv.length
    exact wpAny_pyNext_tuple_end (I.ok.hd hc) st (show s.heap.IsTuple a its.toArray from p) (by simp; omega) fun h' eb => ⟨rfl, I.turned (t' := s.toks) (fun b o hb e => eb b o hb e) f0 f1 f3 f4 f5⟩
  self := fun _ _ _ _ _ st h => wpAny_pyIter_tupleiter st h
theorem turn_range {P : Program} {w : World} {K : PySem.W.Frag} {tg : Expr} (it : Addr) (lo : Int) (n : Nat) : Turn P w K tg (Itr lo n) [it] it (fun i h => IsRangeIter h it (lo + (i : Nat) * 1) ((n : Int) - (i : Nat)) 1) where
  mem := by simp
  obj := fun i h st b hb => by
    have e : b = it := by simpa using hb
    subst e
    exact ⟨_, st, fun v z => by
      have z' : Data.fields _ = Data.cell v := z
      cases z'⟩
  keep := fun i h h' st k => k it (by simp) _ st
  item := by
    intro X hP hw hK hc i pins s σ H E I hf st hg
    subst hP hw hK
    obtain ⟨f0, f1, f2, f3, f4, f5⟩ := hf it (by simp)
    have W := Walks.range (prog := X.prog) (w := X.w) (I.ok.hd hc) it lo 1 n
    refine W.item i s _ _ hg st fun v h' tk hv st' kk => ?_
    obtain ⟨t, rfl⟩ := hv
    have I1 : Inv X pins σ H { s with heap := h', toks := tk } := I.turned (fun b o hb e => kk b o (by simpa using hb) e) f0 f1 f3 f4 f5
    refine ⟨_, rfl, go_of (s := { s with heap := h', toks := tk }) (n := "range_iterator") st' rfl rfl (by decide) ⟨.int (lo + i), H, I1, ⟨t, ?_⟩, ⟨rfl, rfl⟩, st', fun b hb => (hf b hb).1⟩⟩
    rw [Int.mul_one]
  done := by
    intro X hP hw hK hc i pins s σ H E I hf st hg
    subst hP hw hK
    obtain ⟨f0, f1, f2, f3, f4, f5⟩ := hf it (by simp)
    exact wpAny_pyNext_range_end (I.ok.hd hc) st (by have : n ≤ i := hg; omega) fun h' eb => ⟨rfl, I.turned (t' := s.toks) (fun b o hb e => eb b o hb e) f0 f1 f3 f4 f5⟩
  self := fun _ _ _ _ _ st h => wpAny_pyIter_rangeiter st h
end L2
namespace L2
open PySem PySem.Spec PyProof.Rows
section
variable {X : Cx} {tg : Expr}
def iList (K : PySem.W.Frag) (tl : TE) : TI := fun σ H R => tl σ H fun x H1 => ∃ a, x = .ref a ∧ (∃ xs, SqL K H1 a xs) ∧ R (Itl K a) H1
def iTup (K : PySem.W.Frag) (tl : TE) : TI := fun σ H R => tl σ H fun x H1 => ∃ a, x = .ref a ∧ (∃ xs, SqT K H1 a xs) ∧ R (Itt K a) H1
theorem pi_list {l : Expr} {tl : TE} (hl : PE X l tl) : PI X tg l (iList X.K tl) := by
  intro pins s σ H R I h
  refine thn (hl pins s σ H _ I h) fun v s1 hq_ => ?_
  obtain ⟨x, H1, I1, r1, q1⟩ := hq_
  obtain ⟨a, e, ⟨xs, hq⟩, q⟩ := q1
  subst e
  cases r1
  obtain ⟨its, rv, p, hz⟩ := I1.list hq
  refine wpAny_pyIter_list p.isList ?_
  refine ⟨s1.heap.objs.size, [s1.heap.objs.size], _, _, H1, rfl, I1.kept (t' := s1.toks) fun b o e => Heap.get?_push_of_some _ e, turn_list a _, ⟨_, Heap.get?_push_size _ rfl, rfl, rfl⟩, fun b hb => ?_, q⟩
  have e : b = s1.heap.objs.size := by simpa using hb
  subst e
  exact I1.fpOk (Nat.le_refl _) (I1.hok.fresh (Nat.le_refl _))
theorem pi_tup {l : Expr} {tl : TE} (hl : PE X l tl) : PI X tg l (iTup X.K tl) := by
  intro pins s σ H R I h
  refine thn (hl pins s σ H _ I h) fun v s1 hq_ => ?_
  obtain ⟨x, H1, I1, r1, q1⟩ := hq_
  obtain ⟨a, e, ⟨xs, hq⟩, q⟩ := q1
  subst e
  cases r1
  obtain ⟨its, rv, p, hz⟩ := I1.tuple hq
  refine wpAny_pyIter_tuple (show s1.heap.IsTuple a its.toArray from p) ?_
  refine ⟨s1.heap.objs.size, [s1.heap.objs.size], _, _, H1, rfl, I1.kept (t' := s1.toks) fun b o e => Heap.get?_push_of_some _ e, turn_tuple a _, ⟨_, Heap.get?_push_size _ rfl, rfl, rfl⟩, fun b hb => ?_, q⟩
  have e : b = s1.heap.objs.size := by simpa using hb
  subst e
  exact I1.fpOk (Nat.le_refl _) (I1.hok.fresh (Nat.le_refl _))
theorem range_it {pins : List (Addr × Obj)} {σ : St} {H : Hp} {s : Shared} {R : It → Hp → Prop} {E : Value → Shared → Prop} {lo hi : Int} {t u v : Tok} {tk : Nat} (I : Inv X pins σ H s) (h1 : -(2 ^ 62) ≤ lo) (h2 : lo < 2 ^ 62) (h3 : -(2 ^ 62) ≤ hi) (h4 : hi < 2 ^ 62)
    (q : R (Itr lo (hi - lo).toNat) H) : wpAny (model X.prog X.w) X.A (pyIter (.ref s.heap.objs.size)) (PIE X pins σ tg R) E { s with heap := s.heap.push { cls := .type "range", data := .fields #[.int lo t, .int hi u, .int 1 v] }, toks := tk } := by
  refine wpAny_pyIter_range (IsRange.new ..) (small_one h1 h2 h3 h4) ?_
  have I1 : Inv X pins σ H { s with heap := s.heap.push { cls := .type "range", data := .fields #[.int lo t, .int hi u, .int 1 v] }, toks := tk } := I.kept fun b o e => Heap.get?_push_of_some _ e
  refine ⟨(s.heap.push { cls := .type "range", data := .fields #[.int lo t, .int hi u, .int 1 v] }).objs.size, [(s.heap.push { cls := .type "range", data := .fields #[.int lo t, .int hi u, .int 1 v] }).objs.size], _, _, H, rfl,
    I1.kept (t' := tk) fun b o e => Heap.get?_push_of_some _ e, turn_range _ lo (hi - lo).toNat, ?_, fun b hb => ?_, q⟩
  · have e1 : lo + ((0 : Nat) : Int) * 1 = lo := by simp
    have e2 : (((hi - lo).toNat : Nat) : Int) - ((0 : Nat) : Int) = Builtin.Range.rangeSize lo hi 1 := by rw [rangeSize_one]; split <;> omega
    show IsRangeIter _ _ (lo + ((0 : Nat) : Int) * 1) ((((hi - lo).toNat : Nat) : Int) - ((0 : Nat) : Int)) 1
    rw [e1, e2]
    exact Heap.get?_push_size _ rfl
  · have e : b = (s.heap.push { cls := .type "range", data := .fields #[.int lo t, .int hi u, .int 1 v] }).objs.size := by simpa using hb
    subst e
    exact I1.fpOk (Nat.le_refl _) (I1.hok.fresh (Nat.le_refl _))
def iRng1 (ta : TA) : TI := fun σ H R => ta σ H fun vs H1 => ∃ j : Int, vs = [.int j] ∧ -(2 ^ 62) ≤ j ∧ j < 2 ^ 62 ∧ R (Itr 0 j.toNat) H1
theorem pi_range1 {a : Expr} {ta : TA} {p pos : Pos} (hg : Gl X "range") (hm : X.mg "range" = none) (ha : PA X [a] ta) (hs : starEach [a] X.env = [(false, eval a X.env)] := by rfl) : PI X tg (.Call (.Name "range" p) [a] [] pos) (iRng1 ta) := by
  intro pins s σ H R I h
  refine Call_ (ld_blt I hg hm boot_range (PyProof.Rows.callWith_type1 (thn (ha pos pins s σ H _ I h) fun us s1 ⟨vs, H1, I1, r1, q1⟩ => ?_) hs rfl))
  obtain ⟨j, e, q1, q2, q⟩ := q1
  subst e
  cases r1 with
  | cons r rr =>
    cases rr
    obtain ⟨t, rfl⟩ := r
    exact call_range_1 (range_it I1 (by omega) (by omega) q1 q2 (by simpa using q))
def tFor (wi : TI) (g : TG) (tb : TS) : TS := fun D σ H => wi σ H fun J H1 => ∃ W : Nat → Nat → St → Hp → Prop, (∃ m, W 0 m σ H1) ∧ ∀ i m σ H, W i m σ H →
  (J.stop i H ∧ D.nx σ H) ∨ (J.go i H ∧ ∃ N : St → Hp → Prop, (∀ σ' H', N σ' H' → ∃ m', m' < m ∧ W (i + 1) m' σ' H') ∧ ∀ x H', J.yld i H x H' → g x σ H' fun σ2 H2 => tb { D with nx := N, ct := N, bk := D.nx } σ2 H2)
def pinsAt (fp : List Addr) (h : Heap) : List (Addr × Obj) := fp.filterMap fun b => (h.get? b).map fun o => (b, o)
theorem mem_pinsAt {fp : List Addr} {h : Heap} {b : Addr} {o : Obj} (hb : b ∈ fp) (e : h.get? b = some o) : (b, o) ∈ pinsAt fp h := List.mem_filterMap.mpr ⟨b, hb, by rw [e]; rfl⟩
theorem of_pinsAt {fp : List Addr} {h : Heap} {p : Addr × Obj} (hp : p ∈ pinsAt fp h) : p.1 ∈ fp ∧ h.get? p.1 = some p.2 := by
  obtain ⟨b, hb, e⟩ := List.mem_filterMap.mp hp
  cases q : h.get? b with
  | none => rw [q] at e; cases e
  | some o =>
    rw [q] at e
    have e' : (b, o) = p := Option.some.inj e
    subst e'
    exact ⟨hb, q⟩
theorem Inv.pinned {pins : List (Addr × Obj)} {σ : St} {H : Hp} {s : Shared} {fp : List Addr} (I : Inv X pins σ H s) (hf : ∀ b ∈ fp, FpOk X pins H b) (ho : ∀ b ∈ fp, ∃ o, s.heap.get? b = some o ∧ ∀ v, o.data ≠ .cell v) : Inv X (pins ++ pinsAt fp s.heap) σ H s :=
  I.pins_of fun p hp => (List.mem_append.mp hp).elim (fun z => I.pin p (List.mem_append_right _ z)) fun z => by
    obtain ⟨hb, e⟩ := of_pinsAt z
    obtain ⟨f0, f1, f2, _⟩ := hf p.1 hb
    obtain ⟨o, e', d⟩ := ho p.1 hb
    rw [e] at e'; cases e'
    exact ⟨e, f0, f1, f2, d⟩
theorem Inv.unpinned {pins pl : List (Addr × Obj)} {σ : St} {H : Hp} {s : Shared} (I : Inv X (pins ++ pl) σ H s) : Inv X pins σ H s := I.pins_of fun p hp => I.pin p (List.mem_append_right _ (List.mem_append_left _ hp))
theorem ps_for {iter : Expr} {body : List Stmt} {wi : TI} {g : TG} {tb : TS} {pos : Pos} (hp : PassesOwn (model X.prog X.w) X.A X.env X.xe) (hc : X.calm = true) (hi : PI X tg iter wi) (hg : PG X tg g) (hb : PSs X body tb)
    (hs : ∀ x, foldedSetIterable iter X.env x = pure x := by intro _; rfl) : PS X (.For tg iter body [] pos) (tFor wi g tb) := by
  intro pins s σ H D I h
  refine wpAny_For (thn (hi pins s σ H _ I h) fun v s1 h1 => thn h1 fun itv s2 h2 => ?_) hs
  obtain ⟨it, fp, tn, J, H2, e, I2, T, st2, f2, W, ⟨m0, w0⟩, turn⟩ := h2
  subst e
  have stat : ∀ {H' : Hp}, (∀ b ∈ fp, H' b = none) → ∀ b ∈ fp, FpOk X pins H' b := fun hn b hb => ⟨hn b hb, (f2 b hb).2⟩
  refine codeAny_forLoop_any (fun n s' => ∃ i σ' H', Inv X pins σ' H' s' ∧ tn i s'.heap ∧ (∀ b ∈ fp, H' b = none) ∧ W i n σ' H') ?_ m0 ⟨0, σ, H2, I2, st2, fun b hb => (f2 b hb).1, w0⟩
  rintro n s3 ⟨i, σ3, H3, I3, st3, fr3, w3⟩
  rcases turn i n σ3 H3 w3 with ⟨stop, qn⟩ | ⟨go, N, hN, step⟩
  · refine wpAny_passesOwn hp (thn (T.done X rfl rfl rfl hc i pins s3 σ3 H3 X.xe I3 (stat fr3) st3 stop) fun r s4 hq_ => ?_)
    obtain ⟨hr, I4⟩ := hq_
    subst hr
    exact wpAny_execs_nil ⟨σ3, H3, I4, qn⟩
  · refine wpAny_passesOwn hp (thn (T.item X rfl rfl rfl hc i pins s3 σ3 H3 X.xe I3 (stat fr3) st3 go) fun r s4 hq_ => ?_)
    obtain ⟨u, hr, h4⟩ := hq_
    subst hr
    refine wpAny_passesOwn hp (thn h4 fun _ s5 hq_ => ?_)
    obtain ⟨x, H5, I5, r5, y5, st5, fr5⟩ := hq_
    have I5' := I5.pinned (stat fr5) (T.obj _ _ st5)
    refine wpAny_passesOwn hp (thn (hg _ s5 σ3 H5 x u _ I5' r5 (step x H5 y5)) fun _ s6 hq_ => ?_)
    obtain ⟨σ6, H6, I6, q6⟩ := hq_
    refine wpAny_passesOwn hp (thn (hb _ s6 σ6 H6 _ I6 q6) fun f s7 q7 => ?_)
    have again : ∀ {σ7 : St} {H7 : Hp}, Inv X (pins ++ pinsAt fp s5.heap) σ7 H7 s7 → N σ7 H7 → ∃ m, m < n ∧ ∃ i σ' H', Inv X pins σ' H' s7 ∧ tn i s7.heap ∧ (∀ b ∈ fp, H' b = none) ∧ W i m σ' H' := fun {σ7 H7} I7 n7 => by
      obtain ⟨m', hm, w7⟩ := hN σ7 H7 n7
      refine ⟨m', hm, i + 1, σ7, H7, I7.unpinned, T.keep _ _ _ st5 fun b hb o e => (I7.pin (b, o) (List.mem_append_right _ (List.mem_append_right _ (mem_pinsAt hb e)))).1, fun b hb => ?_, w7⟩
      obtain ⟨o, e, d⟩ := T.obj _ _ st5 b hb
      exact (I7.pin (b, o) (List.mem_append_right _ (List.mem_append_right _ (mem_pinsAt hb e)))).2.1
    cases f with
    | next => obtain ⟨σ7, H7, I7, n7⟩ := q7; exact again I7 n7
    | cont => obtain ⟨σ7, H7, I7, n7⟩ := q7; exact again I7 n7
    | brk => obtain ⟨σ7, H7, I7, q7⟩ := q7; exact ⟨σ7, H7, I7.unpinned, q7⟩
    | ret v => obtain ⟨x7, σ7, H7, I7, r7, q7⟩ := q7; exact ⟨x7, σ7, H7, I7.unpinned, r7, q7⟩
end
end L2
namespace L2
open PySem PySem.Spec PyProof.Rows
abbrev R2 := V → V → Hp → VK → Prop
def OpR (X : Cx) (f : Value → Value → Sem Value) (r : R2) : Prop :=
  ∀ (pins : List (Addr × Obj)) (s : Shared) (σ : St) (H : Hp) (x y : V) (v u : Value) (Q : VK), Inv X pins σ H s → RelV x v → RelV y u → r x y H Q →
    wpAny (model X.prog X.w) X.A (f v u) (EP X pins σ Q) X.xe s
def CallR (X : Cx) (f : Value) (r : List V → Hp → VK → Prop) : Prop :=
  ∀ (pins : List (Addr × Obj)) (s : Shared) (σ : St) (H : Hp) (xs : List V) (us : List Value) (Q : VK), Inv X pins σ H s → Vals xs us → r xs H Q →
    wpAny (model X.prog X.w) X.A (call f us) (EP X pins σ Q) X.xe s
def TruR (X : Cx) (r : V → Hp → (Bool → Hp → Prop) → Prop) : Prop :=
  ∀ (pins : List (Addr × Obj)) (s : Shared) (σ : St) (H : Hp) (x : V) (v : Value) (Q : Bool → Hp → Prop), Inv X pins σ H s → RelV x v → r x H Q →
    wpAny (model X.prog X.w) X.A (truthy v) (TP X pins σ Q) X.xe s
def tOp (r : R2) (ta tb : TE) : TE := fun σ H Q => ta σ H fun x H1 => tb σ H1 fun y H2 => r x y H2 Q
def rI (C : Int → Int → Prop) (g : Int → Int → V) : R2 := fun x y H Q => ∃ i j, x = .int i ∧ y = .int j ∧ C i j ∧ Q (g i j) H
def rI0 (g : Int → Int → V) : R2 := fun x y H Q => ∃ i j, x = .int i ∧ y = .int j ∧ Q (g i j) H
section
variable {X : Cx} {a b c : Expr} {ta tb tc : TE} {pos : Pos}
theorem binT (ha : PE X a ta) (hb : PE X b tb) {pins : List (Addr × Obj)} {s : Shared} {σ : St} {H : Hp} {R : V → V → Hp → Prop} (I : Inv X pins σ H s)
    (h : ta σ H fun x H1 => tb σ H1 fun y H2 => R x y H2) {Q : Value → Shared → Prop} {f : Value → Value → Sem Value}
    (hf : ∀ v u s2 x y H2, Inv X pins σ H2 s2 → RelV x v → RelV y u → R x y H2 → wpAny (model X.prog X.w) X.A (f v u) Q X.xe s2) :
    wpAny (model X.prog X.w) X.A (eval a X.env) (fun v s₁ => wpAny (model X.prog X.w) X.A (eval b X.env) (fun u s₂ => wpAny (model X.prog X.w) X.A (f v u) Q X.xe s₂) X.xe s₁) X.xe s := by
  refine thn (ha pins s σ H _ I h) fun v s1 hq_ => ?_
  obtain ⟨x, H1, I1, r1, q1⟩ := hq_
  refine thn (hb pins s1 σ H1 _ I1 q1) fun u s2 hq_ => ?_
  obtain ⟨y, H2, I2, r2, q2⟩ := hq_
  exact hf v u s2 x y H2 I2 r1 r2 q2
theorem pe_op {op : Operator} {r : R2} (ho : OpR X (binaryOp op) r) (ha : PE X a ta) (hb : PE X b tb) : PE X (.BinOp a op b pos) (tOp r ta tb) := by
  intro pins s σ H Q I h
  exact wpAny_BinOp (binT ha hb I h fun v u s2 x y H2 I2 rx ry q => ho pins s2 σ H2 x y v u Q I2 rx ry q)
theorem opI {f : Value → Value → Sem Value} {C : Int → Int → Prop} {g : Int → Int → Int}
    (rule : ∀ (i j : Int) (t u : Tok) (s : Shared) (Q : Value → Shared → Prop) (E : Value → Shared → Prop), C i j → Q (.int (g i j) s.toks) { s with toks := s.toks + 1 } → wpAny (model X.prog X.w) X.A (f (.int i t) (.int j u)) Q E s) :
    OpR X f (rI C fun i j => .int (g i j)) := by
  intro pins s σ H x y v u Q I rx ry h
  obtain ⟨i, j, rfl, rfl, hc, q⟩ := h
  obtain ⟨t, rfl⟩ := rx
  obtain ⟨t', rfl⟩ := ry
  exact rule i j t t' s _ _ hc ⟨.int (g i j), H, I.tok _, ⟨_, rfl⟩, q⟩
theorem opI0 {f : Value → Value → Sem Value} {g : Int → Int → Int}
    (rule : ∀ (i j : Int) (t u : Tok) (s : Shared) (Q : Value → Shared → Prop) (E : Value → Shared → Prop), Q (.int (g i j) s.toks) { s with toks := s.toks + 1 } → wpAny (model X.prog X.w) X.A (f (.int i t) (.int j u)) Q E s) :
    OpR X f (rI0 fun i j => .int (g i j)) := by
  intro pins s σ H x y v u Q I rx ry h
  obtain ⟨i, j, rfl, rfl, q⟩ := h
  obtain ⟨t, rfl⟩ := rx
  obtain ⟨t', rfl⟩ := ry
  exact rule i j t t' s _ _ ⟨.int (g i j), H, I.tok _, ⟨_, rfl⟩, q⟩
theorem opB0 {f : Value → Value → Sem Value} {g : Int → Int → Bool}
    (rule : ∀ (i j : Int) (t u : Tok) (s : Shared) (Q : Value → Shared → Prop) (E : Value → Shared → Prop), Q (.bool (g i j)) s → wpAny (model X.prog X.w) X.A (f (.int i t) (.int j u)) Q E s) :
    OpR X f (rI0 fun i j => .bl (g i j)) := by
  intro pins s σ H x y v u Q I rx ry h
  obtain ⟨i, j, rfl, rfl, q⟩ := h
  obtain ⟨t, rfl⟩ := rx
  obtain ⟨t', rfl⟩ := ry
  exact rule i j t t' s _ _ ⟨.bl (g i j), H, I, rfl, q⟩
def CPow (i j : Int) : Prop := 0 ≤ j ∧ j ≤ 1000000 ∧ i.natAbs < 2 ^ 64
theorem op_add : OpR X (binaryOp .Add) (rI0 fun i j => .int (i + j)) := opI0 fun _ _ _ _ _ _ _ q => add_int q
theorem op_mod : OpR X (binaryOp .Mod) (rI (fun _ j => 0 < j) fun i j => .int (i % j)) := opI fun i j _ _ _ _ _ hc q => by
  have h1 : (0 : Int) < j := hc
  exact mod_int' (by omega) (by rw [Int.fmod_eq_emod_of_nonneg i (by omega)]; exact q)
theorem op_pow : OpR X (binaryOp .Pow) (rI CPow fun i j => .int (i ^ j.toNat)) := opI fun _ _ _ _ _ _ _ hc q => pow_int_small hc.1 hc.2.1 hc.2.2 q
end
section
variable {X : Cx} {a b c : Expr} {ta tb tc : TE} {pos : Pos}
theorem op_lt : OpR X (compareOp .Lt) (rI0 fun i j => .bl (decide (i < j))) := opB0 fun _ _ _ _ _ _ _ q => lt_int q
theorem op_ge : OpR X (compareOp .GtE) (rI0 fun i j => .bl (decide (j ≤ i))) := opB0 fun _ _ _ _ _ _ _ q => ge_int q
theorem nomark (b : Expr) {op : CmpOp} (h : op ≠ .In := by decide) (h2 : op ≠ .NotIn := by decide) : behindInMarks op b = false := by
  have e1 : (op == CmpOp.In) = false := by cases op <;> first | rfl | exact absurd rfl h
  have e2 : (op == CmpOp.NotIn) = false := by cases op <;> first | rfl | exact absurd rfl h2
  cases b <;> simp [behindInMarks, e1, e2]
theorem pe_cmpR {op : CmpOp} {r : R2} (ho : OpR X (compareOp op) r) (ha : PE X a ta) (hb : PE X b tb) (hm : behindInMarks op b = false) : PE X (.Compare a [op] [b] pos) (tOp r ta tb) := by
  intro pins s σ H Q I h
  exact wpAny_Compare1 (binT ha hb I h fun v u s2 x y H2 I2 rx ry q => ho pins s2 σ H2 x y v u Q I2 rx ry q) hm
def tTest (t : TE) : TT := fun σ H Q => t σ H fun x H' => ∃ k, x = .bl k ∧ Q k H'
theorem pt_cmpR {op : CmpOp} {r : R2} (ho : OpR X (compareOp op) r) (ha : PE X a ta) (hb : PE X b tb) (hm : behindInMarks op b = false) : PT X (.Compare a [op] [b] pos) (tTest (tOp r ta tb)) := by
  intro pins s σ H Q I h
  refine wpAny_isTrue_Compare1 (thn (ha pins s σ H _ I h) fun v s1 ⟨x, H1, I1, r1, q1⟩ => thn (hb pins s1 σ H1 _ I1 q1) fun u s2 ⟨y, H2, I2, r2, q2⟩ =>
    thn (ho pins s2 σ H2 x y v u _ I2 r1 r2 q2) fun c s3 ⟨z, H3, I3, r3, k, e, q3⟩ => ?_) hm
  subst e
  cases r3
  exact wpAny_truthy_bool ⟨H3, I3, q3⟩
def TruV (K : PySem.W.Frag) (x : V) (H : Hp) (k : Bool) : Prop :=
  match x with
  | .non => k = false
  | .bl b => k = b
  | .int i => k = (i != 0)
  | .str y => y.length ≤ sizeLine ∧ k = ((y.length : Int) != 0)
  | .byt y => y.size ≤ sizeLine ∧ k = ((y.size : Int) != 0)
  | .ref p => (∃ xs, SqL K H p xs ∧ k = !xs.isEmpty) ∨ (∃ xs, SqT K H p xs ∧ k = !xs.isEmpty) ∨ ∃ kvs, H p = some (.dK kvs) ∧ k = !kvs.isEmpty
  | _ => False
theorem isEmpty_kv {κ : Type} {kvs : List (κ × V)} {vs : List (κ × Value)} (r : KV kvs vs) : (!vs.isEmpty) = !kvs.isEmpty := by
  cases r <;> rfl
theorem isEmpty_of {xs : List V} {its : List Value} (r : Vals xs its) : (!its.toArray.isEmpty) = !xs.isEmpty := by
  cases r <;> simp
theorem line63 : (sizeLine : Nat) < 2 ^ 63 := by rw [sizeLine_eq]; decide
theorem tru_ok : TruR X (fun x H Q => ∃ k, TruV X.K x H k ∧ Q k H) := by
  intro pins s σ H x v Q I rx h
  obtain ⟨k, e, q⟩ := h
  have hl := line63
  have hs : sizeLine = 16777216 := sizeLine_eq
  cases x with
  | non =>
    cases rx
    have e' : k = false := e
    subst e'
    exact truthy_none ⟨H, I, q⟩
  | bl b =>
    cases rx
    have e' : k = b := e
    subst e'
    exact wpAny_truthy_bool ⟨H, I, q⟩
  | int i =>
    obtain ⟨t, rfl⟩ := rx
    have e' : k = (i != 0) := e
    subst e'
    exact PySem.P.truthy_int ⟨H, I, q⟩
  | str y =>
    obtain ⟨t, rfl⟩ := rx
    obtain ⟨hy, e'⟩ : y.length ≤ sizeLine ∧ k = ((y.length : Int) != 0) := e
    subst e'
    exact PySem.P.truthy_str (by omega) ⟨H, I.tok _, q⟩
  | byt y =>
    obtain ⟨t, rfl⟩ := rx
    obtain ⟨hy, e'⟩ : y.size ≤ sizeLine ∧ k = ((y.size : Int) != 0) := e
    subst e'
    exact PySem.W.truthy_bytes (by omega) ⟨H, I.tok _, q⟩
  | ref p =>
    cases rx
    have e' : (∃ xs, SqL X.K H p xs ∧ k = !xs.isEmpty) ∨ (∃ xs, SqT X.K H p xs ∧ k = !xs.isEmpty) ∨ ∃ kvs, H p = some (.dK kvs) ∧ k = !kvs.isEmpty := e
    rcases e' with ⟨xs, hx, e'⟩ | ⟨xs, hx, e'⟩ | ⟨kvs, hx, e'⟩
    · subst e'
      obtain ⟨its, r, pl, hz⟩ := I.list hx
      have hlen := r.length
      exact wpAny_truthy_list pl.isList (by simp only [List.size_toArray]; omega) ⟨H, I.tok _, by rw [isEmpty_of r]; exact q⟩
    · subst e'
      obtain ⟨its, r, pl, hz⟩ := I.tuple hx
      have hlen := r.length
      exact truthy_tuple pl (by simp only [List.size_toArray]; omega) ⟨H, I.tok _, by rw [isEmpty_of r]; exact q⟩
    · subst e'
      obtain ⟨hz, hS, vs, r, m⟩ : kvs.length ≤ sizeLine ∧ (p == sysModules) = false ∧ ∃ vs, KV kvs vs ∧ s.heap.DictOf (mixKind X.prog X.w) p vs := I.hok p _ hx
      have hlen : kvs.length = vs.length := Paired.length r
      exact wpAny_truthy_dict hS m (by omega) ⟨H, I.tok _, by rw [isEmpty_kv r]; exact q⟩
  | _ => exact (show False from e).elim
theorem pt_truth (ha : PE X a ta) (he : ∀ whole, isTrue a X.env whole = (do let v ← whole; standAt a.pos; holding [v] (truthy v))) :
    PT X a (fun σ H Q => ta σ H fun x H' => ∃ k, TruV X.K x H' k ∧ Q k H') := by
  intro pins s σ H Q I h
  exact isTrue_plain (thn (ha pins s σ H _ I h) fun v s1 ⟨x, H1, I1, r1, q1⟩ => tru_ok pins s1 σ H1 x v Q I1 r1 q1) (he _)
theorem vals1 {x : V} {us : List Value} (r : Vals [x] us) : ∃ u, us = [u] ∧ RelV x u := by
  cases r with
  | cons r1 r2 => cases r2; exact ⟨_, rfl, r1⟩
theorem vals2 {x y : V} {us : List Value} (r : Vals [x, y] us) : ∃ u w', us = [u, w'] ∧ RelV x u ∧ RelV y w' := by
  cases r with
  | cons r1 r2 =>
    cases r2 with
    | cons r3 r4 => cases r4; exact ⟨_, _, rfl, r1, r3⟩
theorem call_abs : CallR X (.builtin "abs") (fun xs H Q => ∃ i, xs = [.int i] ∧ Q (.int (if i < 0 then -i else i)) H) := by
  intro pins s σ H xs us Q I r h
  obtain ⟨i, rfl, q⟩ := h
  obtain ⟨u, rfl, t, rfl⟩ := vals1 r
  exact call_abs_int fun u tk => ⟨.int (if i < 0 then -i else i), H, I.tok _, ⟨_, rfl⟩, q⟩
theorem call_min2 (hc : X.calm = true) : CallR X (.builtin "min") (fun xs H Q => ∃ i j, xs = [.int i, .int j] ∧ Q (.int (if j < i then j else i)) H) := by
  intro pins s σ H xs us Q I r h
  obtain ⟨i, j, rfl, q⟩ := h
  obtain ⟨u, w', rfl, ⟨t, rfl⟩, ⟨t', rfl⟩⟩ := vals2 r
  refine min_two_ints (I.ok.hd hc) fun h' tk k => ⟨_, H, I.kept k, ?_, q⟩
  by_cases hj : j < i
  · rw [if_pos hj, if_pos hj]; exact ⟨_, rfl⟩
  · rw [if_neg hj, if_neg hj]; exact ⟨_, rfl⟩
end
end L2
namespace L2
open PySem PySem.Spec PyProof.Rows
end L2
namespace L2
open PySem PySem.Spec PyProof.Rows
structure Room (k : Nat) (A : Around) : Prop where
  hd : A.handled = none
  dp : A.depth + 3 * k + 5 < recursionLimit
  un : A.units + 16 * k + 200 < cLine
theorem Room.mono {j k : Nat} {A : Around} (r : Room k A) (h : j ≤ k) : Room j A := ⟨r.hd, by have := r.dp; omega, by have := r.un; omega⟩
theorem Room.deeper {k : Nat} {A : Around} (r : Room (k + 1) A) (env : Env) : Room k (A.deeper env) :=
  ⟨r.hd, by have := r.dp; show A.depth + 1 + 3 * k + 5 < _; omega, by have := r.un; show A.units + 3 + 16 * k + 200 < _; omega⟩
theorem Room.depth {k : Nat} {A : Around} (r : Room k A) : A.depth < recursionLimit := by have := r.dp; omega
theorem Room.units {k : Nat} {A : Around} (r : Room k A) : A.units + 64 < cLine := by have := r.un; omega
def tNil : TA := fun _ H Q => Q [] H
def tCons (ta : TE) (tr : TA) : TA := fun σ H Q => ta σ H fun x H1 => tr σ H1 fun xs H2 => Q (x :: xs) H2
section
variable {X : Cx} {e : Expr} {es : List Expr} {te : TE} {t : TA} {pos : Pos}
theorem pa_nil : PA X [] tNil := fun _ _ _ _ H Q I h => Calls.spliced_nil ⟨[], H, I, .nil, h⟩
theorem pa_cons (ha : PE X e te) (hr : PA X es t) (hs : starEach (e :: es) X.env = (false, eval e X.env) :: starEach es X.env := by rfl) : PA X (e :: es) (tCons te t) := by
  intro pos pins s σ H Q I h
  rw [hs]
  show wpAny _ _ (spliced ((false, eval e X.env) :: backTo pos (starEach es X.env))) _ _ s
  refine Calls.spliced_cons (thn (ha pins s σ H _ I h) fun u s1 hq_ => ?_)
  obtain ⟨x, H1, I1, r1, q1⟩ := hq_
  exact thn (hr pos pins s1 σ H1 _ I1 q1) fun us s2 ⟨xs, H2, I2, r2, q2⟩ => ⟨x :: xs, H2, I2, .cons r1 r2, q2⟩
def tLst (t : TA) : TE := fun σ H Q => t σ H fun xs H1 => xs.length ≤ sizeLine ∧ ∀ p, H1 p = none → Q (.ref p) (upd H1 p (.lst xs))
theorem pe_lst (h : PA X es t) : PE X (.List es pos) (tLst t) := by
  intro pins s σ H Q I hq
  refine wpAny_List_spliced (thn (h pos pins s σ H _ I hq) fun us s1 ⟨xs, H1, I1, r, z, q⟩ => ⟨by rw [← r.length]; exact z, ?_⟩)
  have hf : H1 s1.heap.objs.size = none := I1.hok.fresh (Nat.le_refl _)
  refine ⟨.ref s1.heap.objs.size, upd H1 s1.heap.objs.size (.lst xs), I1.laid (t' := s1.toks) (fun b u e => Heap.get?_push_of_some _ e) (Nat.le_refl _) ?_, rfl, q _ hf⟩
  exact ⟨z, us, 0, r, Heap.get?_push_size _ rfl⟩
end
abbrev Sp := List V → Hp → VK → XK → Prop
abbrev CXT := List Env → Hp → Shared → XK → Value → Shared → Prop
structure Env0 (P : Program) (w : World) (K : PySem.W.Frag) (mg : Str → Option Value) (base : Heap) (A : Around) (outer : List Env) (s : Shared) (H : Hp) : Prop where
  frames : A.frames = some outer
  mod : Mod K mg base
  bs : ∀ b o, base.get? b = some o → s.heap.get? b = some o ∧ H b = none
  bsz : base.objs.size ≤ s.heap.objs.size
  funs : s.heap.FunFrames base outer
  frf : ∀ b ∈ frs outer, H b = none
  hok : HOk P w H s.heap
  bare : AllBare s.gens
def CE (outer : List Env) (P : Program) (w : World) (H : Hp) (s : Shared) (Q : VK) (u : Value) (s' : Shared) : Prop :=
  ∃ v H', s'.os = s.os ∧ AllBare s'.gens ∧ Un (frs outer) [] H H' s.heap s'.heap ∧ HOk P w H' s'.heap ∧ RelV v u ∧ Q v H'
def CR (CX : CXT) (outer : List Env) (P : Program) (w : World) (H : Hp) (s : Shared) (Q : VK) (E : XK) (r : Result) (s' : Shared) : Prop :=
  match r with
  | .ok (.ret u) => CE outer P w H s Q u s'
  | .ok _ => False
  | .error e => CX outer H s E e s'
structure FnOk (P : Program) (w : World) (K : PySem.W.Frag) (mg : Str → Option Value) (base : Heap) (CX : CXT) (k : Nat) (f : Addr) (fd : FuncData) (ps : List Str) (sp : Sp) : Prop where
  len : ∀ vs H Q E, sp vs H Q E → vs.length = ps.length
  run : ∀ (A : Around) (outer : List Env) (s : Shared) (H : Hp) (args : Args) (us : List Value) (vs : List V) (Q : VK) (E : XK), Room k A → Env0 P w K mg base A outer s H → BindsTo s fd args (ps.zip us) → Vals vs us → sp vs H Q E →
    codeAny (model P w) A (.call (.ref f) args) (CR CX outer P w H s Q E) s
theorem FnOk.imp {P : Program} {w : World} {K : PySem.W.Frag} {mg : Str → Option Value} {base : Heap} {CX : CXT} {k : Nat} {f : Addr} {fd : FuncData} {ps : List Str} {sp sp' : Sp} (F : FnOk P w K mg base CX k f fd ps sp)
    (h : ∀ vs H Q E, sp' vs H Q E → sp vs H Q E) : FnOk P w K mg base CX k f fd ps sp' :=
  ⟨fun vs H Q E q => F.len vs H Q E (h _ _ _ _ q), fun A outer s H args us vs Q E hr he hb hv hs => F.run A outer s H args us vs Q E hr he hb hv (h _ _ _ _ hs)⟩
section
variable {X : Cx} {pins : List (Addr × Obj)} {σ : St} {H : Hp} {s s' : Shared}
theorem Inv.env0 (I : Inv X pins σ H s) : Env0 X.prog X.w X.K X.mg X.base X.A X.stack s H :=
  ⟨I.ok.frames, I.ok.mod, I.bs, Nat.le_trans I.ok.bsz I.sz, I.stack, I.stkFree, I.hok, I.bare⟩
theorem Inv.after {Q : VK} {u : Value} (I : Inv X pins σ H s) (h : CE X.stack X.prog X.w H s Q u s') : EP X pins σ Q u s' := by
  obtain ⟨v, H', os, bare, un, hok, r, q⟩ := h
  obtain ⟨hh, g, d, t, os'⟩ := s'
  obtain rfl : os' = s.os := os
  exact ⟨v, H', I.call (h' := hh) (g' := g) (d' := d) (t' := t) (ch := []) un hok bare (fun b z => absurd z (by simp)), r, q⟩
end
def tCall (sp : Sp) (dvs : List V) (E : XK) (t : TA) : TE := fun σ H Q => t σ H fun vs H1 => sp (vs ++ dvs) H1 Q E
def Binds (K : PySem.W.Frag) (fd : FuncData) (ps : List Str) (ds : List Value) : Prop :=
  ∀ (s : Shared) (us : List Value), K.In s.heap → (us ++ ds).length = ps.length → BindsTo s fd ⟨us, []⟩ (ps.zip (us ++ ds))
theorem Binds.all {K : PySem.W.Frag} {fd : FuncData} {ps : List Str} (h : ∀ us : List Value, us.length = ps.length → bindArgs fd ⟨us, []⟩ = pure (ps.zip us)) : Binds K fd ps [] := fun s us _ hl => by
  rw [List.append_nil] at hl ⊢
  exact .of_eq (h us hl)
def Passes (CX : CXT) (X : Cx) (E : XK) : Prop := ∀ (pins : List (Addr × Obj)) (σ : St) (H : Hp) (s : Shared) (e : Value) (s' : Shared), Inv X pins σ H s → CX X.stack H s E e s' → X.xe e s'
section
variable {X : Cx} {CX : CXT} {k : Nat} {f C : Addr} {fd : FuncData} {ps : List Str} {sp : Sp} {dvs : List V} {ds : List Value} {E : XK} {x m : Str} {p pos apos : Pos} {e o : Expr} {es : List Expr} {ta : TE} {t : TA}
theorem run_fn {pins : List (Addr × Obj)} {σ : St} {H : Hp} {s : Shared} {Q : VK} {us : List Value} {vs : List V} (F : FnOk X.prog X.w X.K X.mg X.base CX k f fd ps sp) (hr : Room k X.A) (hb : Binds X.K fd ps ds) (hd : Vals dvs ds) (hx : Passes CX X E)
    (I : Inv X pins σ H s) (r : Vals vs us) (h : sp (vs ++ dvs) H Q E) : wpAny (model X.prog X.w) X.A (call (.ref f) us) (EP X pins σ Q) X.xe s := by
  have r2 : Vals (vs ++ dvs) (us ++ ds) := r.append hd
  have hl : (us ++ ds).length = ps.length := by rw [← r2.length]; exact F.len _ _ _ _ h
  refine wpAny_call (codeAny_mono (F.run X.A X.stack s H ⟨us, []⟩ (us ++ ds) (vs ++ dvs) Q E hr I.env0 (hb s us I.kIn hl) r2 h) fun r s' hq => ?_)
  cases r with
  | error e => exact hx pins σ H s e s' I hq
  | ok fl =>
    cases fl with
    | ret u => exact I.after hq
    | next => exact False.elim hq
    | brk => exact False.elim hq
    | cont => exact False.elim hq
theorem pe_call (F : FnOk X.prog X.w X.K X.mg X.base CX k f fd ps sp) (hr : Room k X.A) (hg : Gl X x) (hm : X.mg x = some (.ref f)) (hk : PySem.W.keepIn X.K (.ref f) = true) (hb : Binds X.K fd ps ds) (hd : Vals dvs ds) (hx : Passes CX X E)
    (ha : PA X (e :: es) t) (hdb : (x == ("__debug__" : Str)) = false := by decide) (he : starEach (e :: es) X.env = (false, eval e X.env) :: starEach es X.env := by rfl) (hpl : (backTo pos (starEach es X.env)).any (·.1) = false := by rfl) :
    PE X (.Call (.Name x p) (e :: es) [] pos) (tCall sp dvs E t) := by
  intro pins s σ H Q I h
  refine wpAny_Call_Name_kw (ld_glob I hg hm ?_ hdb)
  refine PySem.W.callWith_K (h₀ := X.base) I.ok.mod.kin hk (thn (ha pos pins s σ H _ I h) fun us s1 ⟨vs, H1, I1, r, q⟩ => ⟨I1.kIn, ?_⟩) he hpl
  exact run_fn F hr hb hd hx I1 r q
end
structure FnScope (N P : List Str) (sc : Scope) : Prop where
  kind : sc.kind = .function
  co : sc.isCoroutine = false
  gen : sc.isGenerator = false
  nd : N.Nodup
  pre : N.take P.length = P
  par : ∀ x ∈ P, sc.names.lookup x = some .local ∨ sc.names.lookup x = some .cell
  nofree : ∀ y ∈ sc.names, y.2 ≠ .free
theorem bindL_out {kindOf : Str → Option NameKind} {x : Str} : ∀ {binds : List (Str × Value)} {m : Str → Option Value}, (∀ v, (x, v) ∉ binds) → bindL kindOf binds m x = m x
  | [], _, _ => rfl
  | (n, v) :: r, m, h => by
    unfold bindL
    rw [bindL_out fun w hw => h w (List.mem_cons_of_mem _ hw)]
    split
    · have : x ≠ n := by rintro rfl; exact h v List.mem_cons_self
      simp [this]
    · rfl
theorem bindC_out {kindOf : Str → Option NameKind} {x : Str} : ∀ {binds : List (Str × Value)} {m : Str → Option Value}, (∀ v, (x, v) ∉ binds) → bindC kindOf binds m x = m x
  | [], _, _ => rfl
  | (n, v) :: r, m, h => by
    unfold bindC
    rw [bindC_out fun w hw => h w (List.mem_cons_of_mem _ hw)]
    split
    · rfl
    · have : x ≠ n := by rintro rfl; exact h v List.mem_cons_self
      simp [this]
theorem bindL_get {kindOf : Str → Option NameKind} {x : Str} {v : Value} : ∀ {P : List Str} {vs : List Value} {i : Nat} {m : Str → Option Value}, P.Nodup → P[i]? = some x → vs[i]? = some v → kindOf x = some .local →
    bindL kindOf (P.zip vs) m x = some v
  | [], _, _, _, _, h, _, _ => by simp at h
  | _ :: _, [], _, _, _, _, h, _ => by simp at h
  | p :: P, w :: vs, 0, m, nd, h1, h2, hk => by
    simp at h1 h2; subst h1; subst h2
    show bindL kindOf ((p, w) :: P.zip vs) m p = _
    unfold bindL
    rw [bindL_out fun v hv => (List.nodup_cons.mp nd).1 (List.of_mem_zip hv).1, if_pos hk]
    simp
  | p :: P, w :: vs, i + 1, m, nd, h1, h2, hk => by
    show bindL kindOf ((p, w) :: P.zip vs) m x = _
    unfold bindL
    exact bindL_get (i := i) (List.nodup_cons.mp nd).2 (by simpa using h1) (by simpa using h2) hk
theorem bindC_get {kindOf : Str → Option NameKind} {x : Str} {v : Value} : ∀ {P : List Str} {vs : List Value} {i : Nat} {m : Str → Option Value}, P.Nodup → P[i]? = some x → vs[i]? = some v → kindOf x ≠ some .local →
    bindC kindOf (P.zip vs) m x = some v
  | [], _, _, _, _, h, _, _ => by simp at h
  | _ :: _, [], _, _, _, _, h, _ => by simp at h
  | p :: P, w :: vs, 0, m, nd, h1, h2, hk => by
    simp at h1 h2; subst h1; subst h2
    show bindC kindOf ((p, w) :: P.zip vs) m p = _
    unfold bindC
    rw [bindC_out fun v hv => (List.nodup_cons.mp nd).1 (List.of_mem_zip hv).1, if_neg hk]
    simp
  | p :: P, w :: vs, i + 1, m, nd, h1, h2, hk => by
    show bindC kindOf ((p, w) :: P.zip vs) m x = _
    unfold bindC
    exact bindC_get (i := i) (List.nodup_cons.mp nd).2 (by simpa using h1) (by simpa using h2) hk
def start (N : List Str) (vs : List V) : St := vs.map some ++ List.replicate (N.length - vs.length) none
def cxOf (CX : CXT) (P : Program) (w : World) (K : PySem.W.Frag) (mg : Str → Option Value) (base : Heap) (N : List Str) (qual : Str) (scope : Scope) (f : Addr) (cd : Value) (A : Around) (outer : List Env) (s : Shared) (H : Hp) (E : XK) : Cx where
  prog := P
  w := w
  K := K
  mg := mg
  base := base
  A := A.deeper (envOfC qual scope s.heap.objs.size f cd)
  N := N
  s₀ := s
  H₀ := H
  env := envOfC qual scope s.heap.objs.size f cd
  outer := outer
  stack := envOfC qual scope s.heap.objs.size f cd :: outer
  ex := []
  calm := true
  fn := fun _ => true
  pn := []
  xe := fun e s' => wpAny (model P w) (A.deeper (envOfC qual scope s.heap.objs.size f cd)) (leaving (envOfC qual scope s.heap.objs.size f cd) e) (fun _ s'' => CX outer H s E e s'') (fun e' s'' => CX outer H s E e' s'') s'
theorem cell_has {sc : Scope} {n : Nat} {x : Str} (h : sc.names.lookup x = some .cell) : ∃ c, (cellsFrom n sc.names []).lookup x = some c := by
  have q := PySem.W.cellsFrom_some sc.names n [] (.inl h)
  exact Option.isSome_iff_exists.mp q
theorem inv_start {CX : CXT} {P : Program} {w : World} {K : PySem.W.Frag} {mg : Str → Option Value} {base : Heap} {N ps : List Str} {qual : Str} {scope : Scope} {f : Addr} {cd : Value} {A : Around} {outer : List Env} {s s1 : Shared} {H : Hp} {E : XK} {us : List Value} {vs : List V}
    (S : FnScope N ps scope) (hd : A.handled = none) (e0 : Env0 P w K mg base A outer s H) (hl : vs.length = ps.length) (r : Vals vs us)
    (x : InCallC s s.heap.objs.size (bindL (envOfC qual scope s.heap.objs.size f cd).kindOf (ps.zip us) fun _ => none) (cellsFrom (s.heap.objs.size + 1) scope.names []) (bindC (envOfC qual scope s.heap.objs.size f cd).kindOf (ps.zip us) fun _ => none) s1) :
    Inv (cxOf CX P w K mg base N qual scope f cd A outer s H E) [] (start N vs) H s1 := by
  have hpl : ps.length ≤ N.length := by have := congrArg List.length S.pre; rw [List.length_take] at this; omega
  obtain ⟨h1, tk, rfl, hk⟩ := x.done
  have noA : ∀ b : Addr, b ∉ (cxOf CX P w K mg base N qual scope f cd A outer s H E).ex := fun b z => absurd (show b ∈ ([] : List Addr) from z) (by simp)
  refine ⟨⟨e0.mod, S.kind, rfl, rfl, Nat.le_refl _, fun y z c h1 h2 => ?_, fun y hy => ?_, fun y c _ h => ?_, fun _ => hd, Around.frames_deeper e0.frames, .inr ⟨rfl, rfl⟩, fun b z => absurd z (noA b), e0.bs, e0.bsz, fun b _ _ => noA b, fun b z => absurd z (noA b), e0.funs, e0.frf⟩,
    rfl, e0.bare, Un.kept hk, ⟨_, x.toInCall.ns, fun i y v h1 h2 h3 => ?_⟩, fun y c h => ⟨_, x.cell y c h⟩, e0.hok.fresh (Nat.le_refl _), fun y c h => ?_, fun p hp => absurd (show p ∈ ([] : List (Addr × Obj)) from hp) (by simp), e0.hok.kept hk, ?_⟩
  · exact name_of_addr x.apart (PySem.mem_of_lookup h1) (PySem.mem_of_lookup h2)
  · have hy : scope.names.lookup y = some .cell ∨ scope.names.lookup y = some .free := hy
    rcases hy with hy | hy
    · exact cell_has hy
    · exact absurd rfl (S.nofree _ (PySem.mem_of_lookup hy))
  · exact Nat.le_of_lt (x.above y c (PySem.mem_of_lookup h))
  · have hi : i < vs.length := by
      unfold start at h2
      by_cases hi : i < vs.length
      · exact hi
      · rw [List.getElem?_append_right (by simpa using hi)] at h2
        rw [List.getElem?_replicate] at h2
        split at h2 <;> cases h2
    have ha : vs[i]? = some v := by
      unfold start at h2
      rw [List.getElem?_append_left (by simpa using hi), List.getElem?_map] at h2
      cases e : vs[i]? with
      | none => rw [e] at h2; cases h2
      | some a => rw [e] at h2; cases h2; rfl
    obtain ⟨u, hu, rv⟩ := r.get ha
    have hp : ps[i]? = some y := by
      rw [← S.pre, List.getElem?_take_of_lt (by omega)]; exact h1
    have ndP : ps.Nodup := by rw [← S.pre]; exact S.nd.sublist (List.take_sublist _ _)
    refine ⟨u, rv, ?_⟩
    rcases S.par y (List.mem_of_getElem? hp) with k | k
    · exact .inl ⟨k, bindL_get ndP hp hu k⟩
    · obtain ⟨c, e⟩ := cell_has (n := s.heap.objs.size + 1) k
      refine .inr ⟨.inl k, c, e, ?_⟩
      have q := x.cell y c e
      rw [bindC_get ndP hp hu (by show scope.names.lookup y ≠ _; rw [k]; decide)] at q
      exact q
  · exact e0.hok.fresh (Nat.le_of_lt (x.above y c (PySem.mem_of_lookup h)))
  · unfold start
    show _ = N.length
    rw [List.length_append, List.length_map, List.length_replicate]
    omega
theorem fn_of {CX : CXT} {P : Program} {w : World} {K : PySem.W.Frag} {mg : Str → Option Value} {base : Heap} {k : Nat} {f : Addr} {name qual : Str} {params : Arguments} {body : List Stmt} {scope : Scope} {dV kV doc pm cdv ct oc : Value} {an od : Option Addr}
    {osl : Array (Option Value)} {N ps : List Str} {sp : Sp} (lk : K.lookup f = some ⟨oc, od, .func (PySem.W.fnOf name qual params body scope dV kV doc pm an cdv ct), osl⟩) (hcd : PySem.W.codeIn K cdv qual = true) (S : FnScope N ps scope)
    (len : ∀ vs H Q E, sp vs H Q E → vs.length = ps.length)
    (hbody : ∀ (A : Around) (outer : List Env) (s : Shared) (H : Hp) (vs : List V) (Q : VK) (E : XK), Room k (A.deeper (envOfC qual scope s.heap.objs.size f cdv)) → sp vs H Q E →
      ∃ t, PSs (cxOf CX P w K mg base N qual scope f cdv A outer s H E) body t ∧ t { nx := fun _ H' => Q .non H', rt := Q } (start N vs) H) :
    FnOk P w K mg base CX (k + 1) f (PySem.W.fnOf name qual params body scope dV kV doc pm an cdv ct) ps sp := by
  refine ⟨len, fun A outer s H args us vs Q E hr e0 hb r hsp => ?_⟩
  have hl := len _ _ _ _ hsp
  have KX : K.In s.heap := e0.mod.kin.keeps fun b o e => (e0.bs b o e).1
  have lim : s.heap.NoLimit := e0.mod.nolimit.keeps fun b o e => (e0.bs b o e).1
  have hkind : ∀ y ∈ ps.zip us, scope.names.lookup y.1 = some .local ∨ (scope.names.lookup y.1 = some .cell ∧ ((cellsFrom (s.heap.objs.size + 1) scope.names []).lookup y.1).isSome = true) := fun ⟨n, v⟩ hy => by
    rcases S.par n (List.of_mem_zip hy).1 with q | q
    · exact .inl q
    · exact .inr ⟨q, PySem.W.cellsFrom_some _ _ _ (.inl q)⟩
  refine codeAny_call_function hr.depth (KX _ _ lk) rfl S.co S.gen rfl (PySem.W.codeRec_of KX hcd) (hb _ _ _ _ ?_)
  refine wpAny_newFunctionEnv_cells S.kind hkind fun env he s1 x => ?_
  subst he
  refine ⟨lim.keeps x.toInCall.keep, codeAny_func ?_⟩
  obtain ⟨t, ht, hq⟩ := hbody A outer s H vs Q E (hr.deeper _) hsp
  have I : Inv (cxOf CX P w K mg base N qual scope f cdv A outer s H E) [] (start N vs) H s1 := inv_start S hr.hd e0 hl r x
  refine wpAny_mono (ht [] s1 (start N vs) H _ I hq) (fun fl s' hs => ?_) fun e s' hs => hs
  have fin : ∀ {σ' : St} {H' : Hp} {v : V} {u : Value}, Inv (cxOf CX P w K mg base N qual scope f cdv A outer s H E) [] σ' H' s' → RelV v u → Q v H' → CE outer P w H s Q u s' :=
    fun {σ' H' v u} J rv q => ⟨v, H', J.os, J.bare, J.base, J.hok, rv, q⟩
  cases fl with
  | ret u =>
    obtain ⟨v, σ', H', J, rv, q⟩ := hs
    exact fin J rv q
  | next =>
    obtain ⟨σ', H', J, q⟩ := hs
    exact fin (v := V.non) (u := Value.none) J rfl q
  | brk =>
    obtain ⟨_, _, _, q⟩ := hs
    exact False.elim q
  | cont =>
    obtain ⟨_, _, _, q⟩ := hs
    exact False.elim q
end L2
namespace L2
open PySem PySem.Spec PyProof.Rows
section
variable {X : Cx} {x : Str} {p pos : Pos} {e : Expr} {es : List Expr} {t : TA} {id T : String} {r : List V → Hp → VK → Prop}
def tCB (r : List V → Hp → VK → Prop) (t : TA) : TE := fun σ H Q => t σ H fun vs H1 => r vs H1 Q
theorem pe_callB (hc : CallR X (.builtin id) r) (hg : Gl X x) (hm : X.mg x = none) (hv : bootBuiltins x = some (.builtin id)) (ha : PA X (e :: es) t) (hn : x ≠ "__name__" := by decide) (hdb : (x == ("__debug__" : Str)) = false := by decide)
    (he : starEach (e :: es) X.env = (false, eval e X.env) :: starEach es X.env := by rfl) (hpl : (backTo pos (starEach es X.env)).any (·.1) = false := by rfl) : PE X (.Call (.Name x p) (e :: es) [] pos) (tCB r t) := by
  intro pins s σ H Q I h
  refine wpAny_Call_Name_kw (ld_blt I hg hm hv ?_ hn hdb)
  exact PyProof.Rows.callWith_builtin1 (thn (ha pos pins s σ H _ I h) fun us s1 ⟨vs, H1, I1, r1, q1⟩ => hc pins s1 σ H1 vs us Q I1 r1 q1) he hpl
theorem pe_callTy (hc : CallR X (.type T) r) (hg : Gl X x) (hm : X.mg x = none) (hv : bootBuiltins x = some (.type T)) (ha : PA X (e :: es) t) (hn : x ≠ "__name__" := by decide) (hdb : (x == ("__debug__" : Str)) = false := by decide)
    (he : starEach (e :: es) X.env = (false, eval e X.env) :: starEach es X.env := by rfl) (hpl : (backTo pos (starEach es X.env)).any (·.1) = false := by rfl) : PE X (.Call (.Name x p) (e :: es) [] pos) (tCB r t) := by
  intro pins s σ H Q I h
  refine wpAny_Call_Name_kw (ld_blt I hg hm hv ?_ hn hdb)
  exact PyProof.Rows.callWith_type1 (thn (ha pos pins s σ H _ I h) fun us s1 ⟨vs, H1, I1, r1, q1⟩ => hc pins s1 σ H1 vs us Q I1 r1 q1) he hpl
end
end L2
namespace HT
open PySem PyProof.Rows
end HT
namespace L2
open PySem PySem.Spec PyProof.Rows
end L2
namespace L2
open PySem PySem.Spec PyProof.Rows
def ixN (n : Nat) (i : Int) : Option Nat := if 0 ≤ i then (if i < n then some i.toNat else none) else if -(n : Int) ≤ i then some (i + n).toNat else none
def atI {α : Type} (xs : List α) (i : Int) : Option α := (ixN xs.length i).bind fun j => xs[j]?
theorem ixN_seq {n : Nat} {i : Int} {j : Nat} (h : ixN n i = some j) : seqIndex? i n = some j ∧ j < n ∧ -(n : Int) ≤ i ∧ i < n := by
  unfold ixN at h
  by_cases h0 : 0 ≤ i
  · rw [if_pos h0] at h
    by_cases h1 : i < n
    · rw [if_pos h1] at h
      have e : i.toNat = j := Option.some.inj h
      exact ⟨by rw [seqIndex_of h0 h1, e], by omega, by omega, h1⟩
    · rw [if_neg h1] at h; cases h
  · rw [if_neg h0] at h
    by_cases h1 : -(n : Int) ≤ i
    · rw [if_pos h1] at h
      have e : (i + n).toNat = j := Option.some.inj h
      exact ⟨by rw [seqIndex_neg (by omega) h1, e], by omega, h1, by omega⟩
    · rw [if_neg h1] at h; cases h
theorem atI_get {α : Type} {xs : List α} {i : Int} {v : α} (h : atI xs i = some v) : ∃ j, seqIndex? i xs.length = some j ∧ xs[j]? = some v ∧ j < xs.length ∧ -(xs.length : Int) ≤ i ∧ i < xs.length := by
  unfold atI at h
  cases e : ixN xs.length i with
  | none => rw [e] at h; cases h
  | some j =>
    rw [e] at h
    obtain ⟨h1, h2, h3, h4⟩ := ixN_seq e
    exact ⟨j, h1, h, h2, h3, h4⟩
def PlainIx (b : Expr) : Prop := ∀ o i, subscripted b false o i = operate [o, i] (getItem o i)
def IxR (X : Cx) (r : R2) : Prop :=
  ∀ (value slice : Expr) (pins : List (Addr × Obj)) (s : Shared) (σ : St) (H : Hp) (x y : V) (v u : Value) (Q : VK), Inv X pins σ H s → RelV x v → RelV y u → r x y H Q →
    subscripted slice false v u = operate [v, u] (getItem v u) → wpAny (model X.prog X.w) X.A (subscriptTail value slice v u) (EP X pins σ Q) X.xe s
def MtR (X : Cx) (id : String) (r : V → List V → Hp → VK → Prop) : Prop :=
  ∀ (pins : List (Addr × Obj)) (s : Shared) (σ : St) (H : Hp) (x : V) (xs : List V) (v : Value) (us : List Value) (Q : VK), Inv X pins σ H s → RelV x v → Vals xs us → r x xs H Q →
    wpAny (model X.prog X.w) X.A (call (.builtin id) (v :: us)) (EP X pins σ Q) X.xe s
section
variable {X : Cx} {a b : Expr} {ta tb : TE} {pos : Pos}
theorem IxR.or {r r' : R2} (h : IxR X r) (h' : IxR X r') : IxR X (fun x y H Q => r x y H Q ∨ r' x y H Q) := by
  intro value slice pins s σ H x y v u Q I rx ry q hs
  rcases q with q | q
  · exact h value slice pins s σ H x y v u Q I rx ry q hs
  · exact h' value slice pins s σ H x y v u Q I rx ry q hs
theorem pe_ix {r : R2} (hr : IxR X r) (ha : PE X a ta) (hb : PE X b tb) (hs : PlainIx b) : PE X (.Subscript a b pos) (tOp r ta tb) := by
  intro pins s σ H Q I h
  exact Subscript_ (binT ha hb I h fun v u s2 x y H2 I2 rx ry q => hr a b pins s2 σ H2 x y v u Q I2 rx ry q (hs _ _))
def rIxL (K : PySem.W.Frag) : R2 := fun x y H Q => ∃ p xs i v, x = .ref p ∧ y = .int i ∧ SqL K H p xs ∧ atI xs i = some v ∧ Q v H
def rIxT (K : PySem.W.Frag) : R2 := fun x y H Q => ∃ p xs i v, x = .ref p ∧ y = .int i ∧ SqT K H p xs ∧ atI xs i = some v ∧ Q v H
def rIxS : R2 := fun x y H Q => ∃ z i c, x = .str z ∧ y = .int i ∧ z.length ≤ sizeLine ∧ atI z.cps.toList i = some c ∧ Q (.str ⟨#[c]⟩) H
theorem ix_list : IxR X (rIxL X.K) := by
  intro value slice pins s σ H x y v u Q I rx ry h hs
  obtain ⟨p, xs, i, z, rfl, rfl, hq, he, q⟩ := h
  cases rx
  obtain ⟨t, rfl⟩ := ry
  obtain ⟨its, r, pl, hz⟩ := I.list hq
  obtain ⟨j, h1, h2, h3, h4, h5⟩ := atI_get he
  obtain ⟨w, ew, rw'⟩ := r.get h2
  have hl := r.length
  have hn := line63
  have fin : EP X pins σ Q w s := ⟨z, H, I, rw', q⟩
  by_cases h0 : 0 ≤ i
  · have hj : i.toNat = j := by
      rw [seqIndex_of h0 h5] at h1
      exact Option.some.inj h1
    exact item_listR pl.isList h0 (by omega) (by rw [hj]; simpa using ew) fin hs
  · have hj : (i + (its.toArray.size : Int)).toNat = j := by
      rw [seqIndex_neg (by omega) h4] at h1
      rw [List.size_toArray, ← hl]
      exact Option.some.inj h1
    exact subscriptTail_builtinR (x := w) pl.isList.typeIs slot_list_getitem.lookup
      (wpAny_getItem_list_neg (Q := fun r s' => r = w ∧ EP X pins σ Q r s') pl.isList (by omega) (by rw [List.size_toArray] <;> omega) (by omega) (by rw [hj]; simpa using ew) ⟨rfl, fin⟩) hs
theorem ix_tup : IxR X (rIxT X.K) := by
  intro value slice pins s σ H x y v u Q I rx ry h hs
  obtain ⟨p, xs, i, z, rfl, rfl, hq, he, q⟩ := h
  cases rx
  obtain ⟨t, rfl⟩ := ry
  obtain ⟨its, r, pl, hz⟩ := I.tuple hq
  obtain ⟨j, h1, h2, h3, h4, h5⟩ := atI_get he
  obtain ⟨w, ew, rw'⟩ := r.get h2
  have hl := r.length
  have hn := line63
  have fin : EP X pins σ Q w s := ⟨z, H, I, rw', q⟩
  exact subscriptTail_builtinR (x := w) pl.typeIs slot_tuple_getitem.lookup
    (getItem_tuple (j := j) (Q := fun r s' => r = w ∧ EP X pins σ Q r s') pl (by omega) (by omega) (by rw [List.size_toArray, ← hl]; exact h1) (by simpa using ew) ⟨rfl, fin⟩) hs
theorem ix_str : IxR X rIxS := by
  intro value slice pins s σ H x y v u Q I rx ry h hs
  obtain ⟨z, i, c, rfl, rfl, hz, he, q⟩ := h
  obtain ⟨t, rfl⟩ := rx
  obtain ⟨t', rfl⟩ := ry
  obtain ⟨j, h1, h2, h3, h4, h5⟩ := atI_get he
  have hl : z.cps.toList.length = z.length := by simp [Str.length]
  rw [hl] at h1 h4 h5
  have hn := line63
  exact tail_any (typeIs_str s z t) slot_str_getitem.lookup (getItem_str (c := c) (by
    have e1 : decide (i < -(2 ^ 63 : Int)) = false := decide_eq_false (by omega)
    have e2 : decide (i ≥ 2 ^ 63) = false := decide_eq_false (by omega)
    rw [e1, e2, Bool.or_false]) (by rw [h1]; simpa using h2) ⟨.str ⟨#[c]⟩, H, I.tok _, ⟨_, rfl⟩, q⟩) hs
def rIx (K : PySem.W.Frag) : R2 := fun x y H Q => rIxL K x y H Q ∨ rIxT K x y H Q ∨ rIxS x y H Q
theorem ix_seq : IxR X (rIx X.K) := ix_list.or (ix_tup.or ix_str)
theorem mapSeq_set (its : List Value) (n j : Nat) (u : Value) : Obj.mapSeq (·.setIfInBounds j u) { cls := .type "list", data := .seq its.toArray n } = { cls := .type "list", data := .seq (its.set j u).toArray n } := by
  simp [Obj.mapSeq]
theorem Inv.lst {pins : List (Addr × Obj)} {σ : St} {H : Hp} {s : Shared} {p : Addr} {xs : List V} (I : Inv X pins σ H s) (h : H p = some (.lst xs)) :
    ∃ (its : List Value) (n : Nat), Vals xs its ∧ s.heap.get? p = some { cls := .type "list", data := .seq its.toArray n } ∧ xs.length ≤ sizeLine := by
  obtain ⟨z, its, n, r, e⟩ := I.hok p _ h
  exact ⟨its, n, r, e, z⟩
theorem Inv.lstUpd {pins : List (Addr × Obj)} {σ : St} {H : Hp} {s : Shared} {p : Addr} {xs ys : List V} {its its' : List Value} {n n' : Nat} {f : Obj → Obj} (I : Inv X pins σ H s) (h : H p = some (.lst xs))
    (ho : s.heap.get? p = some { cls := .type "list", data := .seq its.toArray n }) (hf : f { cls := .type "list", data := .seq its.toArray n } = { cls := .type "list", data := .seq its'.toArray n' }) (r : Vals ys its') (hz : ys.length ≤ sizeLine) (t : Nat) :
    Inv X pins σ (upd H p (.lst ys)) { s with heap := s.heap.update p f, toks := t } := by
  have e : (s.heap.update p f).get? p = some { cls := .type "list", data := .seq its'.toArray n' } := by
    rw [Heap.get?_update_self f ho (by rw [hf] <;> rfl), hf]
  refine I.write (x := p) (e := p) (by rw [h]; trivial) (.inl rfl) (fun b u hb q => (Heap.get?_update_other _ _ (Ne.symm hb)).trans q) ⟨_, e⟩ ?_
  exact ⟨hz, its', n', r, e⟩
def rSetL : V → V → V → Hp → (Hp → Prop) → Prop := fun o i v H Q => ∃ p xs k j, o = .ref p ∧ i = .int k ∧ H p = some (.lst xs) ∧ ixN xs.length k = some j ∧ Q (upd H p (.lst (xs.set j v)))
theorem set_list : PSet X rSetL := by
  intro pins s σ H o i v ov iv u Q I ro ri rv h
  obtain ⟨p, xs, k, j, rfl, rfl, hp, hj, q⟩ := h
  cases ro
  obtain ⟨t, rfl⟩ := ri
  obtain ⟨its, n, r, ho, hz⟩ := I.lst hp
  obtain ⟨h1, h2, h3, h4⟩ := ixN_seq hj
  have hl := r.length
  have hn := line63
  have I' : Inv X pins σ (upd H p (.lst (xs.set j v))) { s with heap := s.heap.update p (Obj.mapSeq (·.setIfInBounds j u)) } :=
    I.lstUpd hp ho (mapSeq_set its n j u) (r.set rv j) (by rw [List.length_set]; exact hz) s.toks
  by_cases h0 : 0 ≤ k
  · have hk : k.toNat = j := by
      rw [seqIndex_of h0 h4] at h1
      exact Option.some.inj h1
    exact PySem.W.ki_setAt ho h0 (by omega) (by rw [List.size_toArray, ← hl]; exact h4) (by rw [hk]; exact ⟨_, I', q⟩)
  · have hk : (k + (its.toArray.size : Int)).toNat = j := by
      rw [seqIndex_neg (by omega) h3] at h1
      rw [List.size_toArray, ← hl]
      exact Option.some.inj h1
    exact PySem.W.ki_setBack ho (by omega) (by rw [List.size_toArray, ← hl]; exact h3) (by omega) (by rw [hk]; exact ⟨_, I', q⟩)
theorem call_len_seq : CallR X (.builtin "len") (fun xs H Q => ∃ p ys, xs = [.ref p] ∧ (SqL X.K H p ys ∨ SqT X.K H p ys) ∧ Q (.int ys.length) H) := by
  intro pins s σ H xs us Q I r h
  obtain ⟨p, ys, rfl, hq, q⟩ := h
  obtain ⟨u, rfl, rx⟩ := vals1 r
  cases rx
  have hn := line63
  rcases hq with hq | hq
  · obtain ⟨its, r', pl, hz⟩ := I.list hq
    have hlen := r'.length
    exact Calls.call_len_list pl.isList (by simp only [List.size_toArray] <;> omega) ⟨.int ys.length, H, I.tok _, ⟨s.toks + 1, by rw [List.size_toArray, hlen]⟩, q⟩
  · obtain ⟨its, r', pl, hz⟩ := I.tuple hq
    have hlen := r'.length
    exact len_tuple pl (by simp only [List.size_toArray] <;> omega) ⟨.int ys.length, H, I.tok _, ⟨s.toks + 1, by rw [List.size_toArray, hlen]⟩, q⟩
theorem call_list_of : CallR X (.type "list") (fun xs H Q => ∃ p ys, xs = [.ref p] ∧ (SqL X.K H p ys ∨ SqT X.K H p ys) ∧ ∀ l, H l = none → Q (.ref l) (upd H l (.lst ys))) := by
  intro pins s σ H xs us Q I r h
  obtain ⟨p, ys, rfl, hq, q⟩ := h
  obtain ⟨u, rfl, rx⟩ := vals1 r
  cases rx
  have fin : ∀ (its : List Value), Vals ys its → ys.length ≤ sizeLine → ∀ (h' : Heap) (c' : Nat), (∀ b o', s.heap.get? b = some o' → h'.get? b = some o') →
      h'.get? s.heap.objs.size = some { cls := .type "list", dict := none, data := .seq its.toArray c', slots := #[] } → EP X pins σ Q (.ref s.heap.objs.size) { s with heap := h' } := fun its r' hz h' c' kp e =>
    ⟨.ref s.heap.objs.size, _, I.laid (t' := s.toks) kp (Nat.le_refl _) (show ObjOk X.prog X.w _ h' _ (.lst ys) from ⟨hz, its, c', r', e⟩), rfl, q _ (I.hok.fresh (Nat.le_refl _))⟩
  rcases hq with hq | hq
  · obtain ⟨its, r', pl, hz⟩ := I.list hq
    have hlen := r'.length
    obtain ⟨o, ho, hc, n, hd⟩ := pl.isList
    exact call_list_seq p (.inl rfl) ho hc hd (fun h' c' kp e => fin its r' hz h' c' kp e) (by simp only [List.size_toArray] <;> omega)
  · obtain ⟨its, r', pl, hz⟩ := I.tuple hq
    have hlen := r'.length
    obtain ⟨o, ho, hc, n, hd⟩ := pl
    exact call_list_seq p (.inr rfl) ho hc hd (fun h' c' kp e => fin its r' hz h' c' kp e) (by simp only [List.size_toArray] <;> omega)
theorem call_tuple_of : CallR X (.type "tuple") (fun xs H Q => ∃ p ys, xs = [.ref p] ∧ ((SqL X.K H p ys ∧ ∀ l, H l = none → Q (.ref l) (upd H l (.tup ys))) ∨ (SqT X.K H p ys ∧ Q (.ref p) H))) := by
  intro pins s σ H xs us Q I r h
  obtain ⟨p, ys, rfl, h⟩ := h
  obtain ⟨u, rfl, rx⟩ := vals1 r
  cases rx
  rcases h with ⟨hq, q⟩ | ⟨hq, q⟩
  · obtain ⟨its, r', pl, hz⟩ := I.list hq
    have hlen := r'.length
    refine call_tuple_list pl.isList (fun h' kp => ?_) (by simp only [List.size_toArray] <;> omega)
    have I1 : Inv X pins σ H { s with heap := h' } := I.kept (t' := s.toks) kp
    have I2 : Inv X pins σ (upd H h'.objs.size (.tup ys)) { s with heap := h'.push { cls := .type "tuple", data := .seq its.toArray } } :=
      I1.laid (t' := s.toks) (fun b o e => Heap.get?_push_of_some _ e) (Nat.le_refl _) (show ObjOk X.prog X.w _ _ _ (.tup ys) from ⟨hz, its, r', IsTup.new _ _, _, Heap.get?_push_size _ rfl, rfl⟩)
    exact ⟨.ref h'.objs.size, _, I2, rfl, q _ (I1.hok.fresh (Nat.le_refl _))⟩
  · obtain ⟨its, r', pl, hz⟩ := I.tuple hq
    exact call_tuple_same pl ⟨.ref p, H, I, rfl, q⟩
def tyV (K : PySem.W.Frag) (T : String) (x : V) (H : Hp) : Prop := match x with
  | .str _ => T = "str"
  | .int _ => T = "int"
  | .ref p => (T = "list" ∧ ∃ xs, SqL K H p xs) ∨ (T = "tuple" ∧ ∃ xs, SqT K H p xs) ∨
      (T = "dict" ∧ ((∃ kvs, H p = some (.dK kvs)) ∨ ∃ kvs, H p = some (.dT kvs))) ∨ (T = "set" ∧ ∃ S n, H p = some (.set S n)) ∨ (T = "set" ∧ ∃ xs, H p = some (.tst xs))
  | _ => False
theorem tyV_is {pins : List (Addr × Obj)} {σ : St} {H : Hp} {s : Shared} {T : String} {x : V} {v : Value} (I : Inv X pins σ H s) (r : RelV x v) (ty : tyV X.K T x H) :
    s.TypeIs v T ∧ ∀ a, v = .ref a → ∃ ob, s.heap.get? a = some ob ∧ ob.dict = none := by
  cases x with
  | str z =>
    obtain ⟨t, rfl⟩ := r
    cases (show T = "str" from ty)
    exact ⟨typeIs_str s z t, fun _ e => nomatch e⟩
  | int i =>
    obtain ⟨t, rfl⟩ := r
    cases (show T = "int" from ty)
    exact ⟨typeIs_int s i t, fun _ e => nomatch e⟩
  | ref p =>
    cases r
    rcases ty with ⟨rfl, xs, hq⟩ | ⟨rfl, xs, hq⟩ | ⟨rfl, hk⟩ | ⟨rfl, S, n, hk⟩ | ⟨rfl, xs, hk⟩
    · obtain ⟨its, _, pl, _⟩ := I.list hq
      refine ⟨pl.isList.typeIs, fun a e => ?_⟩
      cases e
      obtain ⟨o, n, e, c, hd, _⟩ := pl
      exact ⟨o, e, hd⟩
    · obtain ⟨⟨ob, ho, hc⟩, o2, h2, hd⟩ := I.tupleN hq
      refine ⟨⟨ob, ho, hc⟩, fun a e => ?_⟩
      cases e
      exact ⟨o2, h2, hd⟩
    · have z : ∃ o, s.heap.get? p = some o ∧ o.ExactDict := by
        rcases hk with ⟨kvs, hk⟩ | ⟨kvs, hk⟩
        · obtain ⟨_, _, _, _, o, _, _, e, ex, _⟩ := I.hok p _ hk
          exact ⟨o, e, ex⟩
        · obtain ⟨_, _, _, _, o, _, _, e, ex, _⟩ := I.hok p _ hk
          exact ⟨o, e, ex⟩
      obtain ⟨o, e, ex⟩ := z
      refine ⟨⟨o, e, ex.1⟩, fun a e2 => ?_⟩
      cases e2
      exact ⟨o, e, ex.2.1⟩
    · obtain ⟨o, _, _, _, e, ex, _⟩ := I.hok p _ hk
      refine ⟨⟨o, e, ex.1⟩, fun a e2 => ?_⟩
      cases e2
      exact ⟨o, e, ex.2.1⟩
    · obtain ⟨o, _, _, _, e, ex⟩ := I.hok p _ hk
      refine ⟨⟨o, e, ex.ex.1⟩, fun a e2 => ?_⟩
      cases e2
      exact ⟨o, e, ex.ex.2.1⟩
  | _ => exact False.elim ty
def tBM0 (K : PySem.W.Frag) (T : String) (r : V → List V → Hp → VK → Prop) (to : TE) : TE := fun σ H Q => to σ H fun x H1 => tyV K T x H1 ∧ r x [] H1 Q
def tBM (K : PySem.W.Frag) (T : String) (r : V → List V → Hp → VK → Prop) (to : TE) (t : TA) : TE := fun σ H Q => to σ H fun x H1 => tyV K T x H1 ∧ t σ H1 fun xs H2 => r x xs H2 Q
variable {o e : Expr} {es : List Expr} {to : TE} {t : TA} {name : Str} {apos cpos : Pos} {T id : String} {r : V → List V → Hp → VK → Prop}
theorem pe_bm0 (pa : PlainAttrs T) (slot : Slot T name id) (hty : typeOf (.builtin id) = pure (.type "method_descriptor")) (hm : MtR X id r) (ho : PE X o to)
    (hbase : attributeBase o name X.env (eval o X.env) = eval o X.env := by rfl) (hline : (apos.endLine == cpos.line) = true := by rfl) : PE X (.Call (.Attribute o name apos) [] [] cpos) (tBM0 X.K T r to) := by
  intro pins s σ H Q I h
  refine wpAny_Call_method0_late hbase hline (thn (ho pins s σ H _ I h) fun v s1 hq_ => ?_)
  obtain ⟨x, H1, I1, r1, ty, q1⟩ := hq_
  obtain ⟨h1, h2⟩ := tyV_is I1 r1 ty
  exact ⟨T, id, pa, slot, hty, h1, h2, Calls.callWith_builtin rfl (PySem.evalArgs_none (hm pins s1 σ H1 x [] v [] Q I1 r1 .nil q1))⟩
theorem pe_bm (pa : PlainAttrs T) (slot : Slot T name id) (hty : typeOf (.builtin id) = pure (.type "method_descriptor")) (hm : MtR X id r) (ho : PE X o to) (ha : PA X (e :: es) t)
    (hbase : attributeBase o name X.env (eval o X.env) = eval o X.env := by rfl)
    (hfew : ((backTo cpos (starEach (e :: es) X.env)).all (fun x => !x.1) && (backToKw cpos (keywordEach [] X.env)).all (fun x => x.1.isSome)
      && decide ((e :: es).length + ([] : List Keyword).length + (if ([] : List Keyword).isEmpty then 0 else 1) < 30)) = true := by rfl)
    (hline : (apos.endLine == cpos.line) = true := by rfl) (hs : starEach (e :: es) X.env = (false, eval e X.env) :: starEach es X.env := by rfl) (hplain : (backTo cpos (starEach es X.env)).any (·.1) = false := by rfl) :
    PE X (.Call (.Attribute o name apos) (e :: es) [] cpos) (tBM X.K T r to t) := by
  intro pins s σ H Q I h
  refine wpAny_Call_method_late hbase hfew hline rfl (thn (ho pins s σ H _ I h) fun v s1 hq_ => ?_)
  obtain ⟨x, H1, I1, r1, ty, q1⟩ := hq_
  obtain ⟨h1, h2⟩ := tyV_is I1 r1 ty
  refine ⟨T, id, pa, slot, hty, h1, h2, ?_⟩
  have hA := ha cpos pins s1 σ H1 _ I1 q1
  rw [hs] at hA ⊢
  refine Calls.callWith_builtin (by show (false || (backTo cpos (starEach es X.env)).any (·.1)) = false; rw [hplain] <;> rfl) (Calls.evalArgs_plain ?_)
  exact thn hA fun us s2 ⟨vs, H2, I2, r2, q2⟩ => hm pins s2 σ H2 x vs v us Q I2 r1 r2 q2
end
end L2
namespace L2
open PySem PySem.Spec PyProof.Rows
def MtM (X : Cx) (id : String) (r : V → List V → Hp → VK → Prop) : Prop :=
  ∀ (pins : List (Addr × Obj)) (s : Shared) (σ : St) (H : Hp) (x : V) (xs : List V) (v : Value) (us : List Value) (Q : VK), Inv X pins σ H s → RelV x v → Vals xs us → r x xs H Q →
    wpAny (model X.prog X.w) X.A (call (.builtin id) (v :: us)) (EP X pins σ Q) X.xe s
theorem Vals.one : ∀ {x : V} {us : List Value}, Vals [x] us → ∃ u, us = [u] ∧ RelV x u
  | _, _, .cons r .nil => ⟨_, rfl, r⟩
theorem Vals.zero : ∀ {us : List Value}, Vals [] us → us = []
  | _, .nil => rfl
theorem Vals.eraseIdx : ∀ {xs : List V} {us : List Value} (i : Nat), Vals xs us → Vals (xs.eraseIdx i) (us.eraseIdx i)
  | _, _, _, .nil => .nil
  | _, _, 0, .cons _ t => t
  | _, _, i + 1, .cons r t => .cons r (Vals.eraseIdx i t)
theorem len_erase {α : Type} : ∀ (l : List α) (i : Nat), (l.eraseIdx i).length ≤ l.length
  | [], _ => Nat.le_refl _
  | _ :: _, 0 => Nat.le_succ _
  | _ :: r, i + 1 => Nat.succ_le_succ (len_erase r i)
section
variable {X : Cx} {pins : List (Addr × Obj)} {σ : St} {H : Hp} {s : Shared} {l b : Addr} {xs ys zs : List V}
theorem Inv.lset {its its' : List Value} {n : Nat} {f : Array Value → Array Value} {t' : Nat} (I : Inv X pins σ H s) (hH : H l = some (.lst xs))
    (e : s.heap.get? l = some { cls := .type "list", data := .seq its.toArray n }) (hf : f its.toArray = its'.toArray) (hv : Vals ys its') (hz : ys.length ≤ sizeLine) :
    Inv X pins σ (upd H l (.lst ys)) { s with heap := s.heap.update l (Obj.mapSeq f), toks := t' } := by
  have q := PySem.IsL.update e f
  rw [hf] at q
  refine I.write (x := l) (e := l) (by rw [hH]; exact trivial) (.inl rfl) (fun b' u hb hu => (Heap.get?_update_other s.heap (Obj.mapSeq f) (Ne.symm hb)).trans hu) ⟨_, q⟩ ?_
  exact ⟨hz, its', _, hv, q⟩
theorem Inv.lnew {its : List Value} {t' : Nat} (I : Inv X pins σ H s) (hv : Vals ys its) (hz : ys.length ≤ sizeLine) :
    Inv X pins σ (upd H s.heap.objs.size (.lst ys)) { s with heap := s.heap.push { cls := .type "list", data := .seq its.toArray }, toks := t' } :=
  I.laid (fun _ _ q => Heap.get?_push_of_some _ q) (Nat.le_refl _) ⟨hz, its, 0, hv, Heap.get?_push_size _ rfl⟩
theorem Inv.fresh (I : Inv X pins σ H s) : H s.heap.objs.size = none := I.hok.fresh (Nat.le_refl _)
theorem Inv.lstM (I : Inv X pins σ H s) (hH : H l = some (.lst xs)) : xs.length ≤ sizeLine ∧ ∃ (its : List Value) (n : Nat), Vals xs its ∧ xs.length = its.length ∧ s.heap.get? l = some { cls := .type "list", data := .seq its.toArray n } := by
  obtain ⟨z, its, n, r, e⟩ := I.hok l _ hH
  exact ⟨z, its, n, r, r.length, e⟩
end
section
variable {X : Cx}
def rAppend : V → List V → Hp → VK → Prop := fun x vs H Q => ∃ l xs y, x = .ref l ∧ vs = [y] ∧ H l = some (.lst xs) ∧ xs.length < sizeLine ∧ Q .non (upd H l (.lst (xs ++ [y])))
theorem mt_append : MtM X "list.append" rAppend := by
  intro pins s σ H x vs v us Q I rx rv h
  obtain ⟨l, xs, y, rfl, rfl, hH, hz, q⟩ := h
  cases rx
  obtain ⟨u, rfl, ru⟩ := rv.one
  obtain ⟨z, its, n, r, hl, e⟩ := I.lstM hH
  refine call_meets F.slot_list_append ⟨_, e, rfl⟩ F.entry_list_append (F.args_list_append_2 _ _) (PySem.list_append l its.toArray n u (by rw [List.size_toArray]; omega)) ⟨e, ?_⟩
  refine ⟨.non, _, I.lset (its' := its ++ [u]) hH e (by simp) (r.append (.cons ru .nil)) ?_, rfl, q⟩
  rw [List.length_append, List.length_singleton]
  omega
def rPopAt : V → List V → Hp → VK → Prop := fun x vs H Q => ∃ l xs i k y, x = .ref l ∧ vs = [.int i] ∧ H l = some (.lst xs) ∧ -(2 ^ 63) ≤ i ∧ i < 2 ^ 63 ∧ seqIndex? i xs.length = some k ∧ xs[k]? = some y ∧ Q y (upd H l (.lst (xs.eraseIdx k)))
theorem mt_popAt : MtM X "list.pop" rPopAt := by
  intro pins s σ H x vs v us Q I rx rv h
  obtain ⟨l, xs, i, k, y, rfl, rfl, hH, h1, h2, hk, hy, q⟩ := h
  cases rx
  obtain ⟨u, rfl, ru⟩ := rv.one
  obtain ⟨t, rfl⟩ := ru
  obtain ⟨z, its, n, r, hl, e⟩ := I.lstM hH
  obtain ⟨w, hw, rw'⟩ := r.get hy
  refine call_meets F.slot_list_pop ⟨_, e, rfl⟩ F.entry_list_pop (F.args_list_pop_2 _ _)
    (MeetsSeq.list_pop_at l its.toArray n i t k w (fitsIndex_both h1 h2) (by rw [List.size_toArray, ← hl]; exact hk) (by rw [← Array.getElem?_toList]; exact hw) (by rw [List.size_toArray]; omega)) ⟨e, ?_⟩
  refine ⟨y, _, I.lset (its' := its.eraseIdx k) hH e ?_ (r.eraseIdx k) ?_, rw', q⟩
  · show its.toArray.eraseIdxIfInBounds k = (its.eraseIdx k).toArray
    rw [List.eraseIdxIfInBounds_toArray]
  · have := len_erase xs k
    omega
def rClear : V → List V → Hp → VK → Prop := fun x vs H Q => ∃ l xs, x = .ref l ∧ vs = [] ∧ H l = some (.lst xs) ∧ Q .non (upd H l (.lst []))
theorem mt_clear : MtM X "list.clear" rClear := by
  intro pins s σ H x vs v us Q I rx rv h
  obtain ⟨l, xs, rfl, rfl, hH, q⟩ := h
  cases rx
  have hus := rv.zero
  subst hus
  obtain ⟨z, its, n, r, hl, e⟩ := I.lstM hH
  refine call_meets F.slot_list_clear ⟨_, e, rfl⟩ F.entry_list_clear (F.args_list_clear_1 _) (AutoSeq1.list_clear_list_0 l its.toArray n (by rw [List.size_toArray]; omega)) ⟨e, ?_⟩
  exact ⟨.non, _, I.lset (its' := []) (ys := []) hH e rfl .nil (Nat.zero_le _), rfl, q⟩
end
end L2
namespace Att
open PySem PySem.W PySem.Calls PyProof.Rows
theorem ints_of_wellAll {P : Params} {h : Heap} : ∀ (ns : List Int) (vs : List Value), WellAll P h vs (ns.map WData.int) → IntsAre vs ns := by
  intro ns
  induction ns with
  | nil =>
    intro vs w
    rw [List.map_nil] at w
    cases w
    exact .nil
  | cons n ns ih =>
    intro vs w
    rw [List.map_cons] at w
    cases w with
    | cons a b =>
      cases a
      exact .cons _ _ (ih _ b)
theorem script_of {l : OpenLaw} {n : Nat} (hn : l.most = some n) {P : Params} {h : Heap} {args : List WData} {vals : List Value}
    (hpre : l.row.toRowW.claim.pre args = true) (hwl : WellAll P h vals args) :
    ∃ a vs ns, vals = [Value.ref a] ∧ args = [WData.list (ns.map WData.int)] ∧ h.get? a = some { cls := .type "list", data := .seq vs.toArray } ∧ IntsAre vs ns ∧ ns.length ≤ n := by
  have hsh : WShape.hasAll [] args [.list .int] = true := (pre_splitW hpre).1
  have hc : l.pre.holds [] { args := args } = true := (pre_splitW hpre).2
  obtain ⟨d, r, rfl, h1, h2⟩ := hasAllW_cons hsh
  obtain rfl := hasAllW_nil h2
  obtain ⟨xs, rfl, h3⟩ := hasW_list h1
  obtain ⟨ns, rfl⟩ := items_int h3
  have hlen : ns.length ≤ n := by
    unfold OpenLaw.pre at hc
    have h4 : (WTm.not (.lt (.lit (.int (n : Int))) (.len (.arg 0)))).holds [] { args := [.list (ns.map .int)] } = true := by
      have h4 := (holds_andW hc).1
      rw [hn] at h4
      exact h4
    have h5 := condW_of h4 (w_not (w_lt w_lit (w_len_list (w_arg rfl))))
    rw [List.length_map] at h5
    refine Nat.le_of_not_lt fun q => ?_
    have q' : (n : Int) < ((ns.length : Nat) : Int) := by omega
    first
      | (rw [decide_eq_true q'] at h5; exact absurd h5 (by decide))
      | (simp at h5; omega)
  cases hwl with
  | cons w1 w2 =>
    cases w2
    cases w1 with
    | list ho hall => exact ⟨_, _, ns, rfl, rfl, ho, ints_of_wellAll ns _ hall, hlen⟩
theorem post_true (l : OpenLaw) (args : List WData) : l.row.toRowW.claim.post args (.bool true) args = true :=
  postW_of (r := l.row.toRowW) (X := (true == true))
    (show WShape.has [] (.bool true) .bool = true by first | rfl | decide | simp [WShape.has, WShape.arms, WShape.armsAll])
    (show (WTm.eq .res (.lit (.bool true))).value [] { args := args, res := some (.bool true), after := args } = some (.bool (true == true)) from w_eq_bool (w_res rfl) w_lit) rfl
theorem attach_call {l : OpenLaw} {n : Nat} {q : Program} {loose : List Str} {XP : (Str → Option Value) → Heap → Prop} {YP : World → Heap → Prop} {d : DefRec}
    (hn : l.most = some n) (hdf : d.params.defaults = [])
    (call : ∀ (w : World) (s₀ s₁ : Shared) (mg mb : Str → Option Value) (fa : Addr) (o : Obj) (pm cd doc : Value) (a : Addr) (vs : List Value) (ns : List Int),
      Ground q loose [] XP w s₀ mg mb s₁.heap → YP w s₁.heap →
      s₁.heap.get? fa = some o → o.data = .func (docDef d.name d.params d.body d.scope pm cd doc) → s₁.heap.CodeRec cd d.name → mg d.name = some (.ref fa) →
      s₁.heap.get? a = some { cls := .type "list", data := .seq vs.toArray } → IntsAre vs ns → ns.length ≤ n → s₁.gens = #[] →
      codeAny (model l.prog w) callerA (.call (.ref fa) ⟨[.ref a], []⟩) (fun r s' => r = .ok (.ret (.bool true)) ∧ OldK s₁.heap s'.heap ∧ s'.os = s₁.os ∧ AllBare s'.gens) s₁) :
    WalkO q loose XP YP l.row.toRowW d [] (fun f vs => PySem.call f vs) := by
  intro w s₀ s₁ mg mb G Y fa o pm cd doc dV kV ho hd hcd hD hmg hg args vals as hpre hlay hrd hwl hlo
  obtain rfl : dV = .none := Dflts.none hD hdf
  obtain rfl : kV = .none := Dflts.noKw hD
  obtain ⟨a, vs, ns, rfl, rfl, hobj, hints, hlen⟩ := script_of hn hpre hwl
  refine enter_call (codeAny_mono (call w s₀ s₁ mg mb fa o pm cd doc a vs ns G Y ho (fd_plain hd) hcd hmg hobj hints hlen hg) fun r s' hq => ?_)
  obtain ⟨rfl, h2, h3, h4⟩ := hq
  exact ⟨.inl ⟨.bool true, .bool true, [], rfl, fun _ => rfl, .bool true, post_true l _, fun _ => ⟨List.Pairwise.nil, fun _ hm => (nomatch hm)⟩⟩, h2, h3, h4⟩
end Att
namespace L2
open PySem PySem.Spec PyProof.Rows
theorem vals_ints : ∀ {vs : List Value} {ns : List Int}, IntsAre vs ns → Vals (ns.map V.int) vs
  | _, _, .nil => .nil
  | _, _, .cons n t h => .cons ⟨t, rfl⟩ (vals_ints h)
def Only (H : Hp) : Prop := ∀ b, H b = none ∨ ∃ o xs, H b = some (.frz o (.lst xs))
theorem law_call {P : Program} {w : World} {K : PySem.W.Frag} {mg mb : Str → Option Value} {CX : CXT} {k : Nat} {fa a : Addr} {fd : FuncData} {x : Str} {sp : Sp} {s₁ : Shared} {vs : List Value} {ns : List Int}
    (KX : K.In s₁.heap) (hns : s₁.heap.Ns mainGlobals mg) (hb : s₁.heap.Ns builtinsNs mb) (hbb : ∀ x : Str, x ≠ "__name__" → mb x = bootBuiltins x) (hlim : s₁.heap.NoLimit) (hg : s₁.gens = #[])
    (ha : s₁.heap.get? a = some { cls := .type "list", data := .seq vs.toArray }) (hi : IntsAre vs ns) (hl : ns.length ≤ sizeLine) (hr : Room k callerA)
    (F : ∀ base : Heap, K.In base → base.Ns mainGlobals mg → FnOk P w K mg base CX k fa fd [x] sp) (hbind : ∀ (s : Shared) (u : Value), BindsTo s fd ⟨[u], []⟩ [(x, u)])
    (hsp : ∀ H : Hp, Only H → SqL K H a (ns.map V.int) → sp [.ref a] H (fun v _ => v = .bl true) fun _ _ _ => False)
    (hCX : ∀ H e s', CX [] H s₁ (fun _ _ _ => False) e s' → False) :
    codeAny (model P w) callerA (.call (.ref fa) ⟨[.ref a], []⟩) (fun r s' => r = .ok (.ret (.bool true)) ∧ OldK s₁.heap s'.heap ∧ s'.os = s₁.os ∧ AllBare s'.gens) s₁ := by
  have rv := vals_ints hi
  have lenV := hi.length
  have core : ∀ H : Hp, Only H → SqL K H a (ns.map V.int) → HOk P w H s₁.heap → (∀ b, H b ≠ none → b = a) → (H a ≠ none → K.lookup a = none) →
      codeAny (model P w) callerA (.call (.ref fa) ⟨[.ref a], []⟩) (fun r s' => r = .ok (.ret (.bool true)) ∧ OldK s₁.heap s'.heap ∧ s'.os = s₁.os ∧ AllBare s'.gens) s₁ := by
    intro H hO hS hok hA hK
    have base_of : ∀ {b : Addr} {o : Obj}, s₁.heap.get? b = some o → H b = none → (hidT s₁.heap H).get? b = some o := fun e n => hidT_get e n
    have noA : ∀ {b : Addr} {o : Obj} {es : Array DictEntry} {ep : Nat}, s₁.heap.get? b = some o → o.data = .dict es ep → H b = none := fun {b o es ep} e d => by
      cases q : H b with
      | none => rfl
      | some u =>
        have e' : b = a := hA b (by rw [q]; simp)
        subst e'
        rw [ha] at e; cases e
        have d' : Data.seq vs.toArray _ = Data.dict es ep := d
        cases d'
    have nsK : ∀ {b : Addr} {m : Str → Option Value}, s₁.heap.Ns b m → (hidT s₁.heap H).Ns b m := fun {b m} ⟨o, es, ep, e, d, r⟩ => ⟨o, es, ep, base_of e (noA e d), d, r⟩
    have hKb : K.In (hidT s₁.heap H) := fun b o e => base_of (KX b o e) (by
      cases q : H b with
      | none => rfl
      | some u =>
        have e' : b = a := hA b (by rw [q]; simp)
        subst e'
        rw [hK (by rw [q]; simp)] at e; cases e)
    have hM : Mod K mg (hidT s₁.heap H) := ⟨hKb, nsK hns, ⟨mb, nsK hb, hbb⟩, let ⟨mc, h1, h2⟩ := hlim; ⟨mc, nsK h1, h2⟩⟩
    have e0 : Env0 P w K mg (hidT s₁.heap H) callerA [] s₁ H := ⟨rfl, hM, fun b o e => of_hidT e, Nat.le_of_eq (hidT_size _ _), trivial, fun b hb => absurd (show b ∈ ([] : List Addr) from hb) (by simp), hok, .of_eq hg⟩
    refine codeAny_mono ((F _ hKb (nsK hns)).run callerA [] s₁ H ⟨[.ref a], []⟩ [.ref a] [.ref a] _ _ hr e0 (hbind s₁ (.ref a)) (.cons rfl .nil) (hsp H hO hS)) fun r s' h => ?_
    cases r with
    | error e => exact (hCX H e s' h).elim
    | ok fl =>
      cases fl with
      | next => exact False.elim h
      | brk => exact False.elim h
      | cont => exact False.elim h
      | ret u =>
        obtain ⟨v, H', os, bare, un, hok', r', q⟩ := h
        have q' : v = .bl true := q
        subst q'
        obtain rfl : u = Value.bool true := r'
        refine ⟨rfl, OldK.of_keep fun b o e => ?_, os, bare⟩
        cases q : H b with
        | none => exact un.keep b o e q (by intro z; exact absurd (show b ∈ ([] : List Addr) from z) (by simp)) (by simp)
        | some u =>
          rcases hO b with z | ⟨ob, xs, z⟩
          · rw [q] at z; cases z
          · have z2 := un.frzs b ob _ z
            obtain ⟨e1, _⟩ := hok b _ z
            obtain ⟨e2, _⟩ := hok' b _ z2
            rw [e] at e1; cases e1
            exact e2
  cases hk : K.lookup a with
  | some o =>
    have e := KX a o hk
    rw [ha] at e
    cases e
    refine core (fun _ => none) (fun _ => .inl rfl) (.inr ⟨_, vs.toArray, _, hk, rfl, rfl, rfl, by rw [List.size_toArray, lenV]; exact hl, by simpa using rv⟩) (fun b u z => by have z' : (none : Option HO) = some u := z; cases z') (fun b z => absurd rfl z) fun z => absurd rfl z
  | none =>
    refine core (fun b => if b = a then some (.frz { cls := .type "list", data := .seq vs.toArray } (.lst (ns.map V.int))) else none) (fun b => ?_) (.inl (.inr ⟨{ cls := .type "list", data := .seq vs.toArray }, if_pos rfl⟩)) (fun b u z => ?_) (fun b z => ?_) fun _ => hk
    · by_cases hb : b = a
      · exact .inr ⟨_, _, if_pos hb⟩
      · exact .inl (if_neg hb)
    · by_cases hb : b = a
      · have z' := (if_pos hb).symm.trans z
        cases z'
        subst hb
        exact ⟨ha, by rw [List.length_map]; exact hl, vs, _, rv, ha⟩
      · have z' := (if_neg hb).symm.trans z
        cases z'
    · by_cases hb : b = a
      · exact hb
      · exact absurd (if_neg hb) z
end L2
namespace L2
open PySem PySem.Spec PyProof.Rows
theorem walk_of {l : PySem.W.OpenLaw} {n k : Nat} {q : Program} {loose : List Str} {XP : (Str → Option Value) → Heap → Prop} {YP : World → Heap → Prop} {d : DefRec} {K : Params → PySem.W.Frag} {CX : World → CXT} {sp : World → Sp} {x : Str}
    (hn : l.most = some n) (hn2 : n ≤ sizeLine) (hdf : d.params.defaults = []) (hr : Room k callerA)
    (hY : ∀ (w : World) (h : Heap), YP w h → (K w.params).In h)
    (F : ∀ (w : World) (mg : Str → Option Value) (fa : Addr) (h : Heap), (K w.params).In h → h.Ns mainGlobals mg → mg d.name = some (.ref fa) →
      ∃ fd : FuncData, (∀ (s : Shared) (u : Value), BindsTo s fd ⟨[u], []⟩ [(x, u)]) ∧
        ∀ base : Heap, (K w.params).In base → base.Ns mainGlobals mg → FnOk l.prog w (K w.params) mg base (CX w) k fa fd [x] (sp w))
    (hsp : ∀ (w : World) (H : Hp) (a : Addr) (ns : List Int), ns.length ≤ n → Only H → SqL (K w.params) H a (ns.map V.int) → sp w [.ref a] H (fun v _ => v = .bl true) fun _ _ _ => False)
    (hCX : ∀ (w : World) (H : Hp) (s : Shared) (e : Value) (s' : Shared), CX w [] H s (fun _ _ _ => False) e s' → False) :
    PySem.W.WalkO q loose XP YP l.row.toRowW d [] (fun f vs => PySem.call f vs) := by
  refine Att.attach_call hn hdf fun w s₀ s₁ mg mb fa o pm cd doc a vs ns G Y ho hd hcd hmg hobj hints hlen hg => ?_
  have KX := hY w _ Y
  obtain ⟨fd, hb, hF⟩ := F w mg fa _ KX G.T.g hmg
  exact law_call KX G.T.g G.T.b G.T.builtins G.T.nolimit hg hobj hints (Nat.le_trans hlen hn2) hr hF hb (fun H hO hS => hsp w H a ns hlen hO hS) fun H e s' => hCX w H s₁ e s'
end L2
namespace L2
open PySem PySem.Spec PyProof.Rows
def defArgs (s : Stmt) : Arguments := match s with
  | .FunctionDef _ a _ _ _ _ _ _ _ _ => a
  | _ => { posonlyargs := [], args := [], vararg := none, kwonlyargs := [], kw_defaults := [], kwarg := none, defaults := [] }
def defBody (s : Stmt) : List Stmt := match s with
  | .FunctionDef _ _ b _ _ _ _ _ _ _ => b
  | _ => []
def defScope (s : Stmt) : Scope := match s with
  | .FunctionDef _ _ _ _ _ _ sc _ _ _ => sc
  | _ => { kind := .function, names := [], isGenerator := false, isCoroutine := false }
abbrev CX0 : CXT := fun _ _ _ _ _ _ => False
abbrev E0 : XK := fun _ _ _ => False
theorem pass0 {X : Cx} : Passes CX0 X E0 := fun _ _ _ _ _ _ _ h => h.elim
structure Fun (K : PySem.W.Frag) (x qual : Str) (st : Stmt) (f : Addr) (fd : FuncData) : Prop where
  ex : ∃ (oc : Value) (od : Option Addr) (kV doc pm : Value) (an : Option Addr) (cdv ct : Value) (osl : Array (Option Value)),
    fd = PySem.W.fnOf x qual (defArgs st) (defBody st) (defScope st) .none kV doc pm an cdv ct ∧ K.lookup f = some ⟨oc, od, .func fd, osl⟩ ∧ PySem.W.codeIn K cdv qual = true
  kp : PySem.W.keepIn K (.ref f) = true
section
variable {P : Program} {w : World} {K : PySem.W.Frag} {mg : Str → Option Value} {base : Heap}
theorem Fun.ok {x qual : Str} {st : Stmt} {f : Addr} {fd : FuncData} {N ps : List Str} {k : Nat} {sp : Sp} (F : Fun K x qual st f fd) (S : FnScope N ps (defScope st)) (len : ∀ vs H Q E, sp vs H Q E → vs.length = ps.length)
    (hbody : ∀ (cdv : Value) (A : Around) (outer : List Env) (s : Shared) (H : Hp) (vs : List V) (Q : VK) (E : XK), Room k (A.deeper (envOfC qual (defScope st) s.heap.objs.size f cdv)) → sp vs H Q E →
      ∃ t, PSs (cxOf CX0 P w K mg base N qual (defScope st) f cdv A outer s H E).nox (defBody st) t ∧ t { nx := fun _ H' => Q .non H', rt := Q } (start N vs) H) : FnOk P w K mg base CX0 (k + 1) f fd ps sp := by
  obtain ⟨oc, od, kV, doc, pm, an, cdv, ct, osl, rfl, lk, hcd⟩ := F.ex
  refine fn_of lk hcd S len fun A outer s H vs Q E hr hsp => ?_
  obtain ⟨t, h, q⟩ := hbody cdv A outer s H vs Q E hr hsp
  exact ⟨t, h.nox, q⟩
theorem Fun.binds {x qual : Str} {st : Stmt} {f : Addr} {fd : FuncData} {ps : List Str} (F : Fun K x qual st f fd)
    (h : ∀ (kV doc pm : Value) (an : Option Addr) (cdv ct : Value) (us : List Value), us.length = ps.length → bindArgs (PySem.W.fnOf x qual (defArgs st) (defBody st) (defScope st) .none kV doc pm an cdv ct) ⟨us, []⟩ = pure (ps.zip us)) : Binds K fd ps [] := by
  obtain ⟨oc, od, kV, doc, pm, an, cdv, ct, osl, rfl, lk, hcd⟩ := F.ex
  exact .all (h kV doc pm an cdv ct)
theorem fun_mk {x qual : Str} {st : Stmt} {f : Addr} {oc : Value} {od an : Option Addr} {osl : Array (Option Value)} {kV doc pm cdv ct : Value} (l : K.lookup f = some ⟨oc, od, .func (PySem.W.fnOf x qual (defArgs st) (defBody st) (defScope st) .none kV doc pm an cdv ct), osl⟩)
    (c : PySem.W.codeIn K cdv qual = true) (k : PySem.W.keepIn K (.ref f) = true) : Fun K x qual st f (PySem.W.fnOf x qual (defArgs st) (defBody st) (defScope st) .none kV doc pm an cdv ct) := ⟨⟨oc, od, kV, doc, pm, an, cdv, ct, osl, rfl, l, c⟩, k⟩
end
theorem small1000 {n : Nat} (h : n ≤ 1000) : n < sizeLine := Nat.lt_of_le_of_lt h (by decide)
section
variable {X : Cx}
theorem pv (i : Nat) {x : Str} {pos : Pos} (hN : X.N[i]? = some x := by rfl) (hv : Vis X.env.scope x := by first | exact Or.inl rfl | exact Or.inr (Or.inl rfl) | exact Or.inr (Or.inr rfl)) (hd : (x == ("__debug__" : Str)) = false := by decide)
    (hcd : (x == ("__classdict__" : Str)) = false := by decide) : PE X (.Name x pos) (tVar i) := pe_var hN hv hd hcd
end
theorem iteF {A B : Prop} (h : B) : if false = true then A else B := by
  rw [if_neg Bool.false_ne_true]
  exact h
theorem iteT {A B : Prop} (h : A) : if true = true then A else B := by
  rw [if_pos rfl]
  exact h
def Same (H H' : Hp) : Prop := ∀ b o, H b = some o → H' b = some o
theorem Same.refl (H : Hp) : Same H H := fun _ _ h => h
theorem Same.trans {H H1 H2 : Hp} (a : Same H H1) (b : Same H1 H2) : Same H H2 := fun c o h => b c o (a c o h)
theorem Same.free {H H' : Hp} (e : Same H H') {l : Addr} (h : H' l = Option.none) : H l = Option.none := by
  cases q : H l with
  | none => rfl
  | some o =>
    rw [e l o q] at h
    cases h
theorem Same.seq {K : PySem.W.Frag} {H H' : Hp} {a : Addr} {xs : List V} (e : Same H H') (h : SqL K H a xs) : SqL K H' a xs := by
  rcases h with (h | ⟨o, h⟩) | h
  · exact .inl (.inl (e _ _ h))
  · exact .inl (.inr ⟨o, e _ _ h⟩)
  · exact .inr h
end L2
set_option Elab.async false
set_option linter.all false
set_option maxRecDepth 100000
namespace L2
open PySem PySem.Spec PyProof.Rows
inductive D where
  | non | bl (b : Bool) | int (i : Int) | str (x : Str) | tup (ds : List D) | lst (ds : List D)
  | scr (ds : List D)
def SqR (K : PySem.W.Frag) (H : Hp) (a : Addr) (xs : List V) : Prop :=
  (∃ o, H a = some (.frz o (.lst xs))) ∨
    ∃ (o : Obj) (its : Array Value) (n : Nat), K.lookup a = some o ∧ o.cls = .type "list" ∧ o.dict = none ∧ o.data = .seq its n ∧ its.size ≤ sizeLine ∧ Vals xs its.toList
theorem SqR.seq {K : PySem.W.Frag} {H : Hp} {a : Addr} {xs : List V} (h : SqR K H a xs) : SqL K H a xs := h.elim (fun h => .inl (.inr h)) .inr
theorem Same.seqR {K : PySem.W.Frag} {H H' : Hp} {a : Addr} {xs : List V} (e : Same H H') (h : SqR K H a xs) : SqR K H' a xs := h.elim (fun ⟨o, h⟩ => .inl ⟨o, e _ _ h⟩) .inr
mutual
inductive Rep (K : PySem.W.Frag) (F : Hp) : V → D → Prop
  | non : Rep K F .non .non
  | bl {b : Bool} : Rep K F (.bl b) (.bl b)
  | int {i : Int} : Rep K F (.int i) (.int i)
  | str {x : Str} : Rep K F (.str x) (.str x)
  | tup {a : Addr} {xs : List V} {ds : List D} : SqT K F a xs → Reps K F xs ds → Rep K F (.ref a) (.tup ds)
  | lst {a : Addr} {xs : List V} {ds : List D} : F a = some (.lst xs) → Reps K F xs ds → Rep K F (.ref a) (.lst ds)
  | scr {a : Addr} {xs : List V} {ds : List D} : SqR K F a xs → Reps K F xs ds → Rep K F (.ref a) (.scr ds)
inductive Reps (K : PySem.W.Frag) (F : Hp) : List V → List D → Prop
  | nil : Reps K F [] []
  | cons {x : V} {d : D} {xs : List V} {ds : List D} : Rep K F x d → Reps K F xs ds → Reps K F (x :: xs) (d :: ds)
end
theorem Same.seqT {K : PySem.W.Frag} {H H' : Hp} {a : Addr} {xs : List V} (e : Same H H') (h : SqT K H a xs) : SqT K H' a xs := by
  rcases h with (h | ⟨o, h⟩) | h
  · exact .inl (.inl (e _ _ h))
  · exact .inl (.inr ⟨o, e _ _ h⟩)
  · exact .inr h
mutual
theorem Rep.mono {K : PySem.W.Frag} {F G : Hp} (s : Same F G) : ∀ {v : V} {d : D}, Rep K F v d → Rep K G v d
  | _, _, .non => .non
  | _, _, .bl => .bl
  | _, _, .int => .int
  | _, _, .str => .str
  | _, _, .tup h r => .tup (Same.seqT s h) (Reps.mono s r)
  | _, _, .lst h r => .lst (s _ _ h) (Reps.mono s r)
  | _, _, .scr h r => .scr (Same.seqR s h) (Reps.mono s r)
theorem Reps.mono {K : PySem.W.Frag} {F G : Hp} (s : Same F G) : ∀ {v : List V} {d : List D}, Reps K F v d → Reps K G v d
  | _, _, .nil => .nil
  | _, _, .cons r t => .cons (Rep.mono s r) (Reps.mono s t)
end
section
variable {K : PySem.W.Frag} {F G H : Hp}
theorem Reps.length : ∀ {xs : List V} {ds : List D}, Reps K F xs ds → xs.length = ds.length
  | _, _, .nil => rfl
  | _, _, .cons _ t => by simp [t.length]
theorem Reps.get : ∀ {xs : List V} {ds : List D} {i : Nat} {d : D}, Reps K F xs ds → ds[i]? = some d → ∃ x, xs[i]? = some x ∧ Rep K F x d
  | _, _, _, _, .nil, e => by simp at e
  | _, _, 0, _, .cons r _, e => by simp at e; subst e; exact ⟨_, rfl, r⟩
  | _, _, i + 1, d, .cons _ t, e => by
    obtain ⟨u, h1, h2⟩ := Reps.get (i := i) (d := d) t (by simpa using e)
    exact ⟨u, by simpa using h1, h2⟩
theorem Reps.get' {xs : List V} {ds : List D} {i : Nat} {x : V} (r : Reps K F xs ds) (e : xs[i]? = some x) : ∃ d, ds[i]? = some d ∧ Rep K F x d := by
  have hl := r.length
  have hi := (List.getElem?_eq_some_iff.mp e).1
  have e2 : ds[i]? = some ds[i] := List.getElem?_eq_getElem (by omega)
  obtain ⟨y, h1, h2⟩ := r.get e2
  rw [e] at h1; cases h1
  exact ⟨_, e2, h2⟩
theorem Reps.append : ∀ {xs ys : List V} {us ws : List D}, Reps K F xs us → Reps K F ys ws → Reps K F (xs ++ ys) (us ++ ws)
  | _, _, _, _, .nil, s => s
  | _, _, _, _, .cons r t, s => .cons r (Reps.append t s)
theorem Reps.set {x : V} {u : D} (r : Rep K F x u) : ∀ {xs : List V} {us : List D} (i : Nat), Reps K F xs us → Reps K F (xs.set i x) (us.set i u)
  | _, _, _, .nil => .nil
  | _, _, 0, .cons _ t => .cons r t
  | _, _, i + 1, .cons q t => .cons q (Reps.set r i t)
theorem Reps.eraseIdx : ∀ {xs : List V} {us : List D} (i : Nat), Reps K F xs us → Reps K F (xs.eraseIdx i) (us.eraseIdx i)
  | _, _, _, .nil => .nil
  | _, _, 0, .cons _ t => t
  | _, _, i + 1, .cons q t => .cons q (Reps.eraseIdx i t)
end
abbrev Hid := Addr → Bool
def vw (H : Hp) (hid : Hid) : Hp := fun b => if hid b = true then none else H b
def hadd (hid : Hid) (a : Addr) : Hid := fun b => hid b || decide (b = a)
theorem vw_some {H : Hp} {hid : Hid} {b : Addr} {o : HO} : vw H hid b = some o ↔ hid b = false ∧ H b = some o := by
  unfold vw
  cases hb : hid b <;> simp
theorem vw_le (H : Hp) (hid : Hid) : Same (vw H hid) H := fun b o h => (vw_some.mp h).2
theorem vw_same {H H' : Hp} {hid : Hid} (s : Same H H') : Same (vw H hid) (vw H' hid) := fun b o h => vw_some.mpr ⟨(vw_some.mp h).1, s _ _ (vw_some.mp h).2⟩
theorem vw_keep {H H' : Hp} {hid : Hid} (s : ∀ b o, H b = some o → hid b = false → H' b = some o) : Same (vw H hid) (vw H' hid) := fun b o h => vw_some.mpr ⟨(vw_some.mp h).1, s _ _ (vw_some.mp h).2 (vw_some.mp h).1⟩
theorem vw_upd {H : Hp} {hid : Hid} {a : Addr} {o : HO} (h : hid a = true) : vw (upd H a o) hid = vw H hid := by
  funext b
  unfold vw upd
  by_cases e : b = a
  · subst e; simp [h]
  · simp [e]
theorem vw_less {H : Hp} {hid hid' : Hid} (h : ∀ b, hid' b = true → hid b = true) : Same (vw H hid) (vw H hid') := fun b o q => by
  obtain ⟨q1, q2⟩ := vw_some.mp q
  refine vw_some.mpr ⟨?_, q2⟩
  cases e : hid' b with
  | false => rfl
  | true => rw [h b e] at q1; cases q1
theorem vw_new {H : Hp} {hid : Hid} {a : Addr} {o : HO} (h : H a = none) : vw (upd H a o) (hadd hid a) = vw H hid := by
  funext b
  unfold vw upd hadd
  by_cases e : b = a
  · subst e
    cases hb : hid b <;> simp [h]
  · simp [e]
inductive Ob where
  | exc (x : Str) (n : Int)
  | dK (kvs : List (Key × D))
  | dT (kvs : List (List Key × D))
  | set (ds : List D)
  | old (d : D)
  | jnk
  | tset (ks : List (List Int))
  | dF (kvs : List (List Key × D))
inductive Sl where
  | no
  | v (d : D)
  | own (ds : List D)
  | arg (ds : List D)
  | ob (b : Ob)
abbrev Rho := List Sl
structure Ct where
  H₀ : Hp
  hid₀ : Hid
  mu : Addr → Bool
def ExcAt (K : PySem.W.Frag) (x : Str) (n : Int) (a : Addr) (h : Heap) : Prop := ∃ C o, PySem.W.nsIn K mainGlobals x = some (some (.ref C)) ∧ h.get? a = some o ∧ o.cls = .ref C ∧ o.dict = none ∧ PySem.W.notCls o = true
def isLO : Option HO → Bool
  | some (.lst _) => true
  | _ => false
def fv (c : Ct) (F : Hp) : Hp := fun b => if (c.H₀ b).isSome = true ∧ isLO (F b) = true then none else F b
def ov (c : Ct) (F : Hp) : Hp := fun b => if (c.H₀ b).isSome = true then F b else none
theorem fv_some {c : Ct} {F : Hp} {b : Addr} {o : HO} : fv c F b = some o ↔ (isLO (some o) = true → c.H₀ b = none) ∧ F b = some o := by
  unfold fv
  constructor
  · intro h
    split at h
    · cases h
    · rename_i hn
      refine ⟨fun q => ?_, h⟩
      rw [h] at hn
      cases hb : c.H₀ b with
      | none => rfl
      | some u => exact absurd ⟨by rw [hb]; rfl, q⟩ hn
  · rintro ⟨h1, h2⟩
    rw [if_neg, h2]
    rintro ⟨q1, q2⟩
    rw [h2] at q2
    rw [h1 q2] at q1; cases q1
theorem ov_some {c : Ct} {F : Hp} {b : Addr} {o : HO} : ov c F b = some o ↔ (∃ u, c.H₀ b = some u) ∧ F b = some o := by
  unfold ov
  cases hb : c.H₀ b <;> simp
theorem fv_same {c : Ct} {F G : Hp} (s : Same F G) : Same (fv c F) (fv c G) := fun b o h => fv_some.mpr ⟨(fv_some.mp h).1, s _ _ (fv_some.mp h).2⟩
theorem ov_same {c : Ct} {F G : Hp} (s : Same F G) : Same (ov c F) (ov c G) := fun b o h => ov_some.mpr ⟨(ov_some.mp h).1, s _ _ (ov_some.mp h).2⟩
def ObOk (K : PySem.W.Frag) (c : Ct) (hid : Hid) (H : Hp) (a : Addr) : Ob → Prop
  | .exc x n => ∃ φ, vw H hid a = some (.ext φ) ∧ ∀ h, φ h → ExcAt K x n a h
  | .dK kvs => (hid a = true ∧ c.H₀ a = none) ∧ ∃ us : List (Key × V), H a = some (.dK us) ∧ us.map (·.1) = kvs.map (·.1) ∧ Reps K (vw H hid) (us.map (·.2)) (kvs.map (·.2))
  | .dT kvs => (hid a = true ∧ c.H₀ a = none) ∧ ∃ us : List (List Key × V), H a = some (.dT us) ∧ us.map (·.1) = kvs.map (·.1) ∧ Reps K (vw H hid) (us.map (·.2)) (kvs.map (·.2))
  | .set ds => (hid a = true ∧ c.H₀ a = none) ∧ ∃ xs : List V, H a = some (.lst xs) ∧ Reps K (fv c (vw H hid)) xs ds
  | .old d => Rep K (ov c (vw H hid)) (.ref a) d
  | .jnk => (hid a = true ∧ c.H₀ a = none) ∧ ∃ xs : List V, H a = some (.lst xs)
  | .tset ks => (hid a = true ∧ c.H₀ a = none) ∧ ∃ xs : List (List Int × Addr), H a = some (.tst xs) ∧ (xs.map (·.1)).Perm ks ∧ Reps K (vw H hid) (xs.map fun x => V.ref x.2) (xs.map fun x => D.tup (x.1.map D.int))
  | .dF kvs => (hid a = true ∧ c.H₀ a = none) ∧ ∃ (o : Obj) (us : List (List Key × V)), H a = some (.frz o (.dT us)) ∧ us.map (·.1) = kvs.map (·.1) ∧ Reps K (vw H hid) (us.map (·.2)) (kvs.map (·.2))
def ObOw : Ob → Prop
  | .exc _ _ => False
  | .old _ => False
  | _ => True
theorem ObOk.mono {K : PySem.W.Frag} {c : Ct} {hid hid' : Hid} {H H' : Hp} {a : Addr} {b : Ob} (h : ObOk K c hid H a b) (k : ObOw b → ∀ o, H a = some o → H' a = some o) (s : Same (vw H hid) (vw H' hid')) (w : ObOw b → hid a = true → hid' a = true) : ObOk K c hid' H' a b := by
  cases b with
  | exc x n => obtain ⟨φ, h1, h2⟩ := h; exact ⟨φ, s _ _ h1, h2⟩
  | dK kvs => obtain ⟨h1, us, h2, h3, h4⟩ := h; exact ⟨⟨w trivial h1.1, h1.2⟩, us, k trivial _ h2, h3, h4.mono s⟩
  | dT kvs => obtain ⟨h1, us, h2, h3, h4⟩ := h; exact ⟨⟨w trivial h1.1, h1.2⟩, us, k trivial _ h2, h3, h4.mono s⟩
  | set ds => obtain ⟨h1, us, h2, h3⟩ := h; exact ⟨⟨w trivial h1.1, h1.2⟩, us, k trivial _ h2, h3.mono (fv_same s)⟩
  | old d => exact Rep.mono (ov_same s) h
  | jnk => obtain ⟨h1, us, h2⟩ := h; exact ⟨⟨w trivial h1.1, h1.2⟩, us, k trivial _ h2⟩
  | tset ks => obtain ⟨h1, us, h2, h3, h4⟩ := h; exact ⟨⟨w trivial h1.1, h1.2⟩, us, k trivial _ h2, h3, h4.mono s⟩
  | dF kvs => obtain ⟨h1, o, us, h2, h3, h4⟩ := h; exact ⟨⟨w trivial h1.1, h1.2⟩, o, us, k trivial _ h2, h3, h4.mono s⟩
theorem ObOk.hid {K : PySem.W.Frag} {c : Ct} {hid : Hid} {H : Hp} {a : Addr} {b : Ob} (h : ObOk K c hid H a b) (o : ObOw b) : hid a = true := by
  cases b with
  | exc x n => exact o.elim
  | dK kvs => exact h.1.1
  | dT kvs => exact h.1.1
  | set ds => exact h.1.1
  | old d => exact o.elim
  | jnk => exact h.1.1
  | tset ks => exact h.1.1
  | dF kvs => exact h.1.1
def SlOk (K : PySem.W.Frag) (c : Ct) (hid : Hid) (σ : St) (H : Hp) (i : Nat) : Sl → Prop
  | .no => True
  | .v d => ∃ x, σ[i]? = some (some x) ∧ Rep K (vw H hid) x d
  | .own ds => ∃ a xs, σ[i]? = some (some (.ref a)) ∧ H a = some (.lst xs) ∧ hid a = true ∧ c.H₀ a = none ∧ Reps K (vw H hid) xs ds
  | .arg ds => ∃ a xs, σ[i]? = some (some (.ref a)) ∧ H a = some (.lst xs) ∧ hid a = true ∧ c.mu a = true ∧ Reps K (vw H hid) xs ds
  | .ob b => ∃ a, σ[i]? = some (some (.ref a)) ∧ ObOk K c hid H a b
def Ow : Option Sl → Prop
  | some (.own _) => True
  | some (.arg _) => True
  | some (.ob b) => ObOw b
  | _ => False
structure SR (K : PySem.W.Frag) (c : Ct) (hid : Hid) (ρ : Rho) (σ : St) (H : Hp) : Prop where
  tr : ∀ b, hid b = true → ∃ o, H b = some o
  ht : ∀ b xs, hid b = true → H b ≠ some (.tup xs)
  h0 : ∀ b, c.hid₀ b = true → hid b = true
  kp : ∀ b o, c.H₀ b = some o → c.mu b = false → H b = some o
  t0 : ∀ b o, c.H₀ b = some o → ∃ o', H b = some o'
  c0 : ∀ b, c.hid₀ b = true → ∃ o, c.H₀ b = some o
  m0 : ∀ b, c.mu b = true → c.hid₀ b = true
  len : σ.length = ρ.length
  sl : ∀ (i : Nat) (s : Sl), ρ[i]? = some s → SlOk K c hid σ H i s
  ap : ∀ (i j : Nat) (a : Addr), i ≠ j → Ow ρ[i]? → Ow ρ[j]? → σ[i]? = some (some (.ref a)) → σ[j]? = some (some (.ref a)) → False
section
variable {K : PySem.W.Frag} {c : Ct} {hid : Hid} {ρ : Rho} {σ : St} {H H' : Hp} {i : Nat}
theorem SlOk.ext {s : Sl} (h : SlOk K c hid σ H i s) (e : Same H H') : SlOk K c hid σ H' i s := by
  cases s with
  | no => trivial
  | v d => obtain ⟨x, h1, h2⟩ := h; exact ⟨x, h1, h2.mono (vw_same e)⟩
  | own ds => obtain ⟨a, xs, h1, h2, h3, h4, h5⟩ := h; exact ⟨a, xs, h1, e _ _ h2, h3, h4, h5.mono (vw_same e)⟩
  | arg ds => obtain ⟨a, xs, h1, h2, h3, h4, h5⟩ := h; exact ⟨a, xs, h1, e _ _ h2, h3, h4, h5.mono (vw_same e)⟩
  | ob b => obtain ⟨a, h1, h2⟩ := h; exact ⟨a, h1, h2.mono (fun _ => e a) (vw_same e) fun _ q => q⟩
theorem SR.ext (h : SR K c hid ρ σ H) (e : Same H H') : SR K c hid ρ σ H' where
  tr := fun b hb => let ⟨o, q⟩ := h.tr b hb; ⟨o, e _ _ q⟩
  ht := fun b xs hb q => let ⟨o, w⟩ := h.tr b hb; by have z := e _ _ w; rw [q] at z; cases z; exact h.ht b xs hb w
  h0 := h.h0
  kp := fun b o q m => e _ _ (h.kp b o q m)
  t0 := fun b o q => let ⟨o', q'⟩ := h.t0 b o q; ⟨o', e _ _ q'⟩
  c0 := h.c0
  m0 := h.m0
  len := h.len
  sl := fun i s q => (h.sl i s q).ext e
  ap := h.ap
def Trk (hid : Hid) (H : Hp) : Prop := (∀ b, hid b = true → ∃ o, H b = some o) ∧ ∀ b xs, hid b = true → H b ≠ some (.tup xs)
theorem SR.trk (h : SR K c hid ρ σ H) : Trk hid H := ⟨h.tr, h.ht⟩
theorem SR.fresh (h : SR K c hid ρ σ H) {a : Addr} (n : H a = none) : hid a = false := by
  cases e : hid a with
  | false => rfl
  | true => obtain ⟨o, q⟩ := h.tr a e; rw [n] at q; cases q
theorem SR.fresh0 (h : SR K c hid ρ σ H) {a : Addr} (n : H a = none) : c.H₀ a = none := by
  cases e : c.H₀ a with
  | none => rfl
  | some o => obtain ⟨o', q⟩ := h.t0 a o e; rw [n] at q; cases q
end
inductive Kd where
  | b | s | n
  deriving DecidableEq
def Rep1 (K : PySem.W.Frag) (H W : Hp) (v : V) (d : D) : Prop := Rep K W v d ∨ ∃ a xs ds, v = .ref a ∧ d = .lst ds ∧ H a = some (.lst xs) ∧ Reps K W xs ds
def RN (K : PySem.W.Frag) (H H' : Hp) (hid : Hid) (v : V) (d : D) : Prop := ∃ a xs ds, d = .lst ds ∧ v = .ref a ∧ H a = none ∧ H' a = some (.lst xs) ∧ Reps K (vw H' (hadd hid a)) xs ds
def RK (K : PySem.W.Frag) (k : Kd) (H H' : Hp) (hid : Hid) (v : V) (d : D) : Prop := match k with
  | .b => Rep1 K H' (vw H' hid) v d
  | .s => Rep K (vw H' hid) v d
  | .n => RN K H H' hid v d
section
variable {K : PySem.W.Frag} {c : Ct} {hid : Hid} {ρ : Rho} {σ : St} {H H' H'' : Hp} {i : Nat} {v : V} {d : D}
theorem RN.rep (h : RN K H H' hid v d) (hf : ∀ a, H a = none → hid a = false) : Rep K (vw H' hid) v d := by
  obtain ⟨a, xs, ds, rfl, rfl, h1, h2, h3⟩ := h
  refine .lst (vw_some.mpr ⟨hf a h1, h2⟩) (h3.mono (vw_less fun b q => ?_))
  unfold hadd; rw [q]; rfl
theorem RK.b (k : Kd) (h : RK K k H H' hid v d) (hf : ∀ a, H a = none → hid a = false) : Rep1 K H' (vw H' hid) v d := by
  cases k with
  | b => exact h
  | s => exact .inl h
  | n => exact .inl (RN.rep h hf)
theorem Rep1.ext {hid : Hid} (h : Rep1 K H (vw H hid) v d) (e : Same H H') : Rep1 K H' (vw H' hid) v d := by
  rcases h with h | ⟨a, xs, ds, h1, h2, h3, h4⟩
  · exact .inl (h.mono (vw_same e))
  · exact .inr ⟨a, xs, ds, h1, h2, e _ _ h3, h4.mono (vw_same e)⟩
theorem Rep1.int {i : Int} (h : Rep1 K H (vw H hid) v (.int i)) : v = .int i := by
  rcases h with h | ⟨a, xs, ds, h1, h2, _⟩
  · cases h; rfl
  · cases h2
theorem Rep1.bl {i : Bool} (h : Rep1 K H (vw H hid) v (.bl i)) : v = .bl i := by
  rcases h with h | ⟨a, xs, ds, h1, h2, _⟩
  · cases h; rfl
  · cases h2
theorem Rep1.str {i : Str} (h : Rep1 K H (vw H hid) v (.str i)) : v = .str i := by
  rcases h with h | ⟨a, xs, ds, h1, h2, _⟩
  · cases h; rfl
  · cases h2
theorem Rep1.non (h : Rep1 K H (vw H hid) v .non) : v = .non := by
  rcases h with h | ⟨a, xs, ds, h1, h2, _⟩
  · cases h; rfl
  · cases h2
theorem Rep1.tup {ds : List D} (h : Rep1 K H (vw H hid) v (.tup ds)) : ∃ a xs, v = .ref a ∧ SqT K (vw H hid) a xs ∧ SqT K H a xs ∧ Reps K (vw H hid) xs ds := by
  rcases h with h | ⟨a, xs, ds, h1, h2, _⟩
  · cases h with
    | tup q r => exact ⟨_, _, rfl, q, Same.seqT (vw_le _ _) q, r⟩
  · cases h2
theorem Rep1.lst {ds : List D} (h : Rep1 K H (vw H hid) v (.lst ds)) : ∃ a xs, v = .ref a ∧ SqL K H a xs ∧ Reps K (vw H hid) xs ds := by
  rcases h with h | ⟨a, xs, ds, h1, h2, h3, h4⟩
  · cases h with
    | lst q r => exact ⟨_, _, rfl, SqL.of (vw_le _ _ _ _ q), r⟩
  · cases h2
    exact ⟨a, xs, h1, SqL.of h3, h4⟩
theorem Rep1.scr {ds : List D} (h : Rep1 K H (vw H hid) v (.scr ds)) : ∃ a xs, v = .ref a ∧ SqL K H a xs ∧ Reps K (vw H hid) xs ds := by
  rcases h with h | ⟨a, xs, ds, h1, h2, h3, h4⟩
  · cases h with
    | scr q r => exact ⟨_, _, rfl, (vw_le _ _).seq q.seq, r⟩
  · cases h2
end
theorem PE.imp {X : Cx} {e : Expr} {t t' : TE} (h : PE X e t) (i : ∀ σ H Q, t' σ H Q → t σ H Q) : PE X e t' := fun pins s σ H Q I q => h pins s σ H Q I (i σ H Q q)
theorem PT.imp {X : Cx} {e : Expr} {t t' : TT} (h : PT X e t) (i : ∀ σ H Q, t' σ H Q → t σ H Q) : PT X e t' := fun pins s σ H Q I q => h pins s σ H Q I (i σ H Q q)
theorem PW.imp {X : Cx} {e : Expr} {t t' : TT} (h : PW X e t) (i : ∀ σ H Q, t' σ H Q → t σ H Q) : PW X e t' := fun wh pins s σ H Q I q => h wh pins s σ H Q I (i σ H Q q)
theorem PA.imp {X : Cx} {e : List Expr} {t t' : TA} (h : PA X e t) (i : ∀ σ H Q, t' σ H Q → t σ H Q) : PA X e t' := fun p pins s σ H Q I q => h p pins s σ H Q I (i σ H Q q)
theorem PS.imp {X : Cx} {e : Stmt} {t t' : TS} (h : PS X e t) (i : ∀ D σ H, t' D σ H → t D σ H) : PS X e t' := fun pins s σ H D I q => h pins s σ H D I (i D σ H q)
theorem PSs.imp {X : Cx} {e : List Stmt} {t t' : TS} (h : PSs X e t) (i : ∀ D σ H, t' D σ H → t D σ H) : PSs X e t' := fun pins s σ H D I q => h pins s σ H D I (i D σ H q)
abbrev FE := Rho → Option D
abbrev FT := Rho → Option Bool
abbrev FA := Rho → Option (List D)
def rdP (K : PySem.W.Frag) (c : Ct) (hid : Hid) (k : Kd) (f : FE) (ρ : Rho) : TE := fun σ H Q => SR K c hid ρ σ H ∧ ∃ d, f ρ = some d ∧ ∀ v H', Same H H' → RK K k H H' hid v d → Q v H'
def rdT (K : PySem.W.Frag) (c : Ct) (hid : Hid) (f : FT) (ρ : Rho) : TT := fun σ H Q => SR K c hid ρ σ H ∧ ∃ d, f ρ = some d ∧ ∀ H', Same H H' → Q d H'
def rdA (K : PySem.W.Frag) (c : Ct) (hid : Hid) (f : FA) (ρ : Rho) : TA := fun σ H Q => SR K c hid ρ σ H ∧ ∃ d, f ρ = some d ∧ ∀ vs H', Same H H' → Reps K (vw H' hid) vs d → Q vs H'
def DP (X : Cx) (c : Ct) (k : Kd) (e : Expr) (f : FE) : Prop := ∀ hid ρ, PE X e (rdP X.K c hid k f ρ)
def DT (X : Cx) (c : Ct) (e : Expr) (f : FT) : Prop := ∀ hid ρ, PT X e (rdT X.K c hid f ρ)
def DW (X : Cx) (c : Ct) (e : Expr) (f : FT) : Prop := ∀ hid ρ, PW X e (rdT X.K c hid f ρ)
def DA (X : Cx) (c : Ct) (es : List Expr) (f : FA) : Prop := ∀ hid ρ, PA X es (rdA X.K c hid f ρ)
section
variable {X : Cx} {c : Ct} {e a b : Expr} {es : List Expr} {f g : FE} {k : Kd} {pos : Pos}
theorem DP.toS (h : DP X c .n e f) : DP X c .s e f := fun hid ρ => PE.imp (h hid ρ) fun σ H Q ⟨sr, d, hd, q⟩ => ⟨sr, d, hd, fun v H' s r => q v H' s (RN.rep r fun a n => sr.fresh n)⟩
def nmF (i : Nat) : FE := fun ρ => match ρ[i]? with
  | some (.v d) => some d
  | _ => none
def nbF (i : Nat) : FE := fun ρ => match ρ[i]? with
  | some (.v d) => some d
  | some (.own ds) => some (.lst ds)
  | some (.arg ds) => some (.lst ds)
  | _ => none
theorem dp_nm (i : Nat) {x : Str} (hN : X.N[i]? = some x := by rfl) (hv : Vis X.env.scope x := by first | exact Or.inl rfl | exact Or.inr (Or.inl rfl) | exact Or.inr (Or.inr rfl)) (hd : (x == ("__debug__" : Str)) = false := by decide)
    (hcd : (x == ("__classdict__" : Str)) = false := by decide) : DP X c .s (.Name x pos) (nmF i) := fun hid ρ => PE.imp (pv i hN hv hd hcd) fun σ H Q hq_ => by
  obtain ⟨sr, d, hd, q⟩ := hq_
  unfold nmF at hd
  split at hd
  · rename_i d' e'
    cases hd
    obtain ⟨x, h1, h2⟩ := sr.sl i _ e'
    exact ⟨x, h1, q x H (Same.refl _) h2⟩
  · cases hd
theorem dp_nb (i : Nat) {x : Str} (hN : X.N[i]? = some x := by rfl) (hv : Vis X.env.scope x := by first | exact Or.inl rfl | exact Or.inr (Or.inl rfl) | exact Or.inr (Or.inr rfl)) (hd : (x == ("__debug__" : Str)) = false := by decide)
    (hcd : (x == ("__classdict__" : Str)) = false := by decide) : DP X c .b (.Name x pos) (nbF i) := fun hid ρ => PE.imp (pv i hN hv hd hcd) fun σ H Q hq_ => by
  obtain ⟨sr, d, hd, q⟩ := hq_
  unfold nbF at hd
  split at hd
  · rename_i d' e'
    cases hd
    obtain ⟨x, h1, h2⟩ := sr.sl i _ e'
    exact ⟨x, h1, q x H (Same.refl _) (.inl h2)⟩
  · rename_i d' e'
    cases hd
    obtain ⟨a, xs, h1, h2, h3, h4, h5⟩ := sr.sl i _ e'
    exact ⟨_, h1, q _ H (Same.refl _) (.inr ⟨a, xs, _, rfl, rfl, h2, h5⟩)⟩
  · rename_i d' e'
    cases hd
    obtain ⟨a, xs, h1, h2, h3, h4, h5⟩ := sr.sl i _ e'
    exact ⟨_, h1, q _ H (Same.refl _) (.inr ⟨a, xs, _, rfl, rfl, h2, h5⟩)⟩
  · cases hd
def cst (d : D) : FE := fun _ => some d
theorem dp_int {i : Int} {j pos} : DP X c .s (.Constant (.int i) j pos) (cst (.int i)) := fun hid ρ => PE.imp pe_int fun σ H Q hq_ => by
  obtain ⟨sr, d, hd, q⟩ := hq_
  cases hd; exact q _ H (Same.refl _) .int
theorem dp_bl {i : Bool} {j pos} : DP X c .s (.Constant (.bool i) j pos) (cst (.bl i)) := fun hid ρ => PE.imp pe_bl fun σ H Q hq_ => by
  obtain ⟨sr, d, hd, q⟩ := hq_
  cases hd; exact q _ H (Same.refl _) .bl
theorem dp_non {j pos} : DP X c .s (.Constant .none j pos) (cst .non) := fun hid ρ => PE.imp pe_non fun σ H Q hq_ => by
  obtain ⟨sr, d, hd, q⟩ := hq_
  cases hd; exact q _ H (Same.refl _) .non
def op2 (F : D → D → Option D) (f g : FE) : FE := fun ρ => (f ρ).bind fun x => (g ρ).bind fun y => F x y
theorem op2_some {F : D → D → Option D} {ρ : Rho} {d : D} (h : op2 F f g ρ = some d) : ∃ x y, f ρ = some x ∧ g ρ = some y ∧ F x y = some d := by
  unfold op2 at h
  cases e1 : f ρ with
  | none => rw [e1] at h; cases h
  | some x =>
    cases e2 : g ρ with
    | none => rw [e1, e2] at h; cases h
    | some y => rw [e1, e2] at h; exact ⟨x, y, rfl, rfl, h⟩
def OpD (K : PySem.W.Frag) (k : Kd) (r : R2) (F : D → D → Option D) : Prop := ∀ (H : Hp) (hid : Hid) (v u : V) (x y d : D) (Q : VK), (∀ a, H a = none → hid a = false) → F x y = some d → Rep1 K H (vw H hid) v x → Rep1 K H (vw H hid) u y →
  (∀ w H', Same H H' → RK K k H H' hid w d → Q w H') → r v u H Q
theorem RK.left {K : PySem.W.Frag} {H H1 H' : Hp} {hid : Hid} {v : V} {d : D} (s : Same H H1) (h : RK K k H1 H' hid v d) : RK K k H H' hid v d := by
  cases k with
  | b => exact h
  | s => exact h
  | n =>
    obtain ⟨a, xs, ds, h1, h2, h3, h4⟩ := h
    exact ⟨a, xs, ds, h1, h2, s.free h3, h4⟩
theorem rd2 {r : R2} {F : D → D → Option D} {k1 k2 : Kd} {hid : Hid} {ρ : Rho} (hF : OpD X.K k r F) {σ : St} {H : Hp} {Q : VK} (h : rdP X.K c hid k (op2 F f g) ρ σ H Q) : tOp r (rdP X.K c hid k1 f ρ) (rdP X.K c hid k2 g ρ) σ H Q := by
  obtain ⟨sr, d, hd, q⟩ := h
  obtain ⟨x, y, e1, e2, e3⟩ := op2_some hd
  refine ⟨sr, x, e1, fun v H1 s1 r1 => ⟨sr.ext s1, y, e2, fun u H2 s2 r2 => ?_⟩⟩
  have b1 := (RK.b k1 r1 fun a n => sr.fresh n).ext s2
  have b2 := RK.b k2 r2 fun a n => (sr.ext s1).fresh n
  exact hF H2 hid v u x y d Q (fun a n => ((sr.ext s1).ext s2).fresh n) e3 b1 b2 fun w H' s3 r3 => q w H' ((s1.trans s2).trans s3) (RK.left (s1.trans s2) r3)
theorem dp_op {op : Operator} {r : R2} {F : D → D → Option D} {k1 k2 : Kd} (ho : OpR X (binaryOp op) r) (hF : OpD X.K k r F) (ha : DP X c k1 a f) (hb : DP X c k2 b g) : DP X c k (.BinOp a op b pos) (op2 F f g) := fun hid ρ =>
  PE.imp (pe_op ho (ha hid ρ) (hb hid ρ)) fun σ H Q h => rd2 hF h
theorem dp_cmp {op : CmpOp} {r : R2} {F : D → D → Option D} {k1 k2 : Kd} (ho : OpR X (compareOp op) r) (hF : OpD X.K .s r F) (ha : DP X c k1 a f) (hb : DP X c k2 b g) (hm : behindInMarks op b = false) : DP X c .s (.Compare a [op] [b] pos) (op2 F f g) := fun hid ρ =>
  PE.imp (pe_cmpR ho (ha hid ρ) (hb hid ρ) hm) fun σ H Q h => rd2 hF h
def asB : Option D → Option Bool
  | some (.bl b) => some b
  | _ => none
theorem dt_cmp {op : CmpOp} {r : R2} {F : D → D → Option D} {k1 k2 : Kd} (ho : OpR X (compareOp op) r) (hF : OpD X.K .s r F) (ha : DP X c k1 a f) (hb : DP X c k2 b g) (hm : behindInMarks op b = false) : DT X c (.Compare a [op] [b] pos) (fun ρ => asB (op2 F f g ρ)) := fun hid ρ =>
  PT.imp (pt_cmpR ho (ha hid ρ) (hb hid ρ) hm) fun σ H Q hq_ => by
    obtain ⟨sr, d, hd, q⟩ := hq_
    refine rd2 (X := X) (k := .s) (F := F) hF ?_
    dsimp only at hd
    cases e : op2 F f g ρ with
    | none => rw [e] at hd; cases hd
    | some x =>
      rw [e] at hd
      cases x with
      | bl z =>
        cases hd
        refine ⟨sr, _, e, fun v H' s r => ⟨d, ?_, q H' s⟩⟩
        cases r; rfl
      | _ => cases hd
theorem dp_ix {r : R2} {F : D → D → Option D} {k1 k2 : Kd} (hr : IxR X r) (hF : OpD X.K k r F) (ha : DP X c k1 a f) (hb : DP X c k2 b g) (hs : PlainIx b) : DP X c k (.Subscript a b pos) (op2 F f g) := fun hid ρ =>
  PE.imp (pe_ix hr (ha hid ρ) (hb hid ρ) hs) fun σ H Q h => rd2 hF h
end
def i2 (C : Int → Int → Bool) (G : Int → Int → D) : D → D → Option D
  | .int i, .int j => if C i j = true then some (G i j) else none
  | _, _ => none
section
variable {K : PySem.W.Frag}
theorem i2_some {C : Int → Int → Bool} {G : Int → Int → D} {x y d : D} (h : i2 C G x y = some d) : ∃ i j, x = .int i ∧ y = .int j ∧ C i j = true ∧ d = G i j := by
  unfold i2 at h
  split at h
  · split at h
    · cases h; exact ⟨_, _, rfl, rfl, ‹_›, rfl⟩
    · cases h
  · cases h
theorem od_I {C : Int → Int → Prop} {B : Int → Int → Bool} {g : Int → Int → Int} (hC : ∀ i j, B i j = true → C i j) : OpD K .s (rI C fun i j => .int (g i j)) (i2 B fun i j => .int (g i j)) := by
  intro H hid v u x y d Q hf h r1 r2 q
  obtain ⟨i, j, rfl, rfl, hc, rfl⟩ := i2_some h
  cases r1.int; cases r2.int
  exact ⟨i, j, rfl, rfl, hC i j hc, q _ H (Same.refl _) .int⟩
theorem od_I0 {g : Int → Int → Int} : OpD K .s (rI0 fun i j => .int (g i j)) (i2 (fun _ _ => true) fun i j => .int (g i j)) := by
  intro H hid v u x y d Q hf h r1 r2 q
  obtain ⟨i, j, rfl, rfl, hc, rfl⟩ := i2_some h
  cases r1.int; cases r2.int
  exact ⟨i, j, rfl, rfl, q _ H (Same.refl _) .int⟩
theorem od_B0 {g : Int → Int → Bool} : OpD K .s (rI0 fun i j => .bl (g i j)) (i2 (fun _ _ => true) fun i j => .bl (g i j)) := by
  intro H hid v u x y d Q hf h r1 r2 q
  obtain ⟨i, j, rfl, rfl, hc, rfl⟩ := i2_some h
  cases r1.int; cases r2.int
  exact ⟨i, j, rfl, rfl, q _ H (Same.refl _) .bl⟩
end
end L2
set_option Elab.async false
set_option linter.all false
set_option maxRecDepth 100000
namespace L2
open PySem PySem.Spec PyProof.Rows
section
variable {X : Cx} {c : Ct} {e a b : Expr} {es rest : List Expr} {f g : FE} {p q : FT} {k : Kd} {pos : Pos}
def truD : D → Option Bool
  | .non => some false
  | .bl b => some b
  | .int i => some (i != 0)
  | .str y => if y.length ≤ sizeLine then some ((y.length : Int) != 0) else none
  | .lst ds => some (!ds.isEmpty)
  | .tup ds => some (!ds.isEmpty)
  | .scr ds => some (!ds.isEmpty)
theorem Reps.isEmpty {K : PySem.W.Frag} {F : Hp} {xs : List V} {ds : List D} (r : Reps K F xs ds) : xs.isEmpty = ds.isEmpty := by cases r <;> rfl
theorem tru_of {K : PySem.W.Frag} {H : Hp} {hid : Hid} {v : V} {d : D} {b : Bool} (h : truD d = some b) (r : Rep1 K H (vw H hid) v d) : TruV K v H b := by
  cases d with
  | non => cases r.non; cases h; rfl
  | bl x => cases r.bl; cases h; rfl
  | int i => cases r.int; cases h; rfl
  | str y =>
    cases r.str
    have h' : (if y.length ≤ sizeLine then some ((y.length : Int) != 0) else none) = some b := h
    split at h'
    · cases h'; exact ⟨‹_›, rfl⟩
    · cases h'
  | lst ds =>
    obtain ⟨a, xs, rfl, h1, h2⟩ := r.lst
    cases h
    exact .inl ⟨xs, h1, by rw [h2.isEmpty]⟩
  | tup ds =>
    obtain ⟨a, xs, rfl, _, h1, h2⟩ := r.tup
    cases h
    exact .inr (.inl ⟨xs, h1, by rw [h2.isEmpty]⟩)
  | scr ds =>
    obtain ⟨a, xs, rfl, h1, h2⟩ := r.scr
    cases h
    exact .inl ⟨xs, h1, by rw [h2.isEmpty]⟩
def tru1 (f : FE) : FT := fun ρ => (f ρ).bind truD
theorem dt_val (ha : DP X c k a f) (he : ∀ whole, isTrue a X.env whole = (do let v ← whole; standAt a.pos; holding [v] (truthy v)) := by intro _; rfl) : DT X c a (tru1 f) := fun hid ρ =>
  PT.imp (pt_truth (ha hid ρ) he) fun σ H Q hq_ => by
    obtain ⟨sr, d, hd, q⟩ := hq_
    unfold tru1 at hd
    cases e : f ρ with
    | none => rw [e] at hd; cases hd
    | some x =>
      rw [e] at hd
      exact ⟨sr, x, e, fun v H' s r => ⟨d, tru_of hd (RK.b k r fun a n => sr.fresh n), q H' s⟩⟩
def and2 (p q : FT) : FT := fun ρ => (p ρ).bind fun b => if b = true then q ρ else some false
def or2 (p q : FT) : FT := fun ρ => (p ρ).bind fun b => if b = true then some true else q ρ
def not1 (p : FT) : FT := fun ρ => (p ρ).map (!·)
theorem dw_or1 (ha : DT X c a p) : DW X c (.BoolOp .Or [a] pos) p := fun hid ρ => pw_or1 (ha hid ρ)
theorem dw_or (ha : DT X c a p) (hb : DW X c (.BoolOp .Or (b :: rest) pos) q) : DW X c (.BoolOp .Or (a :: b :: rest) pos) (or2 p q) := fun hid ρ =>
  PW.imp (pw_or (ha hid ρ) (hb hid ρ)) fun σ H Q hq_ => by
    obtain ⟨sr, d, hd, hq⟩ := hq_
    unfold or2 at hd
    cases e : p ρ with
    | none => rw [e] at hd; cases hd
    | some x =>
      rw [e] at hd
      refine ⟨sr, x, e, fun H1 s1 => ?_⟩
      cases x with
      | false => exact iteF ⟨sr.ext s1, d, hd, fun H2 s2 => hq H2 (s1.trans s2)⟩
      | true => cases hd; exact iteT (hq H1 s1)
theorem DW.dt (h : DW X c e p) : DT X c e p := fun hid ρ => (h hid ρ).pt
theorem dt_not (ha : DT X c a p) : DT X c (.UnaryOp .Not a pos) (not1 p) := fun hid ρ =>
  PT.imp (pt_not (ha hid ρ)) fun σ H Q hq_ => by
    obtain ⟨sr, d, hd, hq⟩ := hq_
    unfold not1 at hd
    cases e : p ρ with
    | none => rw [e] at hd; cases hd
    | some x => rw [e] at hd; cases hd; exact ⟨sr, x, e, fun H1 s1 => hq H1 s1⟩
def asD (p : FT) : FE := fun ρ => (p ρ).map D.bl
def toB (f : FE) : FT := fun ρ => asB (f ρ)
theorem toB_some {ρ : Rho} {b : Bool} (h : toB f ρ = some b) : f ρ = some (.bl b) := by
  unfold toB asB at h
  split at h
  · cases h; assumption
  · cases h
theorem dp_and (ha : DP X c .s a f) (hb : DP X c .s (.BoolOp .And (b :: rest) pos) g) : DP X c .s (.BoolOp .And (a :: b :: rest) pos) (asD (and2 (toB f) (toB g))) := fun hid ρ =>
  PE.imp (pe_and (ha hid ρ) (hb hid ρ)) fun σ H Q hq_ => by
    obtain ⟨sr, d, hd, hq⟩ := hq_
    unfold asD and2 at hd
    cases e : toB f ρ with
    | none => rw [e] at hd; cases hd
    | some x =>
      rw [e] at hd
      refine ⟨sr, _, toB_some e, fun v H1 s1 r => ?_⟩
      cases r
      refine ⟨x, rfl, ?_⟩
      cases x with
      | true =>
        refine iteT ?_
        cases e2 : toB g ρ with
        | none => rw [show (some true : Option Bool).bind (fun b => if b = true then toB g ρ else some false) = toB g ρ from rfl, e2] at hd; cases hd
        | some y =>
          rw [show (some true : Option Bool).bind (fun b => if b = true then toB g ρ else some false) = toB g ρ from rfl, e2] at hd; cases hd
          exact ⟨sr.ext s1, _, toB_some e2, fun v2 H2 s2 r2 => hq v2 H2 (s1.trans s2) r2⟩
      | false => cases hd; exact iteF (hq _ H1 s1 .bl)
theorem dp_one {op} (h : DP X c k a f) : DP X c k (.BoolOp op [a] pos) f := fun hid ρ => pe_one (h hid ρ)
variable {r r' : R2} {h : FE} {e3 : Expr}
end
section
variable {X : Cx} {c : Ct} {e a b : Expr} {es rest : List Expr} {f g : FE} {fs : FA} {k : Kd} {pos : Pos}
def nilA : FA := fun _ => some []
def consA (f : FE) (fs : FA) : FA := fun ρ => (f ρ).bind fun d => (fs ρ).map fun r => d :: r
theorem consA_some {ρ : Rho} {ds : List D} (h : consA f fs ρ = some ds) : ∃ d r, f ρ = some d ∧ fs ρ = some r ∧ ds = d :: r := by
  unfold consA at h
  cases e1 : f ρ with
  | none => rw [e1] at h; cases h
  | some d =>
    cases e2 : fs ρ with
    | none => rw [e1, e2] at h; cases h
    | some r => rw [e1, e2] at h; cases h; exact ⟨d, r, rfl, rfl, rfl⟩
theorem da_nil : DA X c [] nilA := fun hid ρ => PA.imp pa_nil fun σ H Q ⟨sr, d, hd, q⟩ => by cases hd; exact q [] H (Same.refl _) .nil
theorem da_cons (ha : DP X c .s e f) (hr : DA X c es fs) (hs : starEach (e :: es) X.env = (false, eval e X.env) :: starEach es X.env := by rfl) : DA X c (e :: es) (consA f fs) := fun hid ρ =>
  PA.imp (pa_cons (ha hid ρ) (hr hid ρ) hs) fun σ H Q hq_ => by
    obtain ⟨sr, d, hd, q⟩ := hq_
    obtain ⟨d1, r, e1, e2, rfl⟩ := consA_some hd
    exact ⟨sr, d1, e1, fun v H1 s1 r1 => ⟨sr.ext s1, r, e2, fun vs H2 s2 r2 => q _ H2 (s1.trans s2) (.cons (Rep.mono (vw_same s2) r1) r2)⟩⟩
def lstF (fs : FA) : FE := fun ρ => (fs ρ).bind fun ds => if ds.length ≤ sizeLine then some (.lst ds) else none
theorem lstF_some {ρ : Rho} {d : D} (h : lstF fs ρ = some d) : ∃ ds, fs ρ = some ds ∧ ds.length ≤ sizeLine ∧ d = .lst ds := by
  unfold lstF at h
  cases e1 : fs ρ with
  | none => rw [e1] at h; cases h
  | some ds =>
    rw [e1] at h
    have h' : (if ds.length ≤ sizeLine then some (D.lst ds) else none) = some d := h
    split at h'
    · cases h'; exact ⟨ds, rfl, ‹_›, rfl⟩
    · cases h'
theorem same_new {H : Hp} {p : Addr} (h : H p = none) (o : HO) : Same H (upd H p o) := fun b u q => by rw [upd_ne (ne_of_none q h)]; exact q
theorem rep_newT {K : PySem.W.Frag} {H : Hp} {hid : Hid} {p : Addr} {xs : List V} {ds : List D} (hn : H p = none) (hf : hid p = false) (r : Reps K (vw H hid) xs ds) : Rep K (vw (upd H p (.tup xs)) hid) (.ref p) (.tup ds) :=
  .tup (SqT.of (vw_some.mpr ⟨hf, upd_same⟩)) (r.mono (vw_same (same_new hn _)))
theorem rn_new {K : PySem.W.Frag} {H H0 : Hp} {hid : Hid} {p : Addr} {xs : List V} {ds : List D} (hn : H p = none) (s : Same H0 H) (r : Reps K (vw H hid) xs ds) : RN K H0 (upd H p (.lst xs)) hid (.ref p) (.lst ds) :=
  ⟨p, xs, ds, rfl, rfl, s.free hn, upd_same, by rw [vw_new hn]; exact r⟩
theorem dp_lst (h : DA X c es fs) : DP X c .n (.List es pos) (lstF fs) := fun hid ρ => PE.imp (pe_lst (h hid ρ)) fun σ H Q hq_ => by
  obtain ⟨sr, d, hd, q⟩ := hq_
  obtain ⟨ds, e1, hz, rfl⟩ := lstF_some hd
  exact ⟨sr, ds, e1, fun vs H1 s1 r1 => ⟨by rw [r1.length]; exact hz, fun p hp => q _ _ (s1.trans (same_new hp _)) (rn_new hp s1 r1)⟩⟩
abbrev Reps1 (K : PySem.W.Frag) (H W : Hp) : List V → List D → Prop := Paired (Rep1 K H W)
def rdB (K : PySem.W.Frag) (c : Ct) (hid : Hid) (f : FA) (ρ : Rho) : TA := fun σ H Q => SR K c hid ρ σ H ∧ ∃ d, f ρ = some d ∧ ∀ vs H', Same H H' → Reps1 K H' (vw H' hid) vs d → Q vs H'
def DB (X : Cx) (c : Ct) (es : List Expr) (f : FA) : Prop := ∀ hid ρ, PA X es (rdB X.K c hid f ρ)
theorem db_nil : DB X c [] nilA := fun hid ρ => PA.imp pa_nil fun σ H Q ⟨sr, d, hd, q⟩ => by cases hd; exact q [] H (Same.refl _) .nil
theorem db_cons (ha : DP X c k e f) (hr : DB X c es fs) (hs : starEach (e :: es) X.env = (false, eval e X.env) :: starEach es X.env := by rfl) : DB X c (e :: es) (consA f fs) := fun hid ρ =>
  PA.imp (pa_cons (ha hid ρ) (hr hid ρ) hs) fun σ H Q hq_ => by
    obtain ⟨sr, d, hd, q⟩ := hq_
    obtain ⟨d1, r, e1, e2, rfl⟩ := consA_some hd
    exact ⟨sr, d1, e1, fun v H1 s1 r1 => ⟨sr.ext s1, r, e2, fun vs H2 s2 r2 => q _ H2 (s1.trans s2) (.cons ((RK.b k r1 fun a n => sr.fresh n).ext s2) r2)⟩⟩
def CallD (K : PySem.W.Frag) (k : Kd) (r : List V → Hp → VK → Prop) (F : List D → Option D) : Prop := ∀ (H : Hp) (hid : Hid) (vs : List V) (ds : List D) (d : D) (Q : VK), (∀ a, H a = none → hid a = false) → F ds = some d → Reps1 K H (vw H hid) vs ds →
  (∀ w H', Same H H' → RK K k H H' hid w d → Q w H') → r vs H Q
def callF (F : List D → Option D) (fs : FA) : FE := fun ρ => (fs ρ).bind F
theorem callF_some {F : List D → Option D} {ρ : Rho} {d : D} (h : callF F fs ρ = some d) : ∃ ds, fs ρ = some ds ∧ F ds = some d := by
  unfold callF at h
  cases e1 : fs ρ with
  | none => rw [e1] at h; cases h
  | some ds => rw [e1] at h; exact ⟨ds, rfl, h⟩
theorem rdCB {r : List V → Hp → VK → Prop} {F : List D → Option D} {hid : Hid} {ρ : Rho} (hF : CallD X.K k r F) {σ : St} {H : Hp} {Q : VK} (h : rdP X.K c hid k (callF F fs) ρ σ H Q) : tCB r (rdB X.K c hid fs ρ) σ H Q := by
  obtain ⟨sr, d, hd, q⟩ := h
  obtain ⟨ds, e1, e2⟩ := callF_some hd
  exact ⟨sr, ds, e1, fun vs H1 s1 r1 => hF H1 hid vs ds d Q (fun a n => (sr.ext s1).fresh n) e2 r1 fun w H' s2 r2 => q w H' (s1.trans s2) (RK.left s1 r2)⟩
variable {x : Str} {p : Pos} {id T : String} {r : List V → Hp → VK → Prop} {F : List D → Option D}
theorem dp_callB (hc : CallR X (.builtin id) r) (hF : CallD X.K k r F) (hm : X.mg x = none) (ha : DB X c (e :: es) fs) (hg : Gl X x := by rfl) (hv : bootBuiltins x = some (.builtin id) := by first | exact PySem.boot_len | rfl | kernel_rfl) (hn : x ≠ "__name__" := by decide) (hdb : (x == ("__debug__" : Str)) = false := by decide)
    (he : starEach (e :: es) X.env = (false, eval e X.env) :: starEach es X.env := by rfl) (hpl : (backTo pos (starEach es X.env)).any (·.1) = false := by rfl) : DP X c k (.Call (.Name x p) (e :: es) [] pos) (callF F fs) := fun hid ρ =>
  PE.imp (pe_callB hc hg hm hv (ha hid ρ) hn hdb he hpl) fun σ H Q h => rdCB hF h
theorem dp_callTy (hc : CallR X (.type T) r) (hF : CallD X.K k r F) (hm : X.mg x = none) (ha : DB X c (e :: es) fs) (hg : Gl X x := by rfl) (hv : bootBuiltins x = some (.type T) := by first | rfl | kernel_rfl) (hn : x ≠ "__name__" := by decide) (hdb : (x == ("__debug__" : Str)) = false := by decide)
    (he : starEach (e :: es) X.env = (false, eval e X.env) :: starEach es X.env := by rfl) (hpl : (backTo pos (starEach es X.env)).any (·.1) = false := by rfl) : DP X c k (.Call (.Name x p) (e :: es) [] pos) (callF F fs) := fun hid ρ =>
  PE.imp (pe_callTy hc hg hm hv (ha hid ρ) hn hdb he hpl) fun σ H Q h => rdCB hF h
end
section
variable {K : PySem.W.Frag}
theorem Reps1.one {H W : Hp} {v : List V} {d : D} (r : Reps1 K H W v [d]) : ∃ x, v = [x] ∧ Rep1 K H W x d := by
  cases r with
  | cons r t => cases t; exact ⟨_, rfl, r⟩
theorem Reps1.two {H W : Hp} {v : List V} {d d' : D} (r : Reps1 K H W v [d, d']) : ∃ x y, v = [x, y] ∧ Rep1 K H W x d ∧ Rep1 K H W y d' := by
  cases r with
  | cons r t => cases t with
    | cons r' t => cases t; exact ⟨_, _, rfl, r, r'⟩
def lenD : List D → Option D
  | [.lst ds] => some (.int ds.length)
  | [.tup ds] => some (.int ds.length)
  | [.scr ds] => some (.int ds.length)
  | _ => none
theorem cd_len : CallD K .s (fun xs H Q => ∃ p ys, xs = [.ref p] ∧ (SqL K H p ys ∨ SqT K H p ys) ∧ Q (.int ys.length) H) lenD := by
  intro H hid vs ds d Q hf h r q
  unfold lenD at h
  split at h
  · cases h
    obtain ⟨x, rfl, r1⟩ := Reps1.one r
    obtain ⟨a, xs, rfl, h1, h2⟩ := r1.lst
    exact ⟨a, xs, rfl, .inl h1, by rw [h2.length]; exact q _ H (Same.refl _) .int⟩
  · cases h
    obtain ⟨x, rfl, r1⟩ := Reps1.one r
    obtain ⟨a, xs, rfl, _, h1, h2⟩ := r1.tup
    exact ⟨a, xs, rfl, .inr h1, by rw [h2.length]; exact q _ H (Same.refl _) .int⟩
  · cases h
    obtain ⟨x, rfl, r1⟩ := Reps1.one r
    obtain ⟨a, xs, rfl, h1, h2⟩ := r1.scr
    exact ⟨a, xs, rfl, .inl h1, by rw [h2.length]; exact q _ H (Same.refl _) .int⟩
  · cases h
def absI : List D → Option D
  | [.int i] => some (.int (if i < 0 then -i else i))
  | _ => none
theorem cd_abs : CallD K .s (fun xs H Q => ∃ i, xs = [.int i] ∧ Q (.int (if i < 0 then -i else i)) H) absI := by
  intro H hid vs ds d Q hf h r q
  unfold absI at h
  split at h
  · cases h
    obtain ⟨x, rfl, r1⟩ := Reps1.one r
    cases r1.int
    exact ⟨_, rfl, q _ H (Same.refl _) .int⟩
  · cases h
def min2D : List D → Option D
  | [.int i, .int j] => some (.int (if j < i then j else i))
  | _ => none
theorem cd_min2 : CallD K .s (fun xs H Q => ∃ i j, xs = [.int i, .int j] ∧ Q (.int (if j < i then j else i)) H) min2D := by
  intro H hid vs ds d Q hf h r q
  unfold min2D at h
  split at h
  · cases h
    obtain ⟨x, y, rfl, r1, r2⟩ := Reps1.two r
    cases r1.int; cases r2.int
    exact ⟨_, _, rfl, q _ H (Same.refl _) .int⟩
  · cases h
def listD : List D → Option D
  | [.lst ds] => some (.lst ds)
  | [.tup ds] => some (.lst ds)
  | _ => none
theorem cd_list : CallD K .n (fun xs H Q => ∃ p ys, xs = [.ref p] ∧ (SqL K H p ys ∨ SqT K H p ys) ∧ ∀ l, H l = none → Q (.ref l) (upd H l (.lst ys))) listD := by
  intro H hid vs ds d Q hf h r q
  unfold listD at h
  split at h
  · cases h
    obtain ⟨x, rfl, r1⟩ := Reps1.one r
    obtain ⟨a, xs, rfl, h1, h2⟩ := r1.lst
    exact ⟨a, xs, rfl, .inl h1, fun l hl => q _ _ (same_new hl _) (rn_new hl (Same.refl _) h2)⟩
  · cases h
    obtain ⟨x, rfl, r1⟩ := Reps1.one r
    obtain ⟨a, xs, rfl, _, h1, h2⟩ := r1.tup
    exact ⟨a, xs, rfl, .inr h1, fun l hl => q _ _ (same_new hl _) (rn_new hl (Same.refl _) h2)⟩
  · cases h
def tupleD : List D → Option D
  | [.lst ds] => some (.tup ds)
  | [.tup ds] => some (.tup ds)
  | _ => none
theorem cd_tuple : CallD K .s (fun xs H Q => ∃ p ys, xs = [.ref p] ∧ ((SqL K H p ys ∧ ∀ l, H l = none → Q (.ref l) (upd H l (.tup ys))) ∨ (SqT K H p ys ∧ Q (.ref p) H))) tupleD := by
  intro H hid vs ds d Q hf h r q
  unfold tupleD at h
  split at h
  · cases h
    obtain ⟨x, rfl, r1⟩ := Reps1.one r
    obtain ⟨a, xs, rfl, h1, h2⟩ := r1.lst
    exact ⟨a, xs, rfl, .inl ⟨h1, fun l hl => q _ _ (same_new hl _) (rep_newT hl (hf l hl) h2)⟩⟩
  · cases h
    obtain ⟨x, rfl, r1⟩ := Reps1.one r
    obtain ⟨a, xs, rfl, h0, h1, h2⟩ := r1.tup
    exact ⟨a, xs, rfl, .inr ⟨h1, q _ H (Same.refl _) (.tup h0 h2)⟩⟩
  · cases h
def ixD : D → D → Option D
  | .lst ds, .int i => atI ds i
  | .tup ds, .int i => atI ds i
  | .scr ds, .int i => atI ds i
  | _, _ => none
theorem atI_rep {F : Hp} {xs : List V} {ds : List D} {i : Int} {d : D} (r : Reps K F xs ds) (h : atI ds i = some d) : ∃ x, atI xs i = some x ∧ Rep K F x d := by
  unfold atI at h ⊢
  rw [r.length]
  cases e : ixN ds.length i with
  | none => rw [e] at h; cases h
  | some j =>
    rw [e] at h
    obtain ⟨x, h1, h2⟩ := r.get (i := j) h
    exact ⟨x, h1, h2⟩
theorem od_ix : OpD K .s (rIx K) ixD := by
  intro H hid v u x y d Q hf h r1 r2 q
  unfold ixD at h
  split at h
  · cases r2.int
    obtain ⟨a, xs, rfl, h1, h2⟩ := r1.lst
    obtain ⟨z, h3, h4⟩ := atI_rep h2 h
    exact .inl ⟨a, xs, _, z, rfl, rfl, h1, h3, q _ H (Same.refl _) h4⟩
  · cases r2.int
    obtain ⟨a, xs, rfl, _, h1, h2⟩ := r1.tup
    obtain ⟨z, h3, h4⟩ := atI_rep h2 h
    exact .inr (.inl ⟨a, xs, _, z, rfl, rfl, h1, h3, q _ H (Same.refl _) h4⟩)
  · cases r2.int
    obtain ⟨a, xs, rfl, h1, h2⟩ := r1.scr
    obtain ⟨z, h3, h4⟩ := atI_rep h2 h
    exact .inl ⟨a, xs, _, z, rfl, rfl, h1, h3, q _ H (Same.refl _) h4⟩
  · cases h
end
end L2
set_option Elab.async false
set_option linter.all false
set_option maxRecDepth 100000
namespace L2
open PySem PySem.Spec PyProof.Rows
abbrev GE := Rho → Option (D × Rho)
abbrev GA := Rho → Option (List D × Rho)
def Kept (hid : Hid) (H H' : Hp) : Prop := ∀ b o, H b = some o → hid b = false → H' b = some o
theorem Kept.of {hid : Hid} {H H' : Hp} (s : Same H H') : Kept hid H H' := fun b o q _ => s b o q
theorem Kept.trans {hid : Hid} {H H1 H2 : Hp} (a : Kept hid H H1) (b : Kept hid H1 H2) : Kept hid H H2 := fun c o q h => b c o (a c o q h) h
theorem Kept.vw {hid : Hid} {H H' : Hp} (a : Kept hid H H') : Same (vw H hid) (vw H' hid) := vw_keep a
def PostE (K : PySem.W.Frag) (c : Ct) (hid : Hid) (k : Kd) (ρ' : Rho) (σ : St) (H H' : Hp) (v : V) (d : D) : Prop := Kept hid H H' ∧ match k with
  | .n => ∃ a xs ds, d = .lst ds ∧ v = .ref a ∧ H a = none ∧ H' a = some (.lst xs) ∧ c.H₀ a = none ∧ hid a = false ∧ SR K c (hadd hid a) ρ' σ H' ∧ Reps K (vw H' (hadd hid a)) xs ds ∧ ∀ i : Nat, Ow ρ'[i]? → σ[i]? ≠ some (some (.ref a))
  | _ => SR K c hid ρ' σ H' ∧ Rep K (vw H' hid) v d
def rdE (K : PySem.W.Frag) (c : Ct) (hid : Hid) (k : Kd) (f : GE) (ρ : Rho) : TE := fun σ H Q => SR K c hid ρ σ H ∧ ∃ d ρ', f ρ = some (d, ρ') ∧ ∀ v H', PostE K c hid k ρ' σ H H' v d → Q v H'
def DE (X : Cx) (c : Ct) (k : Kd) (e : Expr) (f : GE) : Prop := ∀ hid ρ, PE X e (rdE X.K c hid k f ρ)
def pu (f : FE) : GE := fun ρ => (f ρ).map fun d => (d, ρ)
theorem pu_some {f : FE} {ρ ρ' : Rho} {d : D} (h : pu f ρ = some (d, ρ')) : f ρ = some d ∧ ρ' = ρ := by
  unfold pu at h
  cases e : f ρ with
  | none => rw [e] at h; cases h
  | some x => rw [e] at h; cases h; exact ⟨rfl, rfl⟩
section
variable {K : PySem.W.Frag} {c : Ct} {hid hid' : Hid} {ρ : Rho} {σ : St} {H H' : Hp} {i : Nat} {a : Addr}
theorem hadd_true {hid : Hid} {a b : Addr} (h : hid b = true) : hadd hid a b = true := by unfold hadd; rw [h]; rfl
theorem hadd_self {hid : Hid} {a : Addr} : hadd hid a a = true := by unfold hadd; simp
theorem SR.hide (h : SR K c hid ρ σ H) (e : Same H H') (n : H a = none) {o : HO} (ho : H' a = some o) (hn : ∀ xs, o ≠ .tup xs := by intro _ e; cases e) : SR K c (hadd hid a) ρ σ H' := by
  have sm : Same (vw H hid) (vw H' (hadd hid a)) := fun b o q => by
    obtain ⟨q1, q2⟩ := vw_some.mp q
    refine vw_some.mpr ⟨?_, e _ _ q2⟩
    unfold hadd
    rw [q1]
    have : b ≠ a := ne_of_none q2 n
    simp [this]
  refine ⟨fun b hb => ?_, fun b xs hb q => by
    by_cases eb : b = a
    · subst eb; rw [ho] at q; exact hn _ (Option.some.inj q)
    · unfold hadd at hb
      exact (h.ext e).ht b xs (by simpa [eb] using hb) q, fun b q => hadd_true (h.h0 b q), (h.ext e).kp, (h.ext e).t0, h.c0, h.m0, h.len, fun i s q => ?_, h.ap⟩
  · by_cases eb : b = a
    · subst eb; exact ⟨_, ho⟩
    · unfold hadd at hb
      have : hid b = true := by simpa [eb] using hb
      obtain ⟨o', q⟩ := h.tr b this
      exact ⟨o', e _ _ q⟩
  · have z := h.sl i s q
    cases s with
    | no => trivial
    | v d => obtain ⟨x, h1, h2⟩ := z; exact ⟨x, h1, h2.mono sm⟩
    | own ds => obtain ⟨a', xs, h1, h2, h3, h4, h5⟩ := z; exact ⟨a', xs, h1, e _ _ h2, hadd_true h3, h4, h5.mono sm⟩
    | arg ds => obtain ⟨a', xs, h1, h2, h3, h4, h5⟩ := z; exact ⟨a', xs, h1, e _ _ h2, hadd_true h3, h4, h5.mono sm⟩
    | ob b => obtain ⟨a', h1, h2⟩ := z; exact ⟨a', h1, h2.mono (fun _ => e a') sm fun _ => hadd_true⟩
theorem SR.show (h : SR K c (hadd hid a) ρ σ H) (h0 : ∀ b, c.hid₀ b = true → hid b = true) (no : ∀ i : Nat, Ow ρ[i]? → σ[i]? ≠ some (some (.ref a))) : SR K c hid ρ σ H := by
  have sm : Same (vw H (hadd hid a)) (vw H hid) := vw_less fun b q => hadd_true q
  have un : ∀ b, b ≠ a → hadd hid a b = true → hid b = true := fun b nb hb => by unfold hadd at hb; simpa [nb] using hb
  refine ⟨fun b hb => h.tr b (hadd_true hb), fun b xs hb => h.ht b xs (hadd_true hb), h0, h.kp, h.t0, h.c0, h.m0, h.len, fun i s q => ?_, h.ap⟩
  have z := h.sl i s q
  cases s with
  | no => trivial
  | v d => obtain ⟨x, h1, h2⟩ := z; exact ⟨x, h1, h2.mono sm⟩
  | own ds =>
    obtain ⟨a', xs, h1, h2, h3, h4, h5⟩ := z
    have : a' ≠ a := fun e => by subst e; exact no i (by rw [q]; trivial) h1
    exact ⟨a', xs, h1, h2, un a' this h3, h4, h5.mono sm⟩
  | arg ds =>
    obtain ⟨a', xs, h1, h2, h3, h4, h5⟩ := z
    have : a' ≠ a := fun e => by subst e; exact no i (by rw [q]; trivial) h1
    exact ⟨a', xs, h1, h2, un a' this h3, h4, h5.mono sm⟩
  | ob b =>
    obtain ⟨a', h1, h2⟩ := z
    exact ⟨a', h1, h2.mono (fun _ _ q => q) sm fun ow => un a' fun e => by subst e; exact no i (by rw [q]; exact ow) h1⟩
theorem SR.notOw (h : SR K c hid ρ σ H) (n : hid a = false) (i : Nat) (o : Ow ρ[i]?) : σ[i]? ≠ some (some (.ref a)) := fun e => by
  cases q : ρ[i]? with
  | none => rw [q] at o; exact o
  | some s =>
    rw [q] at o
    have z := h.sl i s q
    cases s with
    | no => exact o
    | v d => exact o
    | own ds => obtain ⟨a', xs, h1, h2, h3, _⟩ := z; rw [e] at h1; cases h1; rw [n] at h3; cases h3
    | arg ds => obtain ⟨a', xs, h1, h2, h3, _⟩ := z; rw [e] at h1; cases h1; rw [n] at h3; cases h3
    | ob b => obtain ⟨a', h1, h2⟩ := z; rw [e] at h1; cases h1; have := h2.hid o; rw [n] at this; cases this
theorem SR.post {k : Kd} {v : V} {d : D} (h : SR K c hid ρ σ H) (e : Same H H') (r : RK K k H H' hid v d) (hk : k ≠ .b) : PostE K c hid k ρ σ H H' v d := by
  cases k with
  | b => exact absurd rfl hk
  | s => exact ⟨.of e, h.ext e, r⟩
  | n =>
    obtain ⟨a, xs, ds, h1, h2, h3, h4, h5⟩ := r
    exact ⟨.of e, a, xs, ds, h1, h2, h3, h4, h.fresh0 h3, h.fresh h3, h.hide e h3 h4, h5, h.notOw (h.fresh h3)⟩
theorem PostE.left {k : Kd} {ρ' : Rho} {H1 : Hp} {v : V} {d : D} (s : Kept hid H H1) (p : PostE K c hid k ρ' σ H1 H' v d) : PostE K c hid k ρ' σ H H' v d := by
  cases k with
  | b => exact ⟨s.trans p.1, p.2⟩
  | s => exact ⟨s.trans p.1, p.2⟩
  | n =>
    obtain ⟨kp, a, xs, ds, h1, h2, hn, h3, h4, h5, h6⟩ := p
    refine ⟨s.trans kp, a, xs, ds, h1, h2, ?_, h3, h4, h5, h6⟩
    cases e : H a with
    | none => rfl
    | some o => rw [s a o e h5] at hn; cases hn
theorem PostE.toS {ρ' : Rho} {v : V} {d : D} (h0 : ∀ b, c.hid₀ b = true → hid b = true) (p : PostE K c hid .n ρ' σ H H' v d) : PostE K c hid .s ρ' σ H H' v d := by
  obtain ⟨kp, a, xs, ds, rfl, rfl, hn, h1, h2, h3, h4, h5, h6⟩ := p
  exact ⟨kp, h4.show h0 h6, .lst (vw_some.mpr ⟨h3, h1⟩) (h5.mono (vw_less fun b q => hadd_true q))⟩
end
section
variable {X : Cx} {c : Ct} {e a b : Expr} {es rest : List Expr} {f g : GE} {k : Kd} {pos : Pos}
theorem DP.ef {f : FE} (h : DP X c k e f) (hk : k ≠ .b := by decide) : DE X c k e (pu f) := fun hid ρ => PE.imp (h hid ρ) fun σ H Q hq_ => by
  obtain ⟨sr, d, ρ', hd, q⟩ := hq_
  obtain ⟨h1, rfl⟩ := pu_some hd
  exact ⟨sr, d, h1, fun v H' s r => q v H' (sr.post s r hk)⟩
theorem DE.toS (h : DE X c .n e f) : DE X c .s e f := fun hid ρ => PE.imp (h hid ρ) fun σ H Q ⟨sr, d, ρ', hd, q⟩ => ⟨sr, d, ρ', hd, fun v H' p => q v H' (p.toS sr.h0)⟩
def bE {α : Type} (f : GE) (g : D → Rho → Option α) : Rho → Option α := fun ρ => (f ρ).bind fun p => g p.1 p.2
theorem bE_some {α : Type} {g : D → Rho → Option α} {ρ : Rho} {z : α} (h : bE f g ρ = some z) : ∃ d ρ', f ρ = some (d, ρ') ∧ g d ρ' = some z := by
  unfold bE at h
  cases e : f ρ with
  | none => rw [e] at h; cases h
  | some p => rw [e] at h; exact ⟨p.1, p.2, rfl, h⟩
def op2E (F : D → D → Option D) (f g : GE) : GE := bE f fun x => bE g fun y ρ => (F x y).map fun d => (d, ρ)
theorem op2E_some {F : D → D → Option D} {ρ ρ' : Rho} {d : D} (h : op2E F f g ρ = some (d, ρ')) : ∃ x ρ1 y, f ρ = some (x, ρ1) ∧ g ρ1 = some (y, ρ') ∧ F x y = some d := by
  obtain ⟨x, ρ1, h1, h2⟩ := bE_some h
  obtain ⟨y, ρ2, h3, h4⟩ := bE_some h2
  cases e : F x y with
  | none => rw [e] at h4; cases h4
  | some z => rw [e] at h4; cases h4; exact ⟨x, ρ1, y, h1, h3, e⟩
theorem rd2E {r : R2} {F : D → D → Option D} {hid : Hid} {ρ : Rho} (hF : OpD X.K k r F) (hk : k ≠ .b) {σ : St} {H : Hp} {Q : VK} (h : rdE X.K c hid k (op2E F f g) ρ σ H Q) : tOp r (rdE X.K c hid .s f ρ) (fun σ H Q => ∃ ρ1, rdE X.K c hid .s g ρ1 σ H Q) σ H Q := by
  obtain ⟨sr, d, ρ', hd, q⟩ := h
  obtain ⟨x, ρ1, y, e1, e2, e3⟩ := op2E_some hd
  refine ⟨sr, x, ρ1, e1, fun v H1 ⟨k1, s1, r1⟩ => ⟨ρ1, s1, y, ρ', e2, fun u H2 ⟨k2, s2, r2⟩ => ?_⟩⟩
  exact hF H2 hid v u x y d Q (fun a n => s2.fresh n) e3 (.inl (r1.mono k2.vw)) (.inl r2) fun w H' s3 r3 => q w H' (PostE.left (k1.trans k2) (s2.post s3 r3 hk))
theorem exPE {α : Type} {t : α → TE} (h : ∀ z, PE X e (t z)) : PE X e (fun σ H Q => ∃ z, t z σ H Q) := fun pins s σ H Q I ⟨z, q⟩ => h z pins s σ H Q I q
theorem de_op {op : Operator} {r : R2} {F : D → D → Option D} (ho : OpR X (binaryOp op) r) (hF : OpD X.K k r F) (ha : DE X c .s a f) (hb : DE X c .s b g) (hk : k ≠ .b := by decide) : DE X c k (.BinOp a op b pos) (op2E F f g) := fun hid ρ =>
  PE.imp (pe_op ho (ha hid ρ) (exPE fun ρ1 => hb hid ρ1)) fun σ H Q h => rd2E hF hk h
def rdG (K : PySem.W.Frag) (c : Ct) (hid : Hid) (f : GA) (ρ : Rho) : TA := fun σ H Q => SR K c hid ρ σ H ∧ ∃ d ρ', f ρ = some (d, ρ') ∧ ∀ vs H', Kept hid H H' → SR K c hid ρ' σ H' → Reps K (vw H' hid) vs d → Q vs H'
def DG (X : Cx) (c : Ct) (es : List Expr) (f : GA) : Prop := ∀ hid ρ, PA X es (rdG X.K c hid f ρ)
def puA (f : FA) : GA := fun ρ => (f ρ).map fun d => (d, ρ)
theorem puA_some {f : FA} {ρ ρ' : Rho} {d : List D} (h : puA f ρ = some (d, ρ')) : f ρ = some d ∧ ρ' = ρ := by
  unfold puA at h
  cases e : f ρ with
  | none => rw [e] at h; cases h
  | some x => rw [e] at h; cases h; exact ⟨rfl, rfl⟩
theorem DA.gf {f : FA} (h : DA X c es f) : DG X c es (puA f) := fun hid ρ => PA.imp (h hid ρ) fun σ H Q hq_ => by
  obtain ⟨sr, d, ρ', hd, q⟩ := hq_
  obtain ⟨h1, rfl⟩ := puA_some hd
  exact ⟨sr, d, h1, fun v H' s r => q v H' (.of s) (sr.ext s) r⟩
def consG (f : GE) (fs : GA) : GA := bE f fun d ρ => (fs ρ).map fun p => (d :: p.1, p.2)
theorem exPA {α : Type} {t : α → TA} (h : ∀ z, PA X es (t z)) : PA X es (fun σ H Q => ∃ z, t z σ H Q) := fun p pins s σ H Q I ⟨z, q⟩ => h z p pins s σ H Q I q
theorem dg_cons {fs : GA} (ha : DE X c .s e f) (hr : DG X c es fs) (hs : starEach (e :: es) X.env = (false, eval e X.env) :: starEach es X.env := by rfl) : DG X c (e :: es) (consG f fs) := fun hid ρ =>
  PA.imp (pa_cons (ha hid ρ) (exPA fun ρ1 => hr hid ρ1) hs) fun σ H Q hq_ => by
    obtain ⟨sr, d, ρ', hd, q⟩ := hq_
    obtain ⟨d1, ρ1, e1, h2⟩ := bE_some hd
    cases e2 : fs ρ1 with
    | none => rw [e2] at h2; cases h2
    | some p =>
      rw [e2] at h2
      obtain ⟨ds, ρ2⟩ := p
      cases h2
      exact ⟨sr, d1, ρ1, e1, fun v H1 ⟨k1, s1, r1⟩ => ⟨ρ1, s1, ds, _, e2, fun vs H2 k2 s2 r2 => q _ H2 (k1.trans k2) s2 (.cons (r1.mono k2.vw) r2)⟩⟩
end
def spP (K : PySem.W.Frag) (k : Kd) (n : Nat) (P : List D → Option D) : Sp := fun vs H Q _ => ∃ hid ds, Trk hid H ∧ Reps K (vw H hid) vs ds ∧ ds.length = n ∧ ∃ d, P ds = some d ∧ ∀ v H', Same H H' → RK K k H H' hid v d → Q v H'
def EndE (K : PySem.W.Frag) (k : Kd) (hid : Hid) (H H' : Hp) (v : V) (d : D) (xs' : List V) (bs' : List D) : Prop := match k with
  | .n => ∃ p ys es, d = .lst es ∧ v = .ref p ∧ H p = none ∧ H' p = some (.lst ys) ∧ Reps K (vw H' (hadd hid p)) ys es ∧ Reps K (vw H' (hadd hid p)) xs' bs'
  | _ => Rep K (vw H' hid) v d ∧ Reps K (vw H' hid) xs' bs'
def spE (K : PySem.W.Frag) (k : Kd) (n : Nat) (M : List D → List D → Option (D × List D)) : Sp := fun vs H Q _ => ∃ hid a xs bs us ds, vs = .ref a :: us ∧ Trk hid H ∧ hid a = true ∧ H a = some (.lst xs) ∧ Reps K (vw H hid) xs bs ∧
  Reps K (vw H hid) us ds ∧ ds.length = n ∧ ∃ d bs', M bs ds = some (d, bs') ∧ ∀ v H' xs', (∀ b o, H b = some o → b ≠ a → H' b = some o) → H' a = some (.lst xs') → EndE K k hid H H' v d xs' bs' → Q v H'
section
variable {X : Cx} {c : Ct} {e a b : Expr} {es rest : List Expr} {k : Kd} {pos p : Pos} {x : Str} {f : Addr} {fd : FuncData} {ps : List Str} {j n : Nat}
theorem dp_call {P : List D → Option D} {fs : FA} (F : FnOk X.prog X.w X.K X.mg X.base CX0 j f fd ps (spP X.K k n P)) (hr : Room j X.A) (hm : X.mg x = some (.ref f)) (hk : PySem.W.keepIn X.K (.ref f) = true) (hb : Binds X.K fd ps [])
    (ha : DA X c (e :: es) fs) (hg : Gl X x := by rfl) (hdb : (x == ("__debug__" : Str)) = false := by decide) (he : starEach (e :: es) X.env = (false, eval e X.env) :: starEach es X.env := by rfl) (hpl : (backTo pos (starEach es X.env)).any (·.1) = false := by rfl) :
    DP X c k (.Call (.Name x p) (e :: es) [] pos) (callF (fun ds => if ds.length = n then P ds else none) fs) := fun hid ρ =>
  PE.imp (pe_call F hr hg hm hk hb .nil (pass0 (X := X)) (ha hid ρ) hdb he hpl) fun σ H Q hq_ => by
    obtain ⟨sr, d, hd, q⟩ := hq_
    obtain ⟨ds, e1, e2⟩ := callF_some hd
    have e2' : (if ds.length = n then P ds else none) = some d := e2
    split at e2'
    · refine ⟨sr, ds, e1, fun vs H1 s1 r1 => ?_⟩
      show spP X.K k n P (vs ++ []) H1 Q E0
      rw [List.append_nil]
      exact ⟨hid, ds, (sr.ext s1).trk, r1, ‹_›, d, e2', fun v H' s2 r2 => q v H' (s1.trans s2) (RK.left s1 r2)⟩
    · cases e2'
def setB (i : Nat) (bs : List D) (ρ : Rho) : Rho := match ρ[i]? with
  | some (.own _) => ρ.set i (.own bs)
  | some (.arg _) => ρ.set i (.arg bs)
  | _ => ρ
def getB (i : Nat) (ρ : Rho) : Option (List D) := match ρ[i]? with
  | some (.own ds) => some ds
  | some (.arg ds) => some ds
  | _ => none
theorem getB_some {i : Nat} {ρ : Rho} {bs : List D} (h : getB i ρ = some bs) : ρ[i]? = some (.own bs) ∨ ρ[i]? = some (.arg bs) := by
  unfold getB at h
  split at h
  · cases h; exact .inl ‹_›
  · cases h; exact .inr ‹_›
  · cases h
theorem SR.held {K : PySem.W.Frag} {hid : Hid} {ρ : Rho} {σ : St} {H : Hp} {i : Nat} {bs : List D} (h : SR K c hid ρ σ H) (hg : getB i ρ = some bs) : ∃ a xs, σ[i]? = some (some (.ref a)) ∧ H a = some (.lst xs) ∧ hid a = true ∧ Reps K (vw H hid) xs bs ∧ (c.mu a = true ∨ c.H₀ a = none) := by
  rcases getB_some hg with e | e
  · obtain ⟨a, xs, h1, h2, h3, h4, h5⟩ := h.sl i _ e
    exact ⟨a, xs, h1, h2, h3, h5, .inr h4⟩
  · obtain ⟨a, xs, h1, h2, h3, h4, h5⟩ := h.sl i _ e
    exact ⟨a, xs, h1, h2, h3, h5, .inl h4⟩
theorem getElem?_setB {i j : Nat} {ρ : Rho} {bs : List D} (h : j ≠ i) : (setB i bs ρ)[j]? = ρ[j]? := by
  unfold setB
  split
  · rw [List.getElem?_set_ne (Ne.symm h)]
  · rw [List.getElem?_set_ne (Ne.symm h)]
  · rfl
theorem setB_len {i : Nat} {ρ : Rho} {bs : List D} : (setB i bs ρ).length = ρ.length := by
  unfold setB
  split
  · simp
  · simp
  · rfl
theorem ow_setB {i j : Nat} {ρ : Rho} {bs : List D} (h : Ow (setB i bs ρ)[j]?) : Ow ρ[j]? := by
  by_cases e : j = i
  · subst e
    unfold setB at h
    split at h
    · rw [‹ρ[j]? = _›]; trivial
    · rw [‹ρ[j]? = _›]; trivial
    · exact h
  · rw [getElem?_setB e] at h; exact h
theorem SR.put {K : PySem.W.Frag} {hid : Hid} {ρ : Rho} {σ : St} {H H' : Hp} {i : Nat} {bs bs' : List D} {a : Addr} {xs' : List V} (h : SR K c hid ρ σ H) (hg : getB i ρ = some bs) (ha : σ[i]? = some (some (.ref a))) (kp : ∀ b o, H b = some o → b ≠ a → H' b = some o)
    (hx : H' a = some (.lst xs')) (r : Reps K (vw H' hid) xs' bs') : SR K c hid (setB i bs' ρ) σ H' := by
  obtain ⟨a1, xs, h1, h2, h3, h4, h5⟩ := h.held hg
  rw [ha] at h1; cases h1
  have sm : Same (vw H hid) (vw H' hid) := vw_keep fun b o q hb => kp b o q (fun e => by subst e; rw [h3] at hb; cases hb)
  have tr' : ∀ b o, H b = some o → ∃ o', H' b = some o' := fun b o q => by
    by_cases e : b = a
    · subst e; exact ⟨_, hx⟩
    · exact ⟨o, kp b o q e⟩
  refine ⟨fun b hb => let ⟨o, q⟩ := h.tr b hb; tr' b o q, fun b xs hb q => by
    by_cases e : b = a
    · subst e; rw [hx] at q; cases q
    · obtain ⟨o, w⟩ := h.tr b hb
      have z := kp b o w e
      rw [q] at z; cases z
      exact h.ht b xs hb w, h.h0, fun b o q m => ?_, fun b o q => let ⟨o', q'⟩ := h.t0 b o q; tr' b o' q', h.c0, h.m0, by rw [setB_len]; exact h.len, fun j s q => ?_, fun j l z n o1 o2 => h.ap j l z n (ow_setB o1) (ow_setB o2)⟩
  · refine kp b o (h.kp b o q m) fun e => ?_
    subst e
    rcases h5 with h5 | h5
    · rw [h5] at m; cases m
    · rw [h5] at q; cases q
  · by_cases e : j = i
    · subst e
      rcases getB_some hg with w | w
      · have lt := (List.getElem?_eq_some_iff.mp w).1
        unfold setB at q
        rw [w] at q
        dsimp only at q
        rw [List.getElem?_set_self lt] at q
        cases q
        obtain ⟨a2, xs2, g1, g2, g3, g4, g5⟩ := h.sl j _ w
        rw [ha] at g1; cases g1
        exact ⟨_, xs', ha, hx, g3, g4, r⟩
      · have lt := (List.getElem?_eq_some_iff.mp w).1
        unfold setB at q
        rw [w] at q
        dsimp only at q
        rw [List.getElem?_set_self lt] at q
        cases q
        obtain ⟨a2, xs2, g1, g2, g3, g4, g5⟩ := h.sl j _ w
        rw [ha] at g1; cases g1
        exact ⟨_, xs', ha, hx, g3, g4, r⟩
    · rw [getElem?_setB e] at q
      have z := h.sl j s q
      cases s with
      | no => trivial
      | v d => obtain ⟨x, h1, h2⟩ := z; exact ⟨x, h1, h2.mono sm⟩
      | own ds =>
        obtain ⟨a', xs, z1, z2, z3, z4, z5⟩ := z
        have ne : a' ≠ a := fun e' => by
          subst e'
          refine h.ap j i a' e (by rw [q]; trivial) ?_ z1 ha
          rcases getB_some hg with w | w <;> rw [w] <;> trivial
        exact ⟨a', xs, z1, kp _ _ z2 ne, z3, z4, z5.mono sm⟩
      | arg ds =>
        obtain ⟨a', xs, z1, z2, z3, z4, z5⟩ := z
        have ne : a' ≠ a := fun e' => by
          subst e'
          refine h.ap j i a' e (by rw [q]; trivial) ?_ z1 ha
          rcases getB_some hg with w | w <;> rw [w] <;> trivial
        exact ⟨a', xs, z1, kp _ _ z2 ne, z3, z4, z5.mono sm⟩
      | ob b =>
        obtain ⟨a', z1, z2⟩ := z
        refine ⟨a', z1, z2.mono (fun ow o w => kp _ _ w fun e' => ?_) sm fun _ w => w⟩
        subst e'
        refine h.ap j i a' e (by rw [q]; exact ow) ?_ z1 ha
        rcases getB_some hg with w | w <;> rw [w] <;> trivial
def callE (i n : Nat) (M : List D → List D → Option (D × List D)) (fs : GA) : GE := fun ρ => match getB i ρ with
  | none => none
  | some _ => match fs ρ with
    | none => none
    | some (ds, ρ1) => match getB i ρ1 with
      | none => none
      | some bs => if ds.length = n then match M bs ds with
          | none => none
          | some (d, bs') => some (d, setB i bs' ρ1) else none
theorem callE_some {i : Nat} {M : List D → List D → Option (D × List D)} {fs : GA} {ρ ρ' : Rho} {d : D} (h : callE i n M fs ρ = some (d, ρ')) : ∃ bs0 ds ρ1 bs bs', getB i ρ = some bs0 ∧ fs ρ = some (ds, ρ1) ∧ getB i ρ1 = some bs ∧ ds.length = n ∧ M bs ds = some (d, bs') ∧ ρ' = setB i bs' ρ1 := by
  unfold callE at h
  split at h
  · cases h
  · split at h
    · cases h
    · split at h
      · cases h
      · split at h
        · split at h
          · cases h
          · cases h; exact ⟨_, _, _, _, _, ‹_›, ‹_›, ‹_›, ‹_›, ‹_›, rfl⟩
        · cases h
theorem de_callE (i : Nat) {y : Str} {py : Pos} {M : List D → List D → Option (D × List D)} {fs : GA} (F : FnOk X.prog X.w X.K X.mg X.base CX0 j f fd ps (spE X.K k n M)) (hr : Room j X.A) (hm : X.mg x = some (.ref f)) (hk : PySem.W.keepIn X.K (.ref f) = true) (hb : Binds X.K fd ps [])
    (ha : DG X c es fs) (hkb : k ≠ .b := by decide) (hN : X.N[i]? = some y := by rfl) (hv : Vis X.env.scope y := by first | exact Or.inl rfl | exact Or.inr (Or.inl rfl) | exact Or.inr (Or.inr rfl)) (hd : (y == ("__debug__" : Str)) = false := by decide)
    (hcd : (y == ("__classdict__" : Str)) = false := by decide) (hs : starEach (.Name y py :: es) X.env = (false, eval (.Name y py) X.env) :: starEach es X.env := by rfl) (hg : Gl X x := by rfl) (hdb : (x == ("__debug__" : Str)) = false := by decide) (hpl : (backTo pos (starEach es X.env)).any (·.1) = false := by rfl) :
    DE X c k (.Call (.Name x p) (.Name y py :: es) [] pos) (callE i n M fs) := fun hid ρ =>
  PE.imp (pe_call F hr hg hm hk hb .nil (pass0 (X := X)) (pa_cons (pv i hN hv hd hcd) (ha hid ρ) hs) hdb hs hpl) fun σ H Q hq_ => by
    obtain ⟨sr, d, ρ', hd', q⟩ := hq_
    obtain ⟨bs0, ds, ρ1, bs, bs', e0, e1, e2, e3, e4, rfl⟩ := callE_some hd'
    obtain ⟨a, xs0, a1, _, a3, _, _⟩ := sr.held e0
    refine ⟨.ref a, a1, sr, ds, ρ1, e1, fun us H1 k1 s1 r1 => ?_⟩
    obtain ⟨a', xs, b1, b2, b3, b4, b5⟩ := s1.held e2
    rw [a1] at b1; cases b1
    show spE X.K k n M ((.ref a :: us) ++ []) H1 Q E0
    rw [List.append_nil]
    refine ⟨hid, a, xs, bs, us, ds, rfl, s1.trk, b3, b2, b4, r1, e3, d, bs', e4, fun v H' xs' kp hx hr' => q v H' ?_⟩
    have kp' : Kept hid H1 H' := fun b o q hb => kp b o q fun e => by subst e; rw [b3] at hb; cases hb
    cases k with
    | b => exact absurd rfl hkb
    | s => exact ⟨k1.trans kp', s1.put e2 a1 kp hx hr'.2, hr'.1⟩
    | n =>
      obtain ⟨p', ys, es', rfl, rfl, h1, h2, h3, h4⟩ := hr'
      have np : hid p' = false := s1.fresh h1
      have na : a ≠ p' := fun e => by subst e; rw [b2] at h1; cases h1
      have sB : SR X.K c (hadd hid p') ρ1 σ (upd H1 p' (.lst ys)) := s1.hide (same_new h1 _) h1 upd_same
      have kp2 : ∀ b o, (upd H1 p' (.lst ys)) b = some o → b ≠ a → H' b = some o := fun b o z hb => by
        by_cases e : b = p'
        · subst e; rw [upd_same] at z; cases z; exact h2
        · rw [upd_ne e] at z; exact kp b o z hb
      have sC : SR X.K c (hadd hid p') (setB i bs' ρ1) σ H' := sB.put e2 a1 kp2 hx h4
      have hn : H p' = none := by
        cases e : H p' with
        | none => rfl
        | some o => rw [k1 p' o e np] at h1; cases h1
      refine ⟨k1.trans kp', p', ys, es', rfl, rfl, hn, h2, s1.fresh0 h1, np, sC, h3, fun m hm hσ => ?_⟩
      have := s1.notOw np m (ow_setB hm)
      exact this hσ
end
end L2
set_option Elab.async false
set_option linter.all false
set_option maxRecDepth 100000
namespace L2
open PySem PySem.Spec PyProof.Rows
inductive Out where
  | nx (ρ : Rho) | rt (d : D) (ρ : Rho) | bk (ρ : Rho) | ct (ρ : Rho) | no
abbrev FS := Rho → Out
def hret (c : Ct) (k : Kd) (v : V) : Hid := match k, v with
  | .n, .ref a => hadd c.hid₀ a
  | _, _ => c.hid₀
structure Ret (K : PySem.W.Frag) (c : Ct) (k : Kd) (ρ' : Rho) (H' : Hp) (v : V) (d : D) : Prop where
  kp : ∀ b o, c.H₀ b = some o → c.mu b = false → H' b = some o
  val : match k with
    | .n => ∃ a xs ds, d = .lst ds ∧ v = .ref a ∧ c.H₀ a = none ∧ H' a = some (.lst xs) ∧ Reps K (vw H' (hadd c.hid₀ a)) xs ds
    | _ => Rep K (vw H' c.hid₀) v d
  arg : ∀ (i : Nat) (bs : List D), ρ'[i]? = some (Sl.arg bs) → ∃ a xs, c.mu a = true ∧ H' a = some (.lst xs) ∧ Reps K (vw H' (hret c k v)) xs bs
def EndOk (K : PySem.W.Frag) (c : Ct) (k : Kd) (D : Ends) (W : Hp) : Out → Prop
  | .nx ρ' => ∀ σ' H' hid', SR K c hid' ρ' σ' H' → Same W (vw H' hid') → D.nx σ' H'
  | .rt d ρ' => ∀ v H', Ret K c k ρ' H' v d → D.rt v H'
  | .bk ρ' => ∀ σ' H' hid', SR K c hid' ρ' σ' H' → Same W (vw H' hid') → D.bk σ' H'
  | .ct ρ' => ∀ σ' H' hid', SR K c hid' ρ' σ' H' → Same W (vw H' hid') → D.ct σ' H'
  | .no => False
theorem EndOk.mono {K : PySem.W.Frag} {c : Ct} {k : Kd} {D : Ends} {W W' : Hp} {o : Out} (h : EndOk K c k D W o) (s : Same W W') : EndOk K c k D W' o := by
  cases o with
  | nx ρ => exact fun σ' H' hid' z w => h σ' H' hid' z (s.trans w)
  | rt d ρ => exact h
  | bk ρ => exact fun σ' H' hid' z w => h σ' H' hid' z (s.trans w)
  | ct ρ => exact fun σ' H' hid' z w => h σ' H' hid' z (s.trans w)
  | no => exact h
def rdS (K : PySem.W.Frag) (c : Ct) (k : Kd) (t : FS) (ρ : Rho) : TS := fun D σ H => ∃ hid, SR K c hid ρ σ H ∧ EndOk K c k D (vw H hid) (t ρ)
def DS (X : Cx) (c : Ct) (k : Kd) (st : Stmt) (t : FS) : Prop := ∀ ρ, PS X st (rdS X.K c k t ρ)
def DSs (X : Cx) (c : Ct) (k : Kd) (st : List Stmt) (t : FS) : Prop := ∀ ρ, PSs X st (rdS X.K c k t ρ)
section
variable {X : Cx} {c : Ct} {k : Kd} {st : Stmt} {sts rest : List Stmt} {t u : FS} {e : Expr} {pos : Pos}
theorem exPSs {α : Type} {t : α → TS} (h : ∀ z, PSs X sts (t z)) : PSs X sts (fun D σ H => ∃ z, t z D σ H) := fun pins s σ H D I ⟨z, q⟩ => h z pins s σ H D I q
theorem exPT {α : Type} {t : α → TT} (h : ∀ z, PT X e (t z)) : PT X e (fun D σ H => ∃ z, t z D σ H) := fun pins s σ H D I ⟨z, q⟩ => h z pins s σ H D I q
def skip : FS := fun ρ => .nx ρ
def seqS (t u : FS) : FS := fun ρ => match t ρ with
  | .nx ρ' => u ρ'
  | .rt d ρ' => .rt d ρ'
  | .bk ρ' => .bk ρ'
  | .ct ρ' => .ct ρ'
  | .no => .no
theorem dss_nil : DSs X c k [] skip := fun ρ => PSs.imp pss_nil fun D σ H ⟨hid, sr, q⟩ => q σ H hid sr (Same.refl _)
theorem dss_one (h : DS X c k st t) : DSs X c k [st] t := fun ρ => pss_one (h ρ)
theorem dss_cons (h1 : DS X c k st t) (h2 : DSs X c k rest u) : DSs X c k (st :: rest) (seqS t u) := fun ρ =>
  PSs.imp (pss_cons (h1 ρ) (exPSs fun ρ1 => h2 ρ1)) fun D σ H hq_ => by
    obtain ⟨hid, sr, q⟩ := hq_
    refine ⟨hid, sr, ?_⟩
    unfold seqS at q
    cases e : t ρ with
    | nx ρ1 => rw [e] at q; exact fun σ1 H1 hid1 sr1 v1 => ⟨ρ1, hid1, sr1, EndOk.mono q v1⟩
    | rt d ρ1 => rw [e] at q; exact q
    | bk ρ1 => rw [e] at q; exact q
    | ct ρ1 => rw [e] at q; exact q
    | no => rw [e] at q; exact q
def ifS (p : FT) (t u : FS) : FS := fun ρ => match p ρ with
  | some true => t ρ
  | some false => u ρ
  | none => .no
theorem ds_if {p : FT} {a b : List Stmt} (hp : DT X c e p) (ha : DSs X c k a t) (hb : DSs X c k b u) : DS X c k (.If e a b pos) (ifS p t u) := fun ρ =>
  PS.imp (ps_if (exPT fun hid => hp hid ρ) (ha ρ) (hb ρ)) fun D σ H hq_ => by
    obtain ⟨hid, sr, q⟩ := hq_
    cases e1 : p ρ with
    | none => unfold ifS at q; rw [e1] at q; exact q.elim
    | some x =>
      refine ⟨hid, sr, x, e1, fun H1 s1 => ?_⟩
      unfold ifS at q
      rw [e1] at q
      cases x with
      | true => exact iteT ⟨hid, sr.ext s1, EndOk.mono q (vw_same s1)⟩
      | false => exact iteF ⟨hid, sr.ext s1, EndOk.mono q (vw_same s1)⟩
def retF (f : FE) : FS := fun ρ => match f ρ with
  | some d => .rt d ρ
  | none => .no
theorem retS_ {K : PySem.W.Frag} {hid : Hid} {ρ' : Rho} {σ : St} {H H' : Hp} {v : V} {d : D} (hk : k ≠ .b) (p : PostE K c hid k ρ' σ H H' v d) (h0 : ∀ b, c.hid₀ b = true → hid b = true) : Ret K c k ρ' H' v d := by
  cases k with
  | b => exact absurd rfl hk
  | s =>
    obtain ⟨_, sr, r⟩ := p
    refine ⟨sr.kp, r.mono (vw_less sr.h0), fun i bs e => ?_⟩
    obtain ⟨a, xs, z1, z2, z3, z4, z5⟩ := sr.sl i _ e
    refine ⟨a, xs, z4, z2, ?_⟩
    show Reps K (vw H' c.hid₀) xs bs
    exact z5.mono (vw_less sr.h0)
  | n =>
    obtain ⟨_, a, xs, ds, rfl, rfl, _, h1, h2, h3, sr, h5, h6⟩ := p
    have le : Same (vw H' (hadd hid a)) (vw H' (hadd c.hid₀ a)) := vw_less fun b q => by
      unfold hadd at q ⊢
      cases e : c.hid₀ b with
      | true => rw [h0 b e]; rfl
      | false => rw [e] at q; rw [Bool.or_eq_true]; right; simpa using q
    refine ⟨sr.kp, ⟨a, xs, ds, rfl, rfl, h2, h1, h5.mono le⟩, fun i bs e => ?_⟩
    obtain ⟨a', xs', z1, z2, z3, z4, z5⟩ := sr.sl i _ e
    exact ⟨a', xs', z4, z2, z5.mono le⟩
theorem ds_ret {f : FE} (he : DP X c k e f) (hk : k ≠ .b := by decide) : DS X c k (.Return (some e) pos) (retF f) := fun ρ => PS.imp (ps_ret (exPE fun hid => he hid ρ)) fun D σ H hq_ => by
  obtain ⟨hid, sr, q⟩ := hq_
  unfold retF at q
  cases e1 : f ρ with
  | none => rw [e1] at q; exact q.elim
  | some z => rw [e1] at q; exact ⟨hid, sr, _, e1, fun v H' s r => q v H' (retS_ hk (sr.post s r hk) sr.h0)⟩
def getO : Option Sl → Option (List D)
  | some (.own ds) => some ds
  | _ => none
def retO (i : Nat) : FS := fun ρ => match getO ρ[i]? with
  | some ds => .rt (.lst ds) ρ
  | none => .no
theorem getO_some {o : Option Sl} {ds : List D} (h : getO o = some ds) : o = some (.own ds) := by
  unfold getO at h
  split at h
  · cases h; rfl
  · cases h
theorem ds_retO (i : Nat) {x : Str} {pos' : Pos} (hN : X.N[i]? = some x := by rfl) (hv : Vis X.env.scope x := by first | exact Or.inl rfl | exact Or.inr (Or.inl rfl) | exact Or.inr (Or.inr rfl)) (hd : (x == ("__debug__" : Str)) = false := by decide)
    (hcd : (x == ("__classdict__" : Str)) = false := by decide) : DS X c .n (.Return (some (.Name x pos')) pos) (retO i) := fun ρ => PS.imp (ps_ret (pv i hN hv hd hcd)) fun D σ H hq_ => by
  obtain ⟨hid, sr, q⟩ := hq_
  unfold retO at q
  cases e0 : getO ρ[i]? with
  | none => rw [e0] at q; exact q.elim
  | some ds =>
    rw [e0] at q
    have e := getO_some e0
    obtain ⟨a, xs, z1, z2, z3, z4, z5⟩ := sr.sl i _ e
    have le : Same (vw H hid) (vw H (hadd c.hid₀ a)) := vw_less fun b w => by
      unfold hadd at w
      cases e : c.hid₀ b with
      | true => exact sr.h0 b e
      | false =>
        rw [e] at w
        have : b = a := by simpa using w
        rw [this]; exact z3
    refine ⟨_, z1, q _ H ⟨sr.kp, ⟨a, xs, ds, rfl, rfl, z4, z2, z5.mono le⟩, fun j bs e' => ?_⟩⟩
    obtain ⟨a', xs', w1, w2, w3, w4, w5⟩ := sr.sl j _ e'
    exact ⟨a', xs', w4, w2, w5.mono le⟩
end
end L2
set_option Elab.async false
set_option linter.all false
set_option maxRecDepth 100000
namespace L2
open PySem PySem.Spec PyProof.Rows
section
variable {K : PySem.W.Frag} {c : Ct} {hid : Hid} {ρ : Rho} {σ : St} {H H' : Hp} {i : Nat} {a : Addr} {v : V} {d : D}
theorem SR.setV (h : SR K c hid ρ σ H) (r : Rep K (vw H hid) v d) (i : Nat) : SR K c hid (ρ.set i (.v d)) (σ.set i (some v)) H := by
  refine ⟨h.tr, h.ht, h.h0, h.kp, h.t0, h.c0, h.m0, by simp [h.len], fun j s q => ?_, fun j l z n o1 o2 q1 q2 => ?_⟩
  · by_cases e : j = i
    · subst e
      have lt : j < ρ.length := by
        have := (List.getElem?_eq_some_iff.mp q).1
        simpa using this
      rw [List.getElem?_set_self lt] at q
      cases q
      exact ⟨v, List.getElem?_set_self (by rw [h.len]; exact lt), r⟩
    · rw [List.getElem?_set_ne (Ne.symm e)] at q
      have w := h.sl j s q
      have es : (σ.set i (some v))[j]? = σ[j]? := List.getElem?_set_ne (Ne.symm e)
      cases s with
      | no => trivial
      | v d => obtain ⟨x, h1, h2⟩ := w; exact ⟨x, es.trans h1, h2⟩
      | own ds => obtain ⟨a, xs, h1, h2⟩ := w; exact ⟨a, xs, es.trans h1, h2⟩
      | arg ds => obtain ⟨a, xs, h1, h2⟩ := w; exact ⟨a, xs, es.trans h1, h2⟩
      | ob b => obtain ⟨a, h1, h2⟩ := w; exact ⟨a, es.trans h1, h2⟩
  · have nj : ∀ m, Ow (ρ.set i (.v d))[m]? → m ≠ i := fun m o e => by
      subst e
      by_cases lt : m < ρ.length
      · rw [List.getElem?_set_self lt] at o; exact o
      · rw [List.getElem?_eq_none (by simpa using lt)] at o; exact o
    have e1 := nj j o1
    have e2 := nj l o2
    rw [List.getElem?_set_ne (Ne.symm e1)] at o1 q1
    rw [List.getElem?_set_ne (Ne.symm e2)] at o2 q2
    exact h.ap j l z n o1 o2 q1 q2
theorem SR.setO {xs : List V} {ds : List D} (h : SR K c hid ρ σ H) (ha : H a = some (.lst xs)) (hh : hid a = true) (h0 : c.H₀ a = none) (r : Reps K (vw H hid) xs ds) (no : ∀ i : Nat, Ow ρ[i]? → σ[i]? ≠ some (some (.ref a))) (i : Nat) :
    SR K c hid (ρ.set i (.own ds)) (σ.set i (some (.ref a))) H := by
  refine ⟨h.tr, h.ht, h.h0, h.kp, h.t0, h.c0, h.m0, by simp [h.len], fun j s q => ?_, fun j l z n o1 o2 q1 q2 => ?_⟩
  · by_cases e : j = i
    · subst e
      have lt : j < ρ.length := by
        have := (List.getElem?_eq_some_iff.mp q).1
        simpa using this
      rw [List.getElem?_set_self lt] at q
      cases q
      exact ⟨a, xs, List.getElem?_set_self (by rw [h.len]; exact lt), ha, hh, h0, r⟩
    · rw [List.getElem?_set_ne (Ne.symm e)] at q
      have w := h.sl j s q
      have es : (σ.set i (some (V.ref a)))[j]? = σ[j]? := List.getElem?_set_ne (Ne.symm e)
      cases s with
      | no => trivial
      | v d => obtain ⟨x, h1, h2⟩ := w; exact ⟨x, es.trans h1, h2⟩
      | own ds => obtain ⟨a, xs, h1, h2⟩ := w; exact ⟨a, xs, es.trans h1, h2⟩
      | arg ds => obtain ⟨a, xs, h1, h2⟩ := w; exact ⟨a, xs, es.trans h1, h2⟩
      | ob b => obtain ⟨a, h1, h2⟩ := w; exact ⟨a, es.trans h1, h2⟩
  · by_cases e1 : j = i
    · subst e1
      have e2 : l ≠ j := fun e => n e.symm
      rw [List.getElem?_set_ne (Ne.symm e2)] at o2 q2
      by_cases lt : j < σ.length
      · rw [List.getElem?_set_self lt] at q1; cases q1; exact no l o2 q2
      · rw [List.getElem?_eq_none (by simpa using lt)] at q1; cases q1
    · rw [List.getElem?_set_ne (Ne.symm e1)] at o1 q1
      by_cases e2 : l = i
      · subst e2
        by_cases lt : l < σ.length
        · rw [List.getElem?_set_self lt] at q2; cases q2; exact no j o1 q1
        · rw [List.getElem?_eq_none (by simpa using lt)] at q2; cases q2
      · rw [List.getElem?_set_ne (Ne.symm e2)] at o2 q2
        exact h.ap j l z n o1 o2 q1 q2
end
section
variable {X : Cx} {c : Ct} {k : Kd} {st : Stmt} {sts rest : List Stmt} {t u : FS} {e : Expr} {es : List Expr} {pos pos' : Pos} {x : Str} {i : Nat}
def setE (i : Nat) (f : GE) : FS := fun ρ => match f ρ with
  | some (d, ρ') => .nx (ρ'.set i (.v d))
  | none => .no
def setF (i : Nat) (f : FE) : FS := fun ρ => match f ρ with
  | some d => .nx (ρ.set i (.v d))
  | none => .no
def asL : D → Option (List D)
  | .lst ds => some ds
  | _ => none
def ownF (i : Nat) (f : FE) : FS := fun ρ => match f ρ with
  | some d => (match asL d with
    | some ds => .nx (ρ.set i (.own ds))
    | none => .no)
  | none => .no
theorem ds_setE (i : Nat) {f : GE} (hn : X.N.Nodup) (he : DE X c .s e f) (hi : X.N[i]? = some x := by rfl) (hx : Loc X.env.scope x := by first | exact Or.inl rfl | exact Or.inr rfl) (hs : swapsWith e (some (.Name x pos')) pos.line X.env = pure false := by rfl)
    (hf : X.fn x = true ∨ X.env.scope.names.lookup x = some .local := by first | exact .inl rfl | exact .inr rfl | assumption) : DS X c k (.Assign [.Name x pos'] e pos) (setE i f) := fun ρ => PS.imp (ps_set hn hi hx (exPE fun hid => he hid ρ) hs hf) fun D σ H hq_ => by
  obtain ⟨hid, sr, q⟩ := hq_
  unfold setE at q
  cases e1 : f ρ with
  | none => rw [e1] at q; exact q.elim
  | some z =>
    rw [e1] at q
    exact ⟨hid, sr, z.1, z.2, e1, fun v H' ⟨kp, s', r⟩ => q _ H' hid (s'.setV r i) kp.vw⟩
theorem ds_setF (i : Nat) {f : FE} (hn : X.N.Nodup) (he : DP X c .s e f) (hi : X.N[i]? = some x := by rfl) (hx : Loc X.env.scope x := by first | exact Or.inl rfl | exact Or.inr rfl) (hs : swapsWith e (some (.Name x pos')) pos.line X.env = pure false := by rfl)
    (hf : X.fn x = true ∨ X.env.scope.names.lookup x = some .local := by first | exact .inl rfl | exact .inr rfl | assumption) : DS X c k (.Assign [.Name x pos'] e pos) (setF i f) := fun ρ => PS.imp (ps_set hn hi hx (exPE fun hid => he hid ρ) hs hf) fun D σ H hq_ => by
  obtain ⟨hid, sr, q⟩ := hq_
  unfold setF at q
  cases e1 : f ρ with
  | none => rw [e1] at q; exact q.elim
  | some z =>
    rw [e1] at q
    exact ⟨hid, sr, z, e1, fun v H' s' r => q _ H' hid ((sr.ext s').setV r i) (vw_same s')⟩
theorem own_ {K : PySem.W.Frag} {hid : Hid} {ρ' : Rho} {σ : St} {H H' : Hp} {v : V} {d : D} {D : Ends} (p : PostE K c hid .n ρ' σ H H' v d) (q : EndOk K c k D (vw H hid) (match asL d with
    | some ds => .nx (ρ'.set i (.own ds))
    | none => .no)) : D.nx (σ.set i (some v)) H' := by
  obtain ⟨kp, a, xs, ds, rfl, rfl, hn, h1, h2, h3, h4, h5, h6⟩ := p
  refine q _ H' (hadd hid a) (h4.setO h1 hadd_self h2 h5 h6 i) fun b o w => ?_
  obtain ⟨w1, w2⟩ := vw_some.mp w
  refine vw_some.mpr ⟨?_, kp b o w2 w1⟩
  unfold hadd
  rw [w1]
  have : b ≠ a := ne_of_none w2 hn
  simp [this]
theorem ds_ownF (i : Nat) {f : FE} (hn : X.N.Nodup) (he : DP X c .n e f) (hi : X.N[i]? = some x := by rfl) (hx : Loc X.env.scope x := by first | exact Or.inl rfl | exact Or.inr rfl) (hs : swapsWith e (some (.Name x pos')) pos.line X.env = pure false := by rfl)
    (hf : X.fn x = true ∨ X.env.scope.names.lookup x = some .local := by first | exact .inl rfl | exact .inr rfl | assumption) : DS X c k (.Assign [.Name x pos'] e pos) (ownF i f) := fun ρ => PS.imp (ps_set hn hi hx (exPE fun hid => he hid ρ) hs hf) fun D σ H hq_ => by
  obtain ⟨hid, sr, q⟩ := hq_
  unfold ownF at q
  cases e1 : f ρ with
  | none => rw [e1] at q; exact q.elim
  | some z =>
    rw [e1] at q
    exact ⟨hid, sr, z, e1, fun v H' s r => own_ (sr.post s r (by decide)) q⟩
def dropE (f : GE) : FS := fun ρ => match f ρ with
  | some (_, ρ') => .nx ρ'
  | none => .no
theorem ds_expr {f : GE} (he : DE X c .s e f) (hs : swapsWith e none pos.line X.env = pure false := by rfl) : DS X c k (.Expr e pos) (dropE f) := fun ρ => PS.imp (ps_expr (exPE fun hid => he hid ρ) hs) fun D σ H hq_ => by
  obtain ⟨hid, sr, q⟩ := hq_
  unfold dropE at q
  cases e1 : f ρ with
  | none => rw [e1] at q; exact q.elim
  | some z =>
    rw [e1] at q
    exact ⟨hid, sr, z.1, z.2, e1, fun v H' ⟨kp, s', _⟩ => q _ H' hid s' kp.vw⟩
def MtD (K : PySem.W.Frag) (r : V → List V → Hp → VK → Prop) (n : Nat) (M : List D → List D → Option (D × List D)) : Prop := ∀ (H : Hp) (hid : Hid) (a : Addr) (xs us : List V) (bs ds bs' : List D) (d : D) (Q : VK), H a = some (.lst xs) → hid a = true → Reps K (vw H hid) xs bs → Reps K (vw H hid) us ds →
  ds.length = n → M bs ds = some (d, bs') → (∀ w xs', Reps K (vw H hid) xs' bs' → Rep K (vw H hid) w d → Q w (upd H a (.lst xs'))) → r (.ref a) us H Q
theorem meth_ {K : PySem.W.Frag} {r : V → List V → Hp → VK → Prop} {n : Nat} {M : List D → List D → Option (D × List D)} (hM : MtD K r n M) {hid : Hid} {ρ1 : Rho} {σ : St} {H H1 : Hp} {a : Addr} {us : List V} {bs ds bs' : List D} {d : D} {Q : VK} (k1 : Kept hid H H1) (s1 : SR K c hid ρ1 σ H1) (e2 : getB i ρ1 = some bs)
    (ha : σ[i]? = some (some (.ref a))) (r1 : Reps K (vw H1 hid) us ds) (hn : ds.length = n) (hm : M bs ds = some (d, bs')) (q : ∀ v H', PostE K c hid .s (setB i bs' ρ1) σ H H' v d → Q v H') : r (.ref a) us H1 Q := by
  obtain ⟨a', xs, b1, b2, b3, b4, b5⟩ := s1.held e2
  rw [ha] at b1; cases b1
  refine hM H1 hid a xs us bs ds bs' d Q b2 b3 b4 r1 hn hm fun w xs' rx rw' => q w _ ⟨k1.trans fun b o z hb => ?_, ?_, ?_⟩
  · rw [upd_ne (fun e => by subst e; rw [b3] at hb; cases hb)]; exact z
  · exact s1.put e2 ha (fun b o z hb => by rw [upd_ne hb]; exact z) upd_same (by rw [vw_upd b3]; exact rx)
  · rw [vw_upd b3]; exact rw'
variable {n : Nat} {M : List D → List D → Option (D × List D)} {fs : GA} {r : V → List V → Hp → VK → Prop} {y name : Str} {py apos : Pos} {id : String}
theorem de_meth (i : Nat) (hM : MtD X.K r n M) (hm : MtM X id r) (slot : Slot "list" name id) (hty : typeOf (.builtin id) = pure (.type "method_descriptor")) (ha : DG X c (e :: es) fs)
    (hN : X.N[i]? = some y := by rfl) (hv : Vis X.env.scope y := by first | exact Or.inl rfl | exact Or.inr (Or.inl rfl) | exact Or.inr (Or.inr rfl)) (hd : (y == ("__debug__" : Str)) = false := by decide) (hcd : (y == ("__classdict__" : Str)) = false := by decide)
    (hbase : attributeBase (.Name y py) name X.env (eval (.Name y py) X.env) = eval (.Name y py) X.env := by rfl)
    (hfew : ((backTo pos (starEach (e :: es) X.env)).all (fun x => !x.1) && (backToKw pos (keywordEach [] X.env)).all (fun x => x.1.isSome)
      && decide ((e :: es).length + ([] : List Keyword).length + (if ([] : List Keyword).isEmpty then 0 else 1) < 30)) = true := by rfl)
    (hline : (apos.endLine == pos.line) = true := by rfl) (hs : starEach (e :: es) X.env = (false, eval e X.env) :: starEach es X.env := by rfl) (hplain : (backTo pos (starEach es X.env)).any (·.1) = false := by rfl) :
    DE X c .s (.Call (.Attribute (.Name y py) name apos) (e :: es) [] pos) (callE i n M fs) := fun hid ρ =>
  PE.imp (pe_bm PySem.F.plainAttrs_list slot hty hm (pv i hN hv hd hcd) (ha hid ρ) hbase hfew hline hs hplain) fun σ H Q hq_ => by
    obtain ⟨sr, d, ρ', hd', q⟩ := hq_
    obtain ⟨bs0, ds, ρ1, bs, bs', e0, e1, e2, e3, e4, rfl⟩ := callE_some hd'
    obtain ⟨a, xs0, a1, a2, a3, _, _⟩ := sr.held e0
    exact ⟨.ref a, a1, .inl ⟨rfl, _, SqL.of a2⟩, sr, ds, ρ1, e1, fun us H1 k1 s1 r1 => meth_ hM k1 s1 e2 a1 r1 e3 e4 q⟩
theorem de_meth0 (i : Nat) (hM : MtD X.K r 0 M) (hm : MtM X id r) (slot : Slot "list" name id) (hty : typeOf (.builtin id) = pure (.type "method_descriptor"))
    (hN : X.N[i]? = some y := by rfl) (hv : Vis X.env.scope y := by first | exact Or.inl rfl | exact Or.inr (Or.inl rfl) | exact Or.inr (Or.inr rfl)) (hd : (y == ("__debug__" : Str)) = false := by decide) (hcd : (y == ("__classdict__" : Str)) = false := by decide)
    (hbase : attributeBase (.Name y py) name X.env (eval (.Name y py) X.env) = eval (.Name y py) X.env := by rfl) (hline : (apos.endLine == pos.line) = true := by rfl) :
    DE X c .s (.Call (.Attribute (.Name y py) name apos) [] [] pos) (callE i 0 M (puA nilA)) := fun hid ρ =>
  PE.imp (pe_bm0 PySem.F.plainAttrs_list slot hty hm (pv i hN hv hd hcd) hbase hline) fun σ H Q hq_ => by
    obtain ⟨sr, d, ρ', hd', q⟩ := hq_
    obtain ⟨bs0, ds, ρ1, bs, bs', e0, e1, e2, e3, e4, rfl⟩ := callE_some hd'
    obtain ⟨e5, rfl⟩ := puA_some e1
    cases e5
    obtain ⟨a, xs0, a1, a2, a3, _, _⟩ := sr.held e0
    exact ⟨.ref a, a1, .inl ⟨rfl, _, SqL.of a2⟩, meth_ hM (.of (Same.refl _)) sr e2 a1 .nil e3 e4 q⟩
end
section
variable {K : PySem.W.Frag}
def appM : List D → List D → Option (D × List D) := fun bs ds => match ds with
  | [d] => if bs.length < sizeLine then some (.non, bs ++ [d]) else none
  | _ => none
theorem md_append : MtD K rAppend 1 appM := by
  intro H hid a xs us bs ds bs' d Q h1 h2 h3 h4 h5 h6 q
  unfold appM at h6
  split at h6
  · split at h6
    · cases h6
      cases h4 with
      | cons r t =>
        cases t
        exact ⟨a, xs, _, rfl, rfl, h1, by rw [h3.length]; assumption, q _ _ (h3.append (.cons r .nil)) .non⟩
    · cases h6
  · cases h6
def popM : List D → List D → Option (D × List D) := fun bs ds => match ds with
  | [.int i] => match (if bs.length ≤ sizeLine then ixN bs.length i else none) with
    | some j => (bs[j]?).map fun d => (d, bs.eraseIdx j)
    | none => none
  | _ => none
theorem md_pop : MtD K rPopAt 1 popM := by
  intro H hid a xs us bs ds bs' d Q h1 h2 h3 h4 h5 h6 q
  unfold popM at h6
  split at h6
  · split at h6
    · rename_i i _ j e
      cases e1 : bs[j]? with
      | none => rw [e1] at h6; cases h6
      | some z =>
        rw [e1] at h6; cases h6
        cases h4 with
        | cons r t =>
          cases t
          cases r
          obtain ⟨x, g1, g2⟩ := h3.get e1
          split at e
          · obtain ⟨w1, w2, w3, w4⟩ := ixN_seq e
            have hl := h3.length
            have l63 := line63
            refine ⟨a, xs, i, j, x, rfl, rfl, h1, by omega, by omega, by rw [hl]; exact w1, g1, q _ _ (h3.eraseIdx j) g2⟩
          · cases e
    · cases h6
  · cases h6
end
end L2
set_option Elab.async false
set_option linter.all false
set_option maxRecDepth 100000
namespace L2
open PySem PySem.Spec PyProof.Rows
abbrev FG := D → Rho → Option Rho
def OwK (ρ ρ' : Rho) (σ σ' : St) : Prop := ∀ i : Nat, Ow ρ'[i]? → Ow ρ[i]? ∧ σ'[i]? = σ[i]?
def rdGt (K : PySem.W.Frag) (c : Ct) (hid : Hid) (g : FG) (ρ : Rho) (d : D) : TG := fun v σ H Q => SR K c hid ρ σ H ∧ Rep K (vw H hid) v d ∧ ∃ ρ', g d ρ = some ρ' ∧ ∀ σ' , SR K c hid ρ' σ' H → OwK ρ ρ' σ σ' → Q σ' H
def DGt (X : Cx) (c : Ct) (tg : Expr) (g : FG) : Prop := ∀ hid ρ d, PG X tg (rdGt X.K c hid g ρ d)
theorem PG.imp {X : Cx} {e : Expr} {t t' : TG} (h : PG X e t) (i : ∀ v σ H Q, t' v σ H Q → t v σ H Q) : PG X e t' := fun pins s σ H v u Q I r q => h pins s σ H v u Q I r (i v σ H Q q)
theorem exPG {X : Cx} {e : Expr} {α : Type} {t : α → TG} (h : ∀ z, PG X e (t z)) : PG X e (fun v σ H Q => ∃ z, t z v σ H Q) := fun pins s σ H v u Q I r ⟨z, q⟩ => h z pins s σ H v u Q I r q
section
variable {X : Cx} {c : Ct} {k : Kd} {st : Stmt} {sts body : List Stmt} {t u : FS} {e tg iter : Expr} {es : List Expr} {pos pos' : Pos} {x : Str} {i : Nat}
def gN (i : Nat) : FG := fun d ρ => some (ρ.set i (.v d))
theorem dgt_name (i : Nat) (hn : X.N.Nodup) (hi : X.N[i]? = some x := by rfl) (hx : Loc X.env.scope x := by first | exact Or.inl rfl | exact Or.inr rfl) (hf : X.fn x = true ∨ X.env.scope.names.lookup x = some .local := by first | exact .inl rfl | exact .inr rfl | assumption) :
    DGt X c (.Name x pos) (gN i) := fun hid ρ d => PG.imp (pg_name (i := i) hn hi hx hf) fun v σ H Q hq_ => by
  obtain ⟨sr, r, ρ', e, q⟩ := hq_
  cases e
  refine q _ (sr.setV r i) fun j o => ?_
  have ne : j ≠ i := fun e => by
    subst e
    by_cases lt : j < ρ.length
    · rw [List.getElem?_set_self lt] at o; exact o
    · rw [List.getElem?_eq_none (by simpa using lt)] at o; exact o
  rw [List.getElem?_set_ne (Ne.symm ne)] at o ⊢
  exact ⟨o, rfl⟩
def outO : Option Rho → Out
  | some ρ => .nx ρ
  | none => .no
def asgE (g : FG) (f : GE) : FS := fun ρ => match f ρ with
  | some z => outO (g z.1 z.2)
  | none => .no
def setIx (i : Nat) (fi : FE) (d : D) (ρ : Rho) : Option Rho := match getB i ρ with
  | some bs => (match fi ρ with
    | some (.int j) => (match ixN bs.length j with
      | some m => some (setB i (bs.set m d) ρ)
      | none => none)
    | _ => none)
  | none => none
theorem setIx_some {fi : FE} {d : D} {ρ ρ' : Rho} (h : setIx i fi d ρ = some ρ') : ∃ bs j m, getB i ρ = some bs ∧ fi ρ = some (.int j) ∧ ixN bs.length j = some m ∧ ρ' = setB i (bs.set m d) ρ := by
  unfold setIx at h
  split at h
  · split at h
    · split at h
      · cases h; exact ⟨_, _, _, ‹_›, ‹_›, ‹_›, rfl⟩
      · cases h
    · cases h
  · cases h
def rdHt (K : PySem.W.Frag) (c : Ct) (hid : Hid) (g : FG) (ρ : Rho) (d : D) : TG := fun v σ H Q => SR K c hid ρ σ H ∧ Rep K (vw H hid) v d ∧ ∃ ρ', g d ρ = some ρ' ∧ ∀ H' , Kept hid H H' → SR K c hid ρ' σ H' → Q σ H'
def DHt (X : Cx) (c : Ct) (tg : Expr) (g : FG) : Prop := ∀ hid ρ d, PG X tg (rdHt X.K c hid g ρ d)
theorem dht_sub (i : Nat) {y : Str} {py : Pos} {ix : Expr} {fi : FE} {k1 : Kd} (hi : DP X c k1 ix fi) (hN : X.N[i]? = some y := by rfl) (hv : Vis X.env.scope y := by first | exact Or.inl rfl | exact Or.inr (Or.inl rfl) | exact Or.inr (Or.inr rfl)) (hd : (y == ("__debug__" : Str)) = false := by decide) (hcd : (y == ("__classdict__" : Str)) = false := by decide)
    (ha : ∀ v, assign (.Subscript (.Name y py) ix pos) X.env v = (do
      let ov ← holding [v] (eval (.Name y py) X.env)
      let iv ← holding [v, ov] (eval ix X.env)
      standAt pos
      holding [v, ov, iv] (setItem ov iv v)
      release [v, ov, iv] []) := by intro _; rfl) : DHt X c (.Subscript (.Name y py) ix pos) (setIx i fi) := fun hid ρ d =>
  PG.imp (pg_sub (pv i hN hv hd hcd) (hi hid ρ) set_list ha) fun v σ H Q hq_ => by
    obtain ⟨sr, r, ρ', e, q⟩ := hq_
    obtain ⟨bs, j, m, e1, e2, e3, rfl⟩ := setIx_some e
    obtain ⟨a, xs, a1, a2, a3, a4, a5⟩ := sr.held e1
    refine ⟨.ref a, a1, sr, _, e2, fun w H1 s1 r1 => ?_⟩
    have b1 := (RK.b k1 r1 fun a n => sr.fresh n).int
    cases b1
    have a4' := a4.mono (vw_same (hid := hid) s1)
    refine ⟨a, xs, j, m, rfl, rfl, s1 _ _ a2, by rw [a4.length]; exact e3, q _ (fun b o z hb => ?_) ?_⟩
    · rw [upd_ne (fun e => by subst e; rw [a3] at hb; cases hb)]; exact s1 _ _ z
    · exact (sr.ext s1).put e1 a1 (fun b o z hb => by rw [upd_ne hb]; exact z) upd_same (by rw [vw_upd a3]; exact Reps.set (r.mono (vw_same s1)) m a4')
theorem ds_put {g : FG} {f : GE} (he : DE X c .s e f) (hg : DHt X c tg g) (hs : swapsWithSole [tg] e pos.line X.env = pure false := by rfl) (hw : swappedStores [tg] e X.env = pure none := by rfl)
    (h1 : (assignEach [tg] X.env).map (·.2) = [assign tg X.env] := by rfl) : DS X c k (.Assign [tg] e pos) (asgE g f) := fun ρ =>
  PS.imp (ps_asg (exPE fun hid => he hid ρ) (exPG fun z : Hid × Rho × D => hg z.1 z.2.1 z.2.2) hs hw h1) fun D σ H hq_ => by
    obtain ⟨hid, sr, q⟩ := hq_
    unfold asgE at q
    cases e1 : f ρ with
    | none => rw [e1] at q; exact q.elim
    | some z =>
      rw [e1] at q
      cases e2 : g z.1 z.2 with
      | none => dsimp only at q; rw [e2] at q; exact q.elim
      | some ρ2 =>
        dsimp only at q; rw [e2] at q
        exact ⟨hid, sr, z.1, z.2, e1, fun v H' ⟨kp, s', r⟩ => ⟨(hid, z.2, z.1), s', r, ρ2, e2, fun H2 k2 s2 => q σ H2 hid s2 (kp.trans k2).vw⟩⟩
def ItOk (K : PySem.W.Frag) (W : Hp) (J : It) (ds : List D) : Prop :=
  (∀ (i : Nat) (d : D) (H : Hp), ds[i]? = some d → Same W H → J.go i H ∧ ∀ x H', J.yld i H x H' → Same H H' ∧ ∀ hid : Hid, (∀ b, hid b = true → ∃ o, H b = some o) → Same W (vw H hid) → Rep K (vw H' hid) x d) ∧ ∀ H, Same W H → J.stop ds.length H
def rdI (K : PySem.W.Frag) (c : Ct) (hid : Hid) (f : GA) (ρ : Rho) : TI := fun σ H R => SR K c hid ρ σ H ∧ ∃ ds ρ', f ρ = some (ds, ρ') ∧ ∀ J H', Kept hid H H' → SR K c hid ρ' σ H' → ItOk K (vw H' hid) J ds → R J H'
def DI (X : Cx) (c : Ct) (tg iter : Expr) (f : GA) : Prop := ∀ hid ρ, PI X tg iter (rdI X.K c hid f ρ)
theorem PI.imp {t t' : TI} (h : PI X tg iter t) (i : ∀ σ H Q, t' σ H Q → t σ H Q) : PI X tg iter t' := fun pins s σ H R I q => h pins s σ H R I (i σ H R q)
theorem exPI {α : Type} {t : α → TI} (h : ∀ z, PI X tg iter (t z)) : PI X tg iter (fun σ H R => ∃ z, t z σ H R) := fun pins s σ H R I ⟨z, q⟩ => h z pins s σ H R I q
theorem itok_tup {K : PySem.W.Frag} {W : Hp} {a : Addr} {xs : List V} {ds : List D} (h : SqT K W a xs) (r : Reps K W xs ds) : ItOk K W (Itt K a) ds := by
  refine ⟨fun i d H e s => ?_, fun H s => ⟨xs, Same.seqT s h, by rw [r.length]; exact Nat.le_refl _⟩⟩
  obtain ⟨x, e1, r1⟩ := r.get e
  refine ⟨⟨xs, x, Same.seqT s h, e1⟩, fun y H' ⟨e2, e3⟩ => ?_⟩
  subst e2
  have := e3 xs (Same.seqT s h)
  rw [e1] at this; cases this
  exact ⟨Same.refl _, fun hid _ sw => r1.mono sw⟩
def ups (lo : Int) (n : Nat) : List D := (List.range n).map fun (i : Nat) => D.int (lo + i)
theorem itok_range {K : PySem.W.Frag} {W : Hp} {lo : Int} {n : Nat} : ItOk K W (Itr lo n) (ups lo n) := by
  refine ⟨fun i d H e s => ?_, fun H s => by show n ≤ (ups lo n).length; simp [ups]⟩
  unfold ups at e
  rw [List.getElem?_map] at e
  cases e1 : (List.range n)[i]? with
  | none => rw [e1] at e; cases e
  | some j =>
    rw [e1] at e
    obtain ⟨h1, h2⟩ := List.getElem?_eq_some_iff.mp e1
    simp at h1 h2
    subst h2
    cases e
    refine ⟨h1, fun y H' ⟨e2, e3⟩ => ?_⟩
    subst e2 e3
    exact ⟨Same.refl _, fun hid _ sw => .int⟩
def rng1 (f : GA) : GA := fun ρ => match f ρ with
  | some ([.int j], ρ') => if j.natAbs < 4000000000 then some (ups 0 j.toNat, ρ') else none
  | _ => none
theorem di_range1 {a : Expr} {f : GA} {p : Pos} (hm : X.mg "range" = none) (ha : DG X c [a] f) (hg : Gl X "range" := by rfl) (hs : starEach [a] X.env = [(false, eval a X.env)] := by rfl) : DI X c tg (.Call (.Name "range" p) [a] [] pos) (rng1 f) := fun hid ρ =>
  PI.imp (pi_range1 hg hm (ha hid ρ) hs) fun σ H R hq_ => by
    obtain ⟨sr, ds, ρ', e, q⟩ := hq_
    unfold rng1 at e
    split at e
    · split at e
      · cases e
        refine ⟨sr, _, _, ‹_›, fun vs H' kp s' r => ?_⟩
        cases r with
        | cons r t => cases t; cases r; exact ⟨_, rfl, by omega, by omega, q _ H' kp s' itok_range⟩
      · cases e
    · cases e
def forL (g : FG) (b : FS) : List D → FS
  | [], ρ => .nx ρ
  | d :: r, ρ => match g d ρ with
    | none => .no
    | some ρ1 => match b ρ1 with
      | .nx ρ2 => forL g b r ρ2
      | .ct ρ2 => forL g b r ρ2
      | .bk ρ2 => .nx ρ2
      | .rt d ρ2 => .rt d ρ2
      | .no => .no
def forS (f : GA) (g : FG) (b : FS) : FS := fun ρ => match f ρ with
  | some (ds, ρ') => forL g b ds ρ'
  | none => .no
theorem ds_for {f : GA} {g : FG} {tb : FS} (hp : PassesOwn (model X.prog X.w) X.A X.env X.xe) (hc : X.calm = true) (hi : DI X c tg iter f) (hg : DGt X c tg g) (hb : DSs X c k body tb)
    (hs : ∀ x, foldedSetIterable iter X.env x = pure x := by intro _; rfl) : DS X c k (.For tg iter body [] pos) (forS f g tb) := fun ρ =>
  PS.imp (ps_for hp hc (exPI fun hid => hi hid ρ) (exPG fun z : Hid × Rho × D => hg z.1 z.2.1 z.2.2) (exPSs fun ρ => hb ρ) hs) fun D σ H hq_ => by
    obtain ⟨hid, sr, q⟩ := hq_
    unfold forS at q
    cases e1 : f ρ with
    | none => rw [e1] at q; exact q.elim
    | some z =>
      obtain ⟨ds, ρ0⟩ := z
      rw [e1] at q
      have q' : EndOk X.K c k D (vw H hid) (forL g tb ds ρ0) := q
      refine ⟨hid, sr, ds, ρ0, e1, fun J H1 kp s1 it => ?_⟩
      refine ⟨fun i m σ H => m = ds.length - i ∧ i ≤ ds.length ∧ ∃ hid2 ρ2, SR X.K c hid2 ρ2 σ H ∧ Same (vw H1 hid) (vw H hid2) ∧ EndOk X.K c k D (vw H hid2) (forL g tb (ds.drop i) ρ2), ⟨ds.length, by simp, Nat.zero_le _, hid, ρ0, s1, Same.refl _, EndOk.mono q' kp.vw⟩, ?_⟩
      rintro i m σ2 H2 ⟨rfl, hi', hid2, ρ2, s2, w2, q2⟩
      have wH : Same (vw H1 hid) H2 := w2.trans (vw_le _ _)
      by_cases hlt : i < ds.length
      · have hd : ds[i]? = some ds[i] := List.getElem?_eq_getElem hlt
        have e2 : ds.drop i = ds[i] :: ds.drop (i + 1) := List.drop_eq_getElem_cons hlt
        rw [e2] at q2
        unfold forL at q2
        obtain ⟨go, yl⟩ := it.1 i ds[i] H2 hd wH
        refine .inr ⟨go, fun σ' H' => ∃ hid3 ρ3, SR X.K c hid3 ρ3 σ' H' ∧ Same (vw H1 hid) (vw H' hid3) ∧ EndOk X.K c k D (vw H' hid3) (forL g tb (ds.drop (i + 1)) ρ3), fun σ' H' n3 => ⟨ds.length - (i + 1), by omega, rfl, hlt, n3⟩, fun x H3 y => ?_⟩
        obtain ⟨s3, rp⟩ := yl x H3 y
        have rx := rp hid2 s2.tr w2
        cases e3 : g ds[i] ρ2 with
        | none => rw [e3] at q2; exact q2.elim
        | some ρ3 =>
          rw [e3] at q2
          refine ⟨(hid2, ρ2, ds[i]), s2.ext s3, rx, ρ3, e3, fun σ4 s4 _ => ⟨ρ3, hid2, s4, ?_⟩⟩
          have w3 : Same (vw H2 hid2) (vw H3 hid2) := vw_same s3
          dsimp only at q2
          cases e4 : tb ρ3 with
          | nx ρ5 => rw [e4] at q2; exact fun σ' H' hid' z w => ⟨hid', ρ5, z, (w2.trans w3).trans w, EndOk.mono q2 (w3.trans w)⟩
          | ct ρ5 => rw [e4] at q2; exact fun σ' H' hid' z w => ⟨hid', ρ5, z, (w2.trans w3).trans w, EndOk.mono q2 (w3.trans w)⟩
          | bk ρ5 => rw [e4] at q2; exact fun σ' H' hid' z w => q2 σ' H' hid' z (w3.trans w)
          | rt d ρ5 => rw [e4] at q2; exact q2
          | no => rw [e4] at q2; exact q2.elim
      · have e : i = ds.length := by omega
        subst e
        rw [List.drop_eq_nil_of_le (Nat.le_refl _)] at q2
        exact .inl ⟨it.2 H2 wH, q2 σ2 H2 hid2 s2 (Same.refl _)⟩
def whL (p : FT) (b : FS) : Nat → FS
  | 0, _ => .no
  | n + 1, ρ => match p ρ with
    | none => .no
    | some false => .nx ρ
    | some true => match b ρ with
      | .nx ρ2 => whL p b n ρ2
      | .ct ρ2 => whL p b n ρ2
      | .bk ρ2 => .nx ρ2
      | .rt d ρ2 => .rt d ρ2
      | .no => .no
theorem ds_while (n : Nat) {p : FT} {tb : FS} (hp : PassesOwn (model X.prog X.w) X.A X.env X.xe) (hc : DT X c e p) (hb : DSs X c k body tb) : DS X c k (.While e body [] pos) (whL p tb n) := fun ρ =>
  PS.imp (ps_while hp (exPT fun z : Hid × Rho => hc z.1 z.2) (exPSs fun ρ => hb ρ)) fun D σ H hq_ => by
    obtain ⟨hid, sr, q⟩ := hq_
    refine ⟨fun m σ H => ∃ hid2 ρ2, SR X.K c hid2 ρ2 σ H ∧ EndOk X.K c k D (vw H hid2) (whL p tb m ρ2), ⟨n, hid, ρ, sr, q⟩, ?_⟩
    rintro m σ2 H2 ⟨hid2, ρ2, s2, q2⟩
    cases m with
    | zero => exact q2.elim
    | succ m =>
      unfold whL at q2
      cases e1 : p ρ2 with
      | none => rw [e1] at q2; exact q2.elim
      | some b =>
        rw [e1] at q2
        refine ⟨(hid2, ρ2), s2, b, e1, fun H3 s3 => ?_⟩
        cases b with
        | false => exact iteF (q2 σ2 H3 hid2 (s2.ext s3) (vw_same s3))
        | true =>
          refine iteT ⟨fun σ' H' => ∃ hid3 ρ3, SR X.K c hid3 ρ3 σ' H' ∧ EndOk X.K c k D (vw H' hid3) (whL p tb m ρ3), fun σ' H' n3 => ⟨m, Nat.lt_succ_self _, n3⟩, ρ2, hid2, s2.ext s3, ?_⟩
          have w3 : Same (vw H2 hid2) (vw H3 hid2) := vw_same s3
          dsimp only at q2
          cases e4 : tb ρ2 with
          | nx ρ5 => rw [e4] at q2; exact fun σ' H' hid' z w => ⟨hid', ρ5, z, EndOk.mono q2 (w3.trans w)⟩
          | ct ρ5 => rw [e4] at q2; exact fun σ' H' hid' z w => ⟨hid', ρ5, z, EndOk.mono q2 (w3.trans w)⟩
          | bk ρ5 => rw [e4] at q2; exact fun σ' H' hid' z w => q2 σ' H' hid' z (w3.trans w)
          | rt d ρ5 => rw [e4] at q2; exact q2
          | no => rw [e4] at q2; exact q2.elim
end
end L2
set_option Elab.async false
set_option linter.all false
set_option maxRecDepth 100000
namespace L2
open PySem PySem.Spec PyProof.Rows
def rho0 (n : Nat) (ds : List D) : Rho := ds.map Sl.v ++ List.replicate (n - ds.length) .no
def fnP (kd : Kd) (n : Nat) (t : FS) (ds : List D) : Option D := match t (rho0 n ds) with
  | .rt d _ => some d
  | .nx _ => (match kd with
    | .n => none
    | _ => some .non)
  | _ => none
def rhoE (n : Nat) (bs ds : List D) : Rho := .arg bs :: (ds.map Sl.v ++ List.replicate (n - 1 - ds.length) .no)
def arg0 : Rho → Option (List D)
  | .arg bs :: _ => some bs
  | _ => none
def fnE (kd : Kd) (n : Nat) (t : FS) (bs ds : List D) : Option (D × List D) := match t (rhoE n bs ds) with
  | .rt d ρ => (arg0 ρ).map fun b => (d, b)
  | .nx ρ => (match kd with
    | .n => none
    | _ => (arg0 ρ).map fun b => (.non, b))
  | _ => none
theorem slots0 {K : PySem.W.Frag} {c : Ct} {hid : Hid} {H : Hp} (m : Nat) : ∀ {vs : List V} {ds : List D}, Reps K (vw H hid) vs ds → ∀ (i : Nat) (s : Sl), (ds.map Sl.v ++ List.replicate m .no)[i]? = some s → SlOk K c hid (vs.map some ++ List.replicate m none) H i s := by
  intro vs ds r i s e
  have hl := r.length
  by_cases hi : i < ds.length
  · rw [List.getElem?_append_left (by simpa using hi), List.getElem?_map] at e
    have e2 : ds[i]? = some ds[i] := List.getElem?_eq_getElem hi
    rw [e2] at e
    cases e
    obtain ⟨x, h1, h2⟩ := r.get e2
    exact ⟨x, by rw [List.getElem?_append_left (by simp; omega), List.getElem?_map, h1]; rfl, h2⟩
  · rw [List.getElem?_append_right (by simpa using hi), List.getElem?_replicate] at e
    split at e
    · cases e; trivial
    · cases e
theorem noOw {ds : List D} {m i : Nat} : ¬ Ow (ds.map Sl.v ++ List.replicate m Sl.no)[i]? := fun o => by
  by_cases hi : i < ds.length
  · rw [List.getElem?_append_left (by simpa using hi), List.getElem?_map, List.getElem?_eq_getElem hi] at o
    exact o
  · rw [List.getElem?_append_right (by simpa using hi), List.getElem?_replicate] at o
    split at o <;> exact o
theorem SR.begins {K : PySem.W.Frag} {hid : Hid} {H : Hp} {N : List Str} {vs : List V} {ds : List D} (tr : Trk hid H) (r : Reps K (vw H hid) vs ds) : SR K ⟨H, hid, fun _ => false⟩ hid (rho0 N.length ds) (start N vs) H := by
  have hl := r.length
  unfold start rho0
  rw [hl]
  exact ⟨tr.1, tr.2, fun _ h => h, fun _ _ h _ => h, fun b o h => ⟨o, h⟩, tr.1, (fun _ h => nomatch h), by simp [hl], fun i s e => slots0 _ r i s e, fun i j a _ o => absurd o noOw⟩
section
variable {P : Program} {w : World} {K : PySem.W.Frag} {mg : Str → Option Value} {base : Heap} {x qual : Str} {st : Stmt} {f : Addr} {fd : FuncData} {N ps : List Str} {k : Nat} {t : FS} {kd : Kd}
theorem fn_pure (F : Fun K x qual st f fd) (S : FnScope N ps (defScope st)) (hkd : kd ≠ .b)
    (body : ∀ (cdv : Value) (A : Around) (outer : List Env) (s : Shared) (H : Hp) (hid : Hid) (E : XK), Room k (A.deeper (envOfC qual (defScope st) s.heap.objs.size f cdv)) →
      DSs (cxOf CX0 P w K mg base N qual (defScope st) f cdv A outer s H E).nox ⟨H, hid, fun _ => false⟩ kd (defBody st) t) :
    FnOk P w K mg base CX0 (k + 1) f fd ps (spP K kd ps.length (fnP kd N.length t)) := by
  refine F.ok S (fun vs H Q E h => ?_) (fun cdv A outer s H vs Q E hr h => ?_)
  · obtain ⟨hid, ds, _, r, hl, _⟩ := h
    rw [r.length, hl]
  · obtain ⟨hid, ds, tr, r, hl, d, hP, q⟩ := h
    refine ⟨_, body cdv A outer s H hid E hr (rho0 N.length ds), hid, SR.begins tr r, ?_⟩
    unfold fnP at hP
    cases e : t (rho0 N.length ds) with
    | nx ρ =>
      rw [e] at hP
      intro σ' H' hid' sr _
      have sm : Same H H' := fun b o z => sr.kp b o z rfl
      cases kd with
      | b => exact absurd rfl hkd
      | s => cases hP; exact q _ H' sm .non
      | n => cases hP
    | rt d' ρ =>
      rw [e] at hP
      cases hP
      intro v H' R
      have sm : Same H H' := fun b o z => R.kp b o z rfl
      cases kd with
      | b => exact absurd rfl hkd
      | s => exact q v H' sm R.val
      | n => exact q v H' sm R.val
    | bk ρ => rw [e] at hP; cases hP
    | ct ρ => rw [e] at hP; cases hP
    | no => rw [e] at hP; cases hP
theorem SR.beginsE {hid : Hid} {H : Hp} {a : Addr} {xs us : List V} {bs ds : List D} (tr : Trk hid H) (ha : hid a = true) (hx : H a = some (.lst xs)) (rb : Reps K (vw H hid) xs bs) (r : Reps K (vw H hid) us ds) (hN : 0 < N.length) :
    SR K ⟨H, hid, fun b => decide (b = a)⟩ hid (rhoE N.length bs ds) (start N (.ref a :: us)) H := by
  have hl := r.length
  have es : start N (.ref a :: us) = some (V.ref a) :: (us.map some ++ List.replicate (N.length - 1 - ds.length) none) := by
    unfold start
    rw [List.map_cons, List.cons_append, List.length_cons, hl]
    congr 3
    omega
  rw [es]
  unfold rhoE
  refine ⟨tr.1, tr.2, fun _ h => h, fun _ _ h _ => h, fun b o h => ⟨o, h⟩, tr.1, fun b h => ?_, by simp [hl], fun i s e => ?_, fun i j z n o1 o2 q1 q2 => ?_⟩
  · have : b = a := by simpa using h
    rw [this]; exact ha
  · cases i with
    | zero =>
      cases e
      exact ⟨a, xs, rfl, hx, ha, by simp, rb⟩
    | succ i =>
      have z := slots0 (c := ⟨H, hid, fun b => decide (b = a)⟩) (N.length - 1 - ds.length) r i s (by simpa using e)
      cases s with
      | no => trivial
      | v d => obtain ⟨x, h1, h2⟩ := z; exact ⟨x, by simpa using h1, h2⟩
      | own ds => obtain ⟨x, xs, h1, h2⟩ := z; exact ⟨x, xs, by simpa using h1, h2⟩
      | arg ds => obtain ⟨x, xs, h1, h2⟩ := z; exact ⟨x, xs, by simpa using h1, h2⟩
      | ob b => obtain ⟨x, h1, h2⟩ := z; exact ⟨x, by simpa using h1, h2⟩
  · cases i with
    | zero =>
      cases j with
      | zero => exact n rfl
      | succ j => exact noOw (by simpa using o2)
    | succ i => exact noOw (by simpa using o1)
theorem arg0_some {ρ : Rho} {b : List D} (h : arg0 ρ = some b) : ρ[0]? = some (.arg b) := by
  unfold arg0 at h
  split at h
  · cases h; rfl
  · cases h
theorem fn_eff {n : Nat} (F : Fun K x qual st f fd) (S : FnScope N ps (defScope st)) (hkd : kd ≠ .b) (hn : ps.length = n + 1)
    (body : ∀ (cdv : Value) (A : Around) (outer : List Env) (s : Shared) (H : Hp) (hid : Hid) (a : Addr) (E : XK), Room k (A.deeper (envOfC qual (defScope st) s.heap.objs.size f cdv)) →
      DSs (cxOf CX0 P w K mg base N qual (defScope st) f cdv A outer s H E).nox ⟨H, hid, fun b => decide (b = a)⟩ kd (defBody st) t) :
    FnOk P w K mg base CX0 (k + 1) f fd ps (spE K kd n (fnE kd N.length t)) := by
  refine F.ok S (fun vs H Q E h => ?_) (fun cdv A outer s H vs Q E hr h => ?_)
  · obtain ⟨hid, a, xs, bs, us, ds, rfl, _, _, _, _, r, hl, _⟩ := h
    rw [List.length_cons, r.length, hl, hn]
  · obtain ⟨hid, a, xs, bs, us, ds, rfl, tr, ha, hx, rb, r, hl, d, bs', hM, q⟩ := h
    have hN : 0 < N.length := by have := congrArg List.length S.pre; rw [List.length_take] at this; omega
    refine ⟨_, body cdv A outer s H hid a E hr (rhoE N.length bs ds), hid, SR.beginsE tr ha hx rb r hN, ?_⟩
    have fin : ∀ (v : V) (H' : Hp) (ρ : Rho) (d : D), Ret K ⟨H, hid, fun b => decide (b = a)⟩ kd ρ H' v d → arg0 ρ = some bs' → (∀ v H' xs', (∀ b o, H b = some o → b ≠ a → H' b = some o) → H' a = some (.lst xs') → EndE K kd hid H H' v d xs' bs' → Q v H') → Q v H' := by
      intro v H' ρ d R h0 q
      obtain ⟨a', xs', m1, m2, m3⟩ := R.arg 0 _ (arg0_some h0)
      have : a' = a := by simpa using m1
      subst this
      refine q v H' xs' (fun b o z n => R.kp b o z (by simpa using n)) m2 ?_
      cases kd with
      | b => exact absurd rfl hkd
      | s => exact ⟨R.val, m3⟩
      | n =>
        obtain ⟨p, ys, es, rfl, rfl, h1, h2, h3⟩ := R.val
        exact ⟨p, ys, es, rfl, rfl, h1, h2, h3, m3⟩
    unfold fnE at hM
    cases e : t (rhoE N.length bs ds) with
    | nx ρ =>
      rw [e] at hM
      intro σ' H' hid' sr _
      cases kd with
      | b => exact absurd rfl hkd
      | s =>
        dsimp only at hM
        cases e0 : arg0 ρ with
        | none => rw [e0] at hM; cases hM
        | some b =>
          rw [e0] at hM; cases hM
          exact fin .non H' ρ .non (retS_ (k := .s) (by decide) (sr.post (k := .s) (Same.refl _) .non (by decide)) sr.h0) e0 q
      | n => cases hM
    | rt d' ρ =>
      rw [e] at hM
      dsimp only at hM
      cases e0 : arg0 ρ with
      | none => rw [e0] at hM; cases hM
      | some b =>
        rw [e0] at hM; cases hM
        intro v H' R
        exact fin v H' ρ _ R e0 q
    | bk ρ => rw [e] at hM; cases hM
    | ct ρ => rw [e] at hM; cases hM
    | no => rw [e] at hM; cases hM
end
def spLaw (K : PySem.W.Frag) : Sp := fun vs H Q _ => ∃ (a : Addr) (ns : List Int), vs = [.ref a] ∧ SqR K H a (ns.map V.int) ∧ ns.length ≤ 63 ∧ ∀ H', Q (.bl true) H'
theorem reps_ints {K : PySem.W.Frag} {F : Hp} : ∀ ns : List Int, Reps K F (ns.map V.int) (ns.map D.int)
  | [] => .nil
  | _ :: r => .cons .int (reps_ints r)
theorem fn_law {P : Program} {w : World} {K : PySem.W.Frag} {mg : Str → Option Value} {base : Heap} {f : Addr} {fd : FuncData} {x : Str} {k : Nat} {M : List D → Option D} (F : FnOk P w K mg base CX0 k f fd [x] (spP K .s 1 M)) (hM : ∀ ns : List Int, ns.length ≤ 63 → M [.scr (ns.map D.int)] = some (.bl true)) :
    FnOk P w K mg base CX0 k f fd [x] (spLaw K) := F.imp fun vs H Q E hq_ => by
  obtain ⟨a, ns, e, hS, hl, q⟩ := hq_
  subst e
  have hv : vw H (fun _ => false) = H := by funext b; unfold vw; simp
  refine ⟨fun _ => false, [.scr (ns.map D.int)], ⟨(fun b h => nomatch h), (fun b xs h => nomatch h)⟩, ?_, rfl, .bl true, hM ns hl, fun v H' _ r => ?_⟩
  · rw [hv]; exact .cons (.scr hS (reps_ints ns)) .nil
  · cases r; exact q H'
theorem walkD {l : PySem.W.OpenLaw} {k : Nat} {x : Str} {q : Program} {loose : List Str} {XP : (Str → Option Value) → Heap → Prop} {YP : World → Heap → Prop} {d : DefRec} {K : Params → PySem.W.Frag} (hn : l.most = some 63) (hdf : d.params.defaults = []) (hr : Room k callerA)
    (hY : ∀ (w : World) (h : Heap), YP w h → (K w.params).In h)
    (F : ∀ (w : World) (mg : Str → Option Value) (fa : Addr) (h : Heap), (K w.params).In h → h.Ns mainGlobals mg → mg d.name = some (.ref fa) →
      ∃ fd : FuncData, (∀ (s : Shared) (u : Value), BindsTo s fd ⟨[u], []⟩ [(x, u)]) ∧ ∀ base : Heap, (K w.params).In base → base.Ns mainGlobals mg → FnOk l.prog w (K w.params) mg base CX0 k fa fd [x] (spLaw (K w.params))) :
    PySem.W.WalkO q loose XP YP l.row.toRowW d [] (fun f vs => PySem.call f vs) :=
  L2.walk_of (n := 63) (k := k) (x := x) (CX := fun _ => CX0) (sp := fun w => spLaw (K w.params)) hn (by decide) hdf hr hY F (fun _ H a ns hl hO hS => ⟨a, ns, rfl, hS.elim (fun r => r.elim (fun e => by rcases hO a with z | ⟨o, xs, z⟩ <;> rw [z] at e <;> cases e) .inl) .inr, hl, fun _ => rfl⟩) fun _ _ _ _ _ z => z
end L2
set_option Elab.async false
set_option linter.all false
set_option maxRecDepth 100000
namespace L2
open PySem PySem.Spec PyProof.Rows
def clo (cells : List (Str × Addr)) : List (Str × NameKind) → List (Str × Addr) → List (Str × Addr)
  | [], acc => acc
  | (n, k) :: r, acc => clo cells r (if k == .free then (match cells.lookup n with
    | some c => (n, c) :: acc
    | none => acc) else acc)
theorem clo_mem {cells : List (Str × Addr)} : ∀ {names : List (Str × NameKind)} {acc : List (Str × Addr)}, (∀ p ∈ acc, cells.lookup p.1 = some p.2) → ∀ p ∈ clo cells names acc, cells.lookup p.1 = some p.2
  | [], acc, h, p, hp => h p hp
  | (n, k) :: r, acc, h, p, hp => by
    refine clo_mem (names := r) ?_ p hp
    intro q hq
    split at hq
    · split at hq
      · rename_i c e
        rcases List.mem_cons.mp hq with rfl | hq
        · exact e
        · exact h q hq
      · exact h q hq
    · exact h q hq
theorem clo_free {cells : List (Str × Addr)} : ∀ {names : List (Str × NameKind)} {acc : List (Str × Addr)} (p : Str × Addr), p ∈ clo cells names acc → p ∈ acc ∨ (p.1, NameKind.free) ∈ names
  | [], acc, p, hp => .inl hp
  | (n, k) :: r, acc, p, hp => by
    rcases clo_free (names := r) p hp with hq | hq
    · split at hq
      · rename_i ek
        split at hq
        · rcases List.mem_cons.mp hq with e | hq
          · subst e
            have : k = .free := by simpa using ek
            subst this
            exact .inr List.mem_cons_self
          · exact .inl hq
        · exact .inl hq
      · exact .inl hq
    · exact .inr (List.mem_cons_of_mem _ hq)
theorem clo_keep {cells : List (Str × Addr)} : ∀ {names : List (Str × NameKind)} {acc : List (Str × Addr)} {p : Str × Addr}, p ∈ acc → p ∈ clo cells names acc
  | [], acc, p, h => h
  | (n, k) :: r, acc, p, h => by
    refine clo_keep (names := r) ?_
    split
    · split
      · exact List.mem_cons_of_mem _ h
      · exact h
    · exact h
theorem clo_has {cells : List (Str × Addr)} {x : Str} {c : Addr} (hc : cells.lookup x = some c) : ∀ {names : List (Str × NameKind)} {acc : List (Str × Addr)}, (x, NameKind.free) ∈ names → (x, c) ∈ clo cells names acc
  | [], _, h => nomatch h
  | (n, k) :: r, acc, h => by
    rcases List.mem_cons.mp h with e | h
    · cases e
      refine clo_keep (names := r) ?_
      rw [if_pos (by rfl), hc]
      exact List.mem_cons_self
    · exact clo_has hc (names := r) h
theorem lookup_of_mem {l : List (Str × Addr)} {x : Str} {c : Addr} (h : (x, c) ∈ l) (u : ∀ p ∈ l, p.1 = x → p.2 = c) : l.lookup x = some c := by
  induction l with
  | nil => exact nomatch h
  | cons p r ih =>
    obtain ⟨n, a⟩ := p
    rw [List.lookup_cons]
    cases e : x == n with
    | true =>
      have e' : x = n := eq_of_beq e
      have := u (n, a) List.mem_cons_self e'.symm
      simpa using this
    | false =>
      have ne : x ≠ n := fun e' => by rw [e'] at e; simp at e
      rcases List.mem_cons.mp h with e' | h
      · cases e'; exact absurd rfl ne
      · exact ih h fun p hp => u p (List.mem_cons_of_mem _ hp)
theorem clo_lookup {cells : List (Str × Addr)} {names : List (Str × NameKind)} {x : Str} {c : Addr} (h : (clo cells names []).lookup x = some c) : cells.lookup x = some c :=
  clo_mem (names := names) (acc := []) (fun _ z => nomatch z) (x, c) (PySem.mem_of_lookup h)
theorem clo_lookup' {cells : List (Str × Addr)} {names : List (Str × NameKind)} {x : Str} {c : Addr} (hc : cells.lookup x = some c) (hf : (x, NameKind.free) ∈ names) : (clo cells names []).lookup x = some c :=
  lookup_of_mem (clo_has hc hf) fun p hp e => by
    have := clo_mem (names := names) (acc := []) (fun _ z => nomatch z) p hp
    rw [e, hc] at this
    exact (Option.some.inj this).symm
theorem closureFor_clo {scope : Scope} {env : Env} (h : ∀ x, (x, NameKind.free) ∈ scope.names → ∃ c, env.cells.lookup x = some c) : closureFor scope env = pure (clo env.cells scope.names []) := by
  unfold closureFor
  have key : ∀ (names : List (Str × NameKind)) (acc : List (Str × Addr)), (∀ x, (x, NameKind.free) ∈ names → ∃ c, env.cells.lookup x = some c) →
      (forIn names acc (fun (p : Str × NameKind) (r : List (Str × Addr)) => match p with
        | (name, kind) => if (kind == NameKind.free) = true then do
            let __do_lift ← cellOf env name
            pure (ForInStep.yield ((name, __do_lift) :: r)) else pure (ForInStep.yield r)) : Sem (List (Str × Addr))) = pure (clo env.cells names acc) := by
    intro names
    induction names with
    | nil => intro acc _; rfl
    | cons p r ih =>
      intro acc h
      obtain ⟨n, k⟩ := p
      rw [List.forIn_cons]
      have hr : ∀ x, (x, NameKind.free) ∈ r → ∃ c, env.cells.lookup x = some c := fun x hx => h x (List.mem_cons_of_mem _ hx)
      cases e : k == NameKind.free with
      | false =>
        simp only [e, Bool.false_eq_true, if_false, pure_bind]
        rw [ih acc hr]
        conv => rhs; unfold clo
        simp [e]
      | true =>
        have ek : k = .free := by simpa using e
        subst ek
        obtain ⟨c, hc⟩ := h n List.mem_cons_self
        have ec : cellOf env n = pure c := by unfold cellOf; rw [hc]
        simp only [beq_self_eq_true, if_true, ec, pure_bind]
        rw [ih _ hr]
        conv => rhs; unfold clo
        simp [hc]
  have := key scope.names [] h
  simp only [this, pure_bind]
theorem relabel_of {sc : Scope} {env : Env} {x : Str} {k : NameKind} (h : (relabel sc env).names.lookup x = some k) : ∃ k0, sc.names.lookup x = some k0 ∧ (k = k0 ∨ (k0 = .free ∧ k = .cell)) := by
  unfold relabel at h
  dsimp only at h
  generalize sc.names = l at h ⊢
  induction l with
  | nil => simp at h
  | cons p r ih =>
    obtain ⟨n, k1⟩ := p
    rw [List.map_cons] at h
    dsimp only at h
    rw [List.lookup_cons]
    cases hx : x == n with
    | true =>
      refine ⟨k1, rfl, ?_⟩
      split at h
      · rename_i hc
        rw [List.lookup_cons] at h
        simp only [hx] at h
        cases h
        have : k1 = .free := by
          simp only [Bool.and_eq_true] at hc
          exact eq_of_beq hc.1.1
        exact .inr ⟨this, rfl⟩
      · rw [List.lookup_cons] at h
        simp only [hx] at h
        cases h
        exact .inl rfl
    | false =>
      split at h
      · rw [List.lookup_cons] at h; simp only [hx] at h; exact ih h
      · rw [List.lookup_cons] at h; simp only [hx] at h; exact ih h
def ownC (cells : List (Str × Addr)) (scope : Scope) (C : Addr) : List (Str × Addr) := cellsFrom (C + 1) scope.names (clo cells scope.names [])
theorem cellsFrom_app : ∀ (names : List (Str × NameKind)) (n : Nat) (acc : List (Str × Addr)), cellsFrom n names acc = cellsFrom n names [] ++ acc
  | [], _, _ => rfl
  | (name, kind) :: r, n, acc => by
    unfold cellsFrom
    split
    · rw [cellsFrom_app r (n + 1) ((name, n) :: acc), cellsFrom_app r (n + 1) [(name, n)], List.append_assoc]; rfl
    · exact cellsFrom_app r n acc
theorem own_mem : ∀ {names : List (Str × NameKind)} {n : Nat} {p : Str × Addr}, p ∈ cellsFrom n names [] → (p.1, NameKind.cell) ∈ names
  | [], _, _, h => nomatch h
  | (name, kind) :: r, n, p, h => by
    unfold cellsFrom at h
    split at h
    · rename_i hk
      have hk' : kind = .cell := by simpa using hk
      subst hk'
      rw [cellsFrom_app] at h
      rcases List.mem_append.mp h with h | h
      · exact List.mem_cons_of_mem _ (own_mem h)
      · rw [List.mem_singleton.mp h]; exact List.mem_cons_self
    · exact List.mem_cons_of_mem _ (own_mem h)
theorem own_there : ∀ {names : List (Str × NameKind)} {n : Nat} {x : Str}, (x, NameKind.cell) ∈ names → ∃ c, (x, c) ∈ cellsFrom n names []
  | [], _, _, h => nomatch h
  | (name, kind) :: r, n, x, h => by
    unfold cellsFrom
    rcases List.mem_cons.mp h with e | h
    · cases e
      rw [if_pos (by rfl), cellsFrom_app]
      exact ⟨n, List.mem_append_right _ List.mem_cons_self⟩
    · split
      · obtain ⟨c, hc⟩ := own_there (n := n + 1) h
        rw [cellsFrom_app]
        exact ⟨c, List.mem_append_left _ hc⟩
      · exact own_there h
theorem lookup_mem {l : List (Str × Addr)} {x : Str} {c : Addr} (h : (x, c) ∈ l) : ∃ c', l.lookup x = some c' := by
  induction l with
  | nil => exact nomatch h
  | cons p r ih =>
    obtain ⟨n, a⟩ := p
    rw [List.lookup_cons]
    cases e : x == n with
    | true => exact ⟨a, rfl⟩
    | false =>
      rcases List.mem_cons.mp h with e' | h
      · cases e'; simp at e
      · exact ih h
theorem ownC_cases {cells : List (Str × Addr)} {sc : Scope} {C : Addr} {x : Str} {c : Addr} (h : (ownC cells sc C).lookup x = some c) : (x, c) ∈ cellsFrom (C + 1) sc.names [] ∨ (clo cells sc.names []).lookup x = some c := by
  unfold ownC at h
  rw [cellsFrom_app, List.lookup_append] at h
  cases e : (cellsFrom (C + 1) sc.names []).lookup x with
  | none => rw [e] at h; exact .inr h
  | some c' => rw [e] at h; cases h; exact .inl (PySem.mem_of_lookup e)
theorem ownC_own {cells : List (Str × Addr)} {sc : Scope} {C : Addr} {x : Str} (h : (x, NameKind.cell) ∈ sc.names) : ∃ c, (ownC cells sc C).lookup x = some c := by
  obtain ⟨c, hc⟩ := own_there (n := C + 1) h
  obtain ⟨c', e⟩ := lookup_mem hc
  exact ⟨c', by unfold ownC; rw [cellsFrom_app, List.lookup_append, e]; rfl⟩
theorem ownC_clo {cells : List (Str × Addr)} {sc : Scope} {C : Addr} {x : Str} (h : (x, NameKind.cell) ∉ sc.names) : (ownC cells sc C).lookup x = (clo cells sc.names []).lookup x := by
  unfold ownC
  rw [cellsFrom_app, List.lookup_append]
  cases e : (cellsFrom (C + 1) sc.names []).lookup x with
  | none => rfl
  | some c' => exact absurd (own_mem (PySem.mem_of_lookup e)) h
theorem nfe_own {M : Model} {A : Around} {E : Value → Shared → Prop} {s : Shared} {scope : Scope} {globals : Addr} {closure : List (Str × Addr)} {qual : Str} {outer : Env} {Q : Env → Shared → Prop}
    (hQ : ∀ h', h'.Ns s.heap.objs.size (fun _ => none) → (∀ b o, s.heap.get? b = some o → h'.get? b = some o) → CellsOk h' (s.heap.objs.size + 1) (cellsFrom (s.heap.objs.size + 1) scope.names []) →
      Q (newEnv scope s.heap.objs.size globals (cellsFrom (s.heap.objs.size + 1) scope.names closure) qual none .none (some outer) builtinsNs) { s with heap := h', toks := s.toks }) :
    wpAny M A (newFunctionEnv scope globals closure [] qual none .none (some outer)) Q E s := by
  simp only [newFunctionEnv, Option.isSome_some, if_true]
  refine wpAny_bind (wpAny_alloc ?_)
  refine wpAny_bind (wpAny_layCells _ (fun name kind cells => by cases hkc : kind == NameKind.cell <;> simp [hkc]) _ _ _ _ ?_)
  have ok := cellsFrom_ok scope.names (s.heap.push { cls := .type "dict", data := .dict #[] }) (s.heap.objs.size + 1) [] ⟨fun _ _ hm => (nomatch hm), List.Pairwise.nil⟩ (by rw [Heap.size_push]; exact Nat.le_refl _)
  rw [Heap.size_push] at ok
  rw [show ({ s with heap := s.heap.push { cls := .type "dict", data := .dict #[] } } : Shared).heap.objs.size = s.heap.objs.size + 1 from Heap.size_push ..]
  rw [List.forIn_nil]
  refine wpAny_bind (wpAny_pure (wpAny_pure ?_))
  exact hQ _ ((Heap.Ns.new s.heap (.type "dict")).keeps (pushCells_keeps _ _)) (fun b o e => pushCells_keeps _ _ b o (Heap.get?_push_of_some _ e)) ok
def compCx (X : Cx) (N' : List Str) (scope : Scope) (C : Addr) (s₀ : Shared) (H₀ : Hp) (ex : List Addr) : Cx where
  prog := X.prog
  w := X.w
  K := X.K
  mg := X.mg
  base := X.base
  A := X.A
  N := N'
  s₀ := s₀
  H₀ := H₀
  env := compEnvC scope (ownC X.env.cells scope C) C X.env
  outer := X.stack
  stack := X.stack
  ex := ex
  fn := fun x => scope.names.lookup x == some .local || scope.names.lookup x == some .cell
  calm := X.calm
  pn := []
  xe := fun _ _ => False
def okN (N N' : List Str) (sc : Scope) : Bool :=
  decide (N.length ≤ N'.length) && ((N'.take N.length).zip N).all (fun p => (p.1 == p.2 && !(sc.names.lookup p.1 == some .local) && !(sc.names.lookup p.1 == some .cell)) || (sc.names.lookup p.1).isNone) &&
    (N'.drop N.length).all fun x => sc.names.lookup x == some .local || sc.names.lookup x == some .cell
def okS (sc : Scope) (outer : Scope) : Bool :=
  sc.names.all fun y => (y.2 != .cell || sc.names.lookup y.1 == some .cell) && (y.2 != .local || sc.names.lookup y.1 == some .local) && (y.2 != .free || (sc.names.lookup y.1 == some .free && (outer.names.lookup y.1 == some .cell || outer.names.lookup y.1 == some .free)))
theorem okS_cell {sc o : Scope} (h : okS sc o = true) : ∀ y ∈ sc.names, y.2 = .cell → sc.names.lookup y.1 = some .cell := fun y hy e => by
  have := List.all_eq_true.mp h y hy
  simpa [e] using this
theorem okS_local {sc o : Scope} (h : okS sc o = true) : ∀ y ∈ sc.names, y.2 = .local → sc.names.lookup y.1 = some .local := fun y hy e => by
  have := List.all_eq_true.mp h y hy
  simpa [e] using this
theorem okS_free {sc o : Scope} (h : okS sc o = true) : ∀ x, (x, NameKind.free) ∈ sc.names → o.names.lookup x = some .cell ∨ o.names.lookup x = some .free := fun x hx => by
  have := List.all_eq_true.mp h _ hx
  simpa using (by simpa using this : _ ∧ _).2
theorem okS_free' {sc o : Scope} (h : okS sc o = true) : ∀ x, (x, NameKind.free) ∈ sc.names → sc.names.lookup x = some .free := fun x hx => by
  have := List.all_eq_true.mp h _ hx
  simpa using (by simpa using this : _ ∧ _).1
theorem okN_outer {N N' : List Str} {sc : Scope} (h : okN N N' sc = true) {i : Nat} {x : Str} (hi : i < N.length) (e : N'[i]? = some x) (hv : ∃ k, sc.names.lookup x = some k ∧ (k = .local ∨ k = .cell ∨ k = .free)) : N[i]? = some x ∧ sc.names.lookup x = some .free := by
  unfold okN at h
  simp only [Bool.and_eq_true, decide_eq_true_eq] at h
  obtain ⟨⟨h1, h2⟩, _⟩ := h
  have hN : N[i]? = some N[i] := List.getElem?_eq_getElem hi
  have e1 : (N'.take N.length)[i]? = some x := by rw [List.getElem?_take_of_lt hi]; exact e
  have hm : (x, N[i]) ∈ (N'.take N.length).zip N := by
    refine List.mem_of_getElem? (i := i) ?_
    rw [List.getElem?_zip_eq_some]
    exact ⟨e1, hN⟩
  have := List.all_eq_true.mp h2 _ hm
  obtain ⟨k, hk, hk2⟩ := hv
  dsimp only at this
  rw [hk] at this
  simp only [Option.isNone_some, Bool.or_false, Bool.and_eq_true, Bool.not_eq_true'] at this
  obtain ⟨⟨t1, t2⟩, t3⟩ := this
  have ex : x = N[i] := eq_of_beq t1
  rcases hk2 with rfl | rfl | rfl
  · simp at t2
  · simp at t3
  · exact ⟨by rw [hN, ← ex], hk⟩
theorem okN_len {N N' : List Str} {sc : Scope} (h : okN N N' sc = true) : N.length ≤ N'.length := by
  unfold okN at h
  simp only [Bool.and_eq_true, decide_eq_true_eq] at h
  exact h.1.1
section
variable {X : Cx} {pins : List (Addr × Obj)} {σ : St} {H : Hp} {s : Shared} {scope : Scope} {N' : List Str} {fp : List Addr}
theorem frs_stack (I : Inv X pins σ H s) {b : Addr} (f : FpOk X pins H b) : b ∉ frs X.stack := fun z => by
  rcases List.mem_cons.mp (I.stkSub b z) with e | z
  · exact f.2.1 e
  · exact f.2.2.1 z
theorem inv_comp {h' : Heap} {tk : Nat} (I : Inv X pins σ H s) (hF : ∀ b ∈ fp, FpOk X pins H b) (hO : ∀ b ∈ fp, ∃ o, s.heap.get? b = some o) (hk : scope.kind = .function) (hs : okS scope X.env.scope = true) (hn : okN X.N N' scope = true)
    (ns : h'.Ns s.heap.objs.size fun _ => none) (kp : ∀ b o, s.heap.get? b = some o → h'.get? b = some o) (oc : CellsOk h' (s.heap.objs.size + 1) (cellsFrom (s.heap.objs.size + 1) scope.names [])) :
    Inv (compCx X N' scope s.heap.objs.size s H fp) [] (σ ++ List.replicate (N'.length - X.N.length) none) H { s with heap := h', toks := tk } := by
  have hlen := okN_len hn
  have cl : ∀ x c, (clo X.env.cells scope.names []).lookup x = some c → X.env.cells.lookup x = some c := fun x c e => clo_lookup e
  have clt : ∀ x c, (clo X.env.cells scope.names []).lookup x = some c → c < s.heap.objs.size := fun x c e => let ⟨_, z⟩ := I.cell x c (cl x c e); z.lt
  have newC : H s.heap.objs.size = none := I.hok.fresh (Nat.le_refl _)
  refine ⟨⟨I.ok.mod, hk, I.ok.glob, I.ok.blt, Nat.le_refl _, fun x y c h1 h2 => ?_, fun x hx => ?_, fun x c h1 h2 => ?_, I.ok.hd, I.ok.frames, .inl rfl, fun b hb => ⟨?_, fun x c e => ?_⟩, I.bs, Nat.le_trans I.ok.bsz I.sz, fun b o e hb => ?_, fun b hb => frs_stack I (hF b hb), I.stack, I.stkFree⟩,
    rfl, I.bare, Un.kept kp, ⟨_, ns, fun i x v e1 e2 e3 => ?_⟩, fun x c e => ?_, newC, fun x c e => ?_, fun p hp => absurd (show p ∈ ([] : List (Addr × Obj)) from hp) (by simp), I.hok.kept kp, ?_⟩
  ·
    rcases ownC_cases h1 with h1 | h1 <;> rcases ownC_cases h2 with h2 | h2
    · exact name_of_addr oc.apart h1 h2
    · exact absurd (clt y c h2) (Nat.not_lt.mpr (Nat.le_of_succ_le (oc.empty _ _ h1).2))
    · exact absurd (clt x c h1) (Nat.not_lt.mpr (Nat.le_of_succ_le (oc.empty _ _ h2).2))
    · exact I.ok.inj x y c (cl x c h1) (cl y c h2)
  ·
    have hx' : (relabel scope X.env).names.lookup x = some .cell ∨ (relabel scope X.env).names.lookup x = some .free := hx
    have : (x, NameKind.cell) ∈ scope.names ∨ (x, NameKind.free) ∈ scope.names := by
      rcases hx' with hx' | hx'
      · obtain ⟨k0, e0, e1 | ⟨e1, _⟩⟩ := relabel_of hx'
        · subst e1; exact .inl (PySem.mem_of_lookup e0)
        · subst e1; exact .inr (PySem.mem_of_lookup e0)
      · obtain ⟨k0, e0, e1 | ⟨_, e1⟩⟩ := relabel_of hx'
        · subst e1; exact .inr (PySem.mem_of_lookup e0)
        · cases e1
    rcases this with this | this
    · exact ownC_own this
    · have hc := okS_free hs x this
      obtain ⟨c, e⟩ := I.ok.has x hc
      exact ⟨c, (ownC_clo fun z => by have z1 := okS_cell hs _ z rfl; have z2 := okS_free' hs x this; rw [z2] at z1; cases z1).trans (clo_lookup' e this)⟩
  ·
    have h1' : scope.names.lookup x = some .local ∨ scope.names.lookup x = some .cell := by
      have h1 : (scope.names.lookup x == some .local || scope.names.lookup x == some .cell) = true := h1
      simpa using h1
    rcases ownC_cases h2 with h2 | h2
    · exact Nat.le_of_succ_le (oc.empty _ _ h2).2
    · exfalso
      rcases clo_free _ (PySem.mem_of_lookup h2) with z | z
      · exact nomatch z
      · rw [okS_free' hs x z] at h1'; rcases h1' with h1' | h1' <;> cases h1'
  · obtain ⟨o, e⟩ := hO b hb
    exact Nat.ne_of_lt (Heap.lt_size e)
  · rcases ownC_cases e with e | e
    · obtain ⟨o, e'⟩ := hO b hb
      exact fun z => absurd (Heap.lt_size e') (Nat.not_lt.mpr (z ▸ Nat.le_of_succ_le (oc.empty _ _ e).2))
    · exact (hF b hb).2.2.2.2.1 x c (cl x c e)
  · obtain ⟨_, _, _, h4, _⟩ := hF b hb
    rcases h4 with h4 | h4
    · exact I.ok.noex b o e h4
    · exact absurd (Nat.lt_of_lt_of_le (Heap.lt_size e) (Nat.le_trans I.ok.bsz h4)) (Nat.lt_irrefl _)
  · have hi : i < X.N.length := by
      by_cases hi : i < σ.length
      · rw [← I.len]; exact hi
      · rw [List.getElem?_append_right (by omega), List.getElem?_replicate] at e2
        split at e2 <;> cases e2
    rw [List.getElem?_append_left (by rw [I.len]; exact hi)] at e2
    have e3' : (relabel scope X.env).names.lookup x = some .local ∨ (relabel scope X.env).names.lookup x = some .cell ∨ (relabel scope X.env).names.lookup x = some .free := e3
    have hv : ∃ k, scope.names.lookup x = some k ∧ (k = .local ∨ k = .cell ∨ k = .free) := by
      rcases e3' with z | z | z
      all_goals
        obtain ⟨k0, q0, q1 | ⟨q1, q2⟩⟩ := relabel_of z
        · subst q1; exact ⟨_, q0, by simp⟩
        · subst q1; exact ⟨_, q0, by simp⟩
    obtain ⟨hN, hf⟩ := okN_outer hn hi e1 hv
    have hfm := PySem.mem_of_lookup hf
    have hc := okS_free hs x hfm
    have nc : (x, NameKind.cell) ∉ scope.names := fun z => by have z1 := okS_cell hs _ z rfl; rw [hf] at z1; cases z1
    obtain ⟨m, hm, hl⟩ := I.loc
    obtain ⟨u, r, l⟩ := hl i x v hN e2 (.inr hc)
    refine ⟨u, r, .inr ⟨?_, ?_⟩⟩
    · show (relabel scope X.env).names.lookup x = some .cell ∨ (relabel scope X.env).names.lookup x = some .free
      rcases e3' with z | z | z
      · obtain ⟨k0, q0, q1 | ⟨q1, q2⟩⟩ := relabel_of z
        · subst q1; rw [hf] at q0; cases q0
        · cases q2
      · exact .inl z
      · exact .inr z
    · rcases l with ⟨l, _⟩ | ⟨_, c, ec, z⟩
      · have l' : X.env.scope.names.lookup x = some .local := l
        rcases hc with hc | hc <;> rw [hc] at l' <;> cases l'
      · exact ⟨c, (ownC_clo nc).trans (clo_lookup' ec hfm), z.keeps kp⟩
  · rcases ownC_cases e with e | e
    · exact ⟨_, (oc.empty _ _ e).1⟩
    · obtain ⟨v, z⟩ := I.cell x c (cl x c e)
      exact ⟨v, z.keeps kp⟩
  · rcases ownC_cases e with e | e
    · exact I.hok.fresh (Nat.le_of_succ_le (oc.empty _ _ e).2)
    · exact I.freeC x c (cl x c e)
  · show (σ ++ _).length = N'.length
    rw [List.length_append, List.length_replicate, I.len]
    omega
end
end L2
set_option Elab.async false
set_option linter.all false
set_option maxRecDepth 100000
namespace L2
open PySem PySem.Spec PyProof.Rows
def rdIp (K : PySem.W.Frag) (c : Ct) (hid : Hid) (f : FA) (ρ : Rho) : TI := fun σ H R => SR K c hid ρ σ H ∧ ∃ ds, f ρ = some ds ∧ ∀ J H', Same H H' → ItOk K (vw H' hid) J ds → R J H'
def DIp (X : Cx) (c : Ct) (tg iter : Expr) (f : FA) : Prop := ∀ hid ρ, PI X tg iter (rdIp X.K c hid f ρ)
def ItB (K : PySem.W.Frag) (L W : Hp) (J : It) (ds : List D) : Prop :=
  (∀ (i : Nat) (d : D) (H : Hp), ds[i]? = some d → Same L H → Same W H → J.go i H ∧ ∀ x H', J.yld i H x H' → Same H H' ∧ ∀ hid : Hid, (∀ b, hid b = true → ∃ o, H b = some o) → Same W (vw H hid) → Rep K (vw H' hid) x d) ∧ ∀ H, Same L H → Same W H → J.stop ds.length H
theorem ItOk.b {K : PySem.W.Frag} {L W : Hp} {J : It} {ds : List D} (h : ItOk K W J ds) : ItB K L W J ds := ⟨fun i d H e _ w => h.1 i d H e w, fun H _ w => h.2 H w⟩
def rdIb (K : PySem.W.Frag) (c : Ct) (hid : Hid) (f : FA) (ρ : Rho) : TI := fun σ H R => SR K c hid ρ σ H ∧ ∃ ds, f ρ = some ds ∧ ∀ J H', Same H H' → ItB K H' (vw H' hid) J ds → R J H'
def DIb (X : Cx) (c : Ct) (tg iter : Expr) (f : FA) : Prop := ∀ hid ρ, PI X tg iter (rdIb X.K c hid f ρ)
section
variable {X : Cx} {c : Ct} {k : Kd} {tg iter : Expr} {pos : Pos}
theorem DIp.b {f : FA} (h : DIp X c tg iter f) : DIb X c tg iter f := fun hid ρ => PI.imp (h hid ρ) fun σ H R ⟨sr, ds, e, q⟩ => ⟨sr, ds, e, fun J H' s io => q J H' s io.b⟩
theorem DIp.e {f : FA} (h : DIp X c tg iter f) : DI X c tg iter (puA f) := fun hid ρ => PI.imp (h hid ρ) fun σ H R hq_ => by
  obtain ⟨sr, ds, ρ', e, q⟩ := hq_
  obtain ⟨e1, rfl⟩ := puA_some e
  exact ⟨sr, ds, e1, fun J H' s io => q J H' (.of s) (sr.ext s) io⟩
def lstA (f : FE) : FA := fun ρ => (f ρ).bind fun d => match d with
  | .lst ds => some ds
  | _ => none
def tupA (f : FE) : FA := fun ρ => (f ρ).bind fun d => match d with
  | .tup ds => some ds
  | _ => none
theorem lstA_some {f : FE} {ρ : Rho} {ds : List D} (h : lstA f ρ = some ds) : f ρ = some (.lst ds) := by
  unfold lstA at h
  cases e : f ρ with
  | none => rw [e] at h; cases h
  | some d =>
    rw [e] at h
    cases d with
    | lst z => cases h; rfl
    | _ => cases h
theorem tupA_some {f : FE} {ρ : Rho} {ds : List D} (h : tupA f ρ = some ds) : f ρ = some (.tup ds) := by
  unfold tupA at h
  cases e : f ρ with
  | none => rw [e] at h; cases h
  | some d =>
    rw [e] at h
    cases d with
    | tup z => cases h; rfl
    | _ => cases h
theorem itok_lst {K : PySem.W.Frag} {W : Hp} {a : Addr} {xs : List V} {ds : List D} (h1 : SqL K W a xs) (h2 : Reps K W xs ds) : ItOk K W (Itl K a) ds := by
  refine ⟨fun i d H e s => ?_, fun H s => ⟨_, s.seq h1, by rw [h2.length]; exact Nat.le_refl _⟩⟩
  obtain ⟨x, e1, r1⟩ := h2.get e
  refine ⟨⟨_, x, s.seq h1, e1⟩, fun y H' ⟨e2, e3⟩ => ?_⟩
  subst e2
  have := e3 _ (s.seq h1)
  rw [e1] at this; cases this
  exact ⟨Same.refl _, fun hid _ sw => r1.mono sw⟩
theorem dip_list {f : FE} (h : DP X c .s iter f) : DIp X c tg iter (lstA f) := fun hid ρ => PI.imp (pi_list (h hid ρ)) fun σ H R hq_ => by
  obtain ⟨sr, ds, e, q⟩ := hq_
  refine ⟨sr, _, lstA_some e, fun v H' s' r => ?_⟩
  cases r with
  | lst h1 h2 => have h1 := SqL.of (K := X.K) h1; exact ⟨_, rfl, ⟨_, (vw_le _ _).seq h1⟩, q _ H' s' (itok_lst h1 h2)⟩
theorem dib_list {f : FE} (h : DP X c .b iter f) : DIb X c tg iter (lstA f) := fun hid ρ => PI.imp (pi_list (h hid ρ)) fun σ H R hq_ => by
  obtain ⟨sr, ds, e, q⟩ := hq_
  refine ⟨sr, _, lstA_some e, fun v H' s' r => ?_⟩
  obtain ⟨a, xs, rfl, h1, h2⟩ := Rep1.lst r
  refine ⟨a, rfl, ⟨_, h1⟩, q _ H' s' ⟨fun i d H e s w => ?_, fun H s w => ⟨_, s.seq h1, by rw [h2.length]; exact Nat.le_refl _⟩⟩⟩
  obtain ⟨x, e1, r1⟩ := h2.get e
  refine ⟨⟨_, x, s.seq h1, e1⟩, fun y H' ⟨e2, e3⟩ => ?_⟩
  subst e2
  have := e3 _ (s.seq h1)
  rw [e1] at this; cases this
  exact ⟨Same.refl _, fun hid _ sw => r1.mono sw⟩
theorem dip_tup {f : FE} (h : DP X c .s iter f) : DIp X c tg iter (tupA f) := fun hid ρ => PI.imp (pi_tup (h hid ρ)) fun σ H R hq_ => by
  obtain ⟨sr, ds, e, q⟩ := hq_
  refine ⟨sr, _, tupA_some e, fun v H' s' r => ?_⟩
  cases r with
  | tup h1 h2 => exact ⟨_, rfl, ⟨_, Same.seqT (vw_le _ _) h1⟩, q _ H' s' (itok_tup h1 h2)⟩
def rngA1 (f : FA) : FA := fun ρ => (f ρ).bind fun ds => match ds with
  | [.int j] => if j.natAbs < 4000000000 then some (ups 0 j.toNat) else none
  | _ => none
theorem dip_range1 {a : Expr} {f : FA} {p : Pos} (hm : X.mg "range" = none) (ha : DA X c [a] f) (hg : Gl X "range" := by rfl) (hs : starEach [a] X.env = [(false, eval a X.env)] := by rfl) : DIp X c tg (.Call (.Name "range" p) [a] [] pos) (rngA1 f) := fun hid ρ =>
  PI.imp (pi_range1 hg hm (ha hid ρ) hs) fun σ H R hq_ => by
    obtain ⟨sr, ds, e, q⟩ := hq_
    unfold rngA1 at e
    cases e1 : f ρ with
    | none => rw [e1] at e; cases e
    | some z =>
      rw [e1] at e
      dsimp only [Option.bind] at e
      split at e
      · split at e
        · cases e
          refine ⟨sr, _, e1, fun vs H' s' r => ?_⟩
          cases r with
          | cons r t => cases t; cases r; exact ⟨_, rfl, by omega, by omega, q _ H' s' itok_range⟩
        · cases e
      · cases e
def testsOf (ifs : List Expr) (env : Env) : Sem Bool := forIn ifs true fun c r => if r = true then do let ok ← isTrue c env (eval c env); pure (ForInStep.yield ok) else pure (ForInStep.yield r)
def DIf (X : Cx) (c : Ct) (ifs : List Expr) (p : FT) : Prop := ∀ hid ρ (pins : List (Addr × Obj)) (s : Shared) (σ : St) (H : Hp) (Q : Bool → Hp → Prop), Inv X pins σ H s → rdT X.K c hid p ρ σ H Q → wpAny (model X.prog X.w) X.A (testsOf ifs X.env) (TP X pins σ Q) X.xe s
def yesT : FT := fun _ => some true
theorem dif_nil : DIf X c [] yesT := fun hid ρ pins s σ H Q I hq_ => by
  obtain ⟨sr, d, e, q⟩ := hq_
  cases e
  exact wpAny_tests_nil ⟨H, I, q H (Same.refl _)⟩
theorem dif_one {e : Expr} {p : FT} (h : DT X c e p) : DIf X c [e] p := fun hid ρ pins s σ H Q I q => wpAny_tests_one (h hid ρ pins s σ H Q I q)
end
theorem codeAny_compLoop_turns {prog : Program} {w : World} {A : Around} {R : Result → Shared → Prop} {s : Shared} {elt target iter : Expr} {ifs : List Expr} {scope : Scope} {pos : Pos} {it acc : Value} {env : Env} (I : Nat → Shared → Prop)
    (turn : ∀ n s, I n s → wpAny (model prog w) A (pyNext it) (fun r s₁ => match r with
      | none => R (.ok .next) s₁
      | some v => wpAny (model prog w) A (letOwnedTupleGo target it v) (fun _ s₁ => wpAny (model prog w) A (assign target env v) (fun _ s₂ =>
          wpAny (model prog w) A (testsOf ifs env) (fun ok s₃ =>
            if ok = true then wpAny (model prog w) A (eval elt env) (fun x s₄ =>
              wpAny (model prog w) A (call (.builtin "list.append") [acc, x]) (fun _ s₅ => ∃ m, m < n ∧ I m s₅) (fun _ _ => False) s₄) (fun _ _ => False) s₃
            else ∃ m, m < n ∧ I m s₃) (fun _ _ => False) s₂) (fun _ _ => False) s₁) (fun _ _ => False) s₁) (fun _ _ => False) s)
    (n : Nat) (h : I n s) :
    codeAny (model prog w) A (.compLoop (.ListComp elt [⟨target, iter, ifs, 0⟩] scope pos) 0 it acc env) R s := by
  have no : ∀ {E' : Value → Shared → Prop} (x : Value) (s : Shared), False → E' x s := fun _ _ z => z.elim
  refine codeAny_loop rfl I (fun n s hI => ?_) n h
  show wpAny _ A ((compTurn (.ListComp elt [⟨target, iter, ifs, 0⟩] scope pos) 0 it acc env).onRaise (fun x => do noteFrame x env; theTreesLotGoes x)) _ _ s
  refine wpAny_noted ?_
  rw [compTurn_list]
  refine wpAny_bind (wpAny_standAt (wpAny_bind (wpAny_mono (turn n s hI) (fun r s₁ h₁ => ?_) no)))
  cases r with
  | none => exact wpAny_pure h₁
  | some v =>
    refine wpAny_bind (wpAny_mono h₁ (fun _ s₁ h₁ => ?_) no)
    refine wpAny_bind (wpAny_mono h₁ (fun _ s₂ h₂ => wpAny_bind (wpAny_mono h₂ (fun ok s₃ h₃ => ?_) no)) no)
    cases ok with
    | false => exact wpAny_pure ⟨rfl, h₃⟩
    | true =>
      exact wpAny_bind (wpAny_bind (wpAny_mono h₃ (fun x s₄ h₄ => wpAny_bind (wpAny_mono h₄ (fun _ s₅ h₅ => wpAny_pure (wpAny_pure ⟨rfl, h₅⟩)) no)) no))
def compL (g : FG) (p : FT) (f : FE) (ρ0 : Rho) : List D → Option (List D)
  | [] => some []
  | d :: r => (g d ρ0).bind fun ρ1 => (p ρ1).bind fun b => if b = true then (f ρ1).bind fun y => (compL g p f ρ0 r).map (y :: ·) else compL g p f ρ0 r
def compF (m : Nat) (gi : FA) (g : FG) (p : FT) (f : FE) : FE := fun ρ => (gi ρ).bind fun ds => if ds.length ≤ sizeLine then (compL g p f (ρ ++ List.replicate m .no) ds).map D.lst else none
theorem compF_some {m : Nat} {gi : FA} {g : FG} {p : FT} {f : FE} {ρ : Rho} {d : D} (h : compF m gi g p f ρ = some d) : ∃ ds ys, gi ρ = some ds ∧ ds.length ≤ sizeLine ∧ compL g p f (ρ ++ List.replicate m .no) ds = some ys ∧ d = .lst ys := by
  unfold compF at h
  cases e1 : gi ρ with
  | none => rw [e1] at h; cases h
  | some ds =>
    rw [e1] at h
    dsimp only [Option.bind] at h
    split at h
    · cases e2 : compL g p f (ρ ++ List.replicate m .no) ds with
      | none => rw [e2] at h; cases h
      | some ys => rw [e2] at h; cases h; exact ⟨ds, ys, rfl, ‹_›, e2, rfl⟩
    · cases h
def Tail (n : Nat) (g : FG) : Prop := ∀ d (ρ0 ρ1 : Rho), g d ρ0 = some ρ1 → ρ1.length = ρ0.length ∧ ∀ i : Nat, i < n → ρ1[i]? = ρ0[i]?
theorem tail_n {n i : Nat} (h : n ≤ i) : Tail n (gN i) := fun d ρ0 ρ1 e => by
  cases e
  exact ⟨by simp, fun j hj => List.getElem?_set_ne (by omega)⟩
theorem SR.forget {K : PySem.W.Frag} {c : Ct} {hid : Hid} {ρ0 ρ1 : Rho} {σ : St} {H : Hp} (h : SR K c hid ρ1 σ H) (hl : ρ1.length = ρ0.length) (hs : ∀ (i : Nat) (s : Sl), ρ0[i]? = some s → s = .no ∨ ρ1[i]? = some s) : SR K c hid ρ0 σ H := by
  have ow : ∀ i : Nat, Ow ρ0[i]? → Ow ρ1[i]? := fun i o => by
    cases e : ρ0[i]? with
    | none => rw [e] at o; exact o.elim
    | some s =>
      rcases hs i s e with rfl | z
      · rw [e] at o; exact o.elim
      · rw [z, ← e]; exact o
  refine ⟨h.tr, h.ht, h.h0, h.kp, h.t0, h.c0, h.m0, h.len.trans hl, fun i s e => ?_, fun i j a n o1 o2 => h.ap i j a n (ow i o1) (ow j o2)⟩
  rcases hs i s e with rfl | z
  · trivial
  · exact h.sl i s z
theorem SR.more {K : PySem.W.Frag} {c : Ct} {hid : Hid} {ρ : Rho} {σ : St} {H : Hp} (h : SR K c hid ρ σ H) (m : Nat) : SR K c hid (ρ ++ List.replicate m .no) (σ ++ List.replicate m none) H := by
  have lt : ∀ {i : Nat}, Ow (ρ ++ List.replicate m Sl.no)[i]? → i < ρ.length := fun {i} o => by
    by_cases hi : i < ρ.length
    · exact hi
    · rw [List.getElem?_append_right (by omega), List.getElem?_replicate] at o
      split at o <;> exact o.elim
  refine ⟨h.tr, h.ht, h.h0, h.kp, h.t0, h.c0, h.m0, by simp [h.len], fun i s e => ?_, fun i j a n o1 o2 q1 q2 => ?_⟩
  · by_cases hi : i < ρ.length
    · rw [List.getElem?_append_left hi] at e
      have z := h.sl i s e
      have es : (σ ++ List.replicate m none)[i]? = σ[i]? := List.getElem?_append_left (by rw [h.len]; exact hi)
      cases s with
      | no => trivial
      | v d => obtain ⟨x, h1, h2⟩ := z; exact ⟨x, es.trans h1, h2⟩
      | own ds => obtain ⟨a, xs, h1, h2⟩ := z; exact ⟨a, xs, es.trans h1, h2⟩
      | arg ds => obtain ⟨a, xs, h1, h2⟩ := z; exact ⟨a, xs, es.trans h1, h2⟩
      | ob b => obtain ⟨a, h1, h2⟩ := z; exact ⟨a, es.trans h1, h2⟩
    · rw [List.getElem?_append_right (by omega), List.getElem?_replicate] at e
      split at e
      · cases e; trivial
      · cases e
  · have l1 := lt o1
    have l2 := lt o2
    rw [List.getElem?_append_left l1] at o1
    rw [List.getElem?_append_left l2] at o2
    rw [List.getElem?_append_left (by rw [h.len]; exact l1)] at q1
    rw [List.getElem?_append_left (by rw [h.len]; exact l2)] at q2
    exact h.ap i j a n o1 o2 q1 q2
end L2
set_option Elab.async false
set_option linter.all false
set_option maxRecDepth 100000
namespace L2
open PySem PySem.Spec PyProof.Rows
section
variable {X : Cx} {c : Ct} {elt tg iter : Expr} {ifs : List Expr} {scope : Scope} {pos : Pos} {N' : List Str} {m : Nat} {gi : FA} {g : FG} {p : FT} {f : FE}
theorem SR.write {K : PySem.W.Frag} {hid : Hid} {ρ : Rho} {σ : St} {H : Hp} {a : Addr} {o' : HO} (h : SR K c hid ρ σ H) (hh : hid a = true) (h0 : c.H₀ a = none) (na : ∀ i : Nat, Ow ρ[i]? → σ[i]? ≠ some (some (.ref a))) (hn : ∀ xs, o' ≠ .tup xs := by intro _ e; cases e) : SR K c hid ρ σ (upd H a o') := by
  have tr' : ∀ b o, H b = some o → ∃ o2, (upd H a o') b = some o2 := fun b o q => by
    by_cases e : b = a
    · subst e; exact ⟨_, upd_same⟩
    · exact ⟨o, by rw [upd_ne e]; exact q⟩
  refine ⟨fun b hb => let ⟨o, q⟩ := h.tr b hb; tr' b o q, fun b xs hb q => by
    by_cases e : b = a
    · subst e; rw [upd_same] at q; exact hn _ (Option.some.inj q)
    · rw [upd_ne e] at q; exact h.ht b xs hb q, h.h0, fun b o q m => ?_, fun b o q => let ⟨o2, q2⟩ := h.t0 b o q; tr' b o2 q2, h.c0, h.m0, h.len, fun i s e => ?_, h.ap⟩
  · rw [upd_ne (ne_of_none q h0)]; exact h.kp b o q m
  · have z := h.sl i s e
    have ne : ∀ a', Ow ρ[i]? → σ[i]? = some (some (.ref a')) → a' ≠ a := fun a' o q w => by subst w; exact na i o q
    cases s with
    | no => trivial
    | v d => obtain ⟨x, h1, h2⟩ := z; exact ⟨x, h1, by rw [vw_upd hh]; exact h2⟩
    | own ds => obtain ⟨a', xs, h1, h2, h3, h4, h5⟩ := z; exact ⟨a', xs, h1, by rw [upd_ne (ne a' (by rw [e]; trivial) h1)]; exact h2, h3, h4, by rw [vw_upd hh]; exact h5⟩
    | arg ds => obtain ⟨a', xs, h1, h2, h3, h4, h5⟩ := z; exact ⟨a', xs, h1, by rw [upd_ne (ne a' (by rw [e]; trivial) h1)]; exact h2, h3, h4, by rw [vw_upd hh]; exact h5⟩
    | ob b => obtain ⟨a', h1, h2⟩ := z; exact ⟨a', h1, h2.mono (fun ow o q => by rw [upd_ne (ne a' (by rw [e]; exact ow) h1)]; exact q) (by rw [vw_upd hh]; exact Same.refl _) fun _ q => q⟩
structure CLI (Y : Cx) (K : PySem.W.Frag) (c : Ct) (hid : Hid) (ρ0 : Rho) (H W : Hp) (D0 : Addr) (fp : List Addr) (tn : Nat → Heap → Prop) (g : FG) (p : FT) (f : FE) (ds ys : List D) (n i : Nat) (xs : List V) (ad : List D) (σ' : St) (H' : Hp) (s' : Shared) : Prop where
  e : n = ds.length - i
  hi : i ≤ ds.length
  I : Inv Y [] σ' H' s'
  st : tn i s'.heap
  fr : ∀ b ∈ fp, H' b = none
  sr : SR K c hid ρ0 σ' H'
  sm : Same H H'
  ac : H' D0 = some (.lst xs)
  rp : Reps K (vw H' hid) xs ad
  w : Same W (vw H' hid)
  hl : xs.length ≤ i
  na : ∀ i : Nat, Ow ρ0[i]? → σ'[i]? ≠ some (some (.ref D0))
  go : ∃ rest, compL g p f ρ0 (ds.drop i) = some rest ∧ ad ++ rest = ys
theorem comp_loop (hcalm : X.calm = true) (hT : Tail X.N.length g)
    (hg : ∀ C s₀ H₀ ex, DGt (compCx X N' scope C s₀ H₀ ex) c tg g) (hp : ∀ C s₀ H₀ ex, DIf (compCx X N' scope C s₀ H₀ ex) c ifs p) (he : ∀ C s₀ H₀ ex, DP (compCx X N' scope C s₀ H₀ ex) c .s elt f)
    {σ3 : St} {H H3 : Hp} {s3 s4 : Shared} {hid : Hid} {ρ : Rho} {J : It} {it D0 C : Addr} {fp : List Addr} {tn : Nat → Heap → Prop} {ds ys : List D} {R : Result → Shared → Prop} {W : Hp} (hρ : ρ.length = X.N.length)
    (I : Inv (compCx X N' scope C s3 H3 fp) [] σ3 H3 s4) (sr : SR X.K c hid (ρ ++ List.replicate m .no) σ3 H3) (hh : hid D0 = true) (h00 : c.H₀ D0 = none) (na : ∀ i : Nat, Ow (ρ ++ List.replicate m Sl.no)[i]? → σ3[i]? ≠ some (some (.ref D0))) (hacc : H3 D0 = some (.lst [])) (sm : Same H H3) (nD : H D0 = none) (wv : Same W (vw H3 hid)) (T : Turn X.prog X.w X.K tg J fp it tn) (st : tn 0 s4.heap) (hF : ∀ b ∈ fp, H3 b = none)
    (io : ItB X.K H W J ds) (hz : ds.length ≤ sizeLine) (hc : compL g p f (ρ ++ List.replicate m .no) ds = some ys)
    (hR : ∀ (s' : Shared) (σ' : St) (H' : Hp) (xs : List V), Inv (compCx X N' scope C s3 H3 fp) [] σ' H' s' → Same H H' → H' D0 = some (.lst xs) → Reps X.K (vw H' hid) xs ys → R (.ok .next) s') :
    codeAny (model X.prog X.w) X.A (.compLoop (.ListComp elt [⟨tg, iter, ifs, 0⟩] scope pos) 0 (.ref it) (.ref D0) (compEnvC scope (ownC X.env.cells scope C) C X.env)) R s4 := by
  have stat : ∀ {pins : List (Addr × Obj)} {H' : Hp}, (∀ q ∈ pins, q.1 ∉ fp) → (∀ b ∈ fp, H' b = none) → ∀ b ∈ fp, FpOk (compCx X N' scope C s3 H3 fp) pins H' b := fun {pins H'} hpn hn b hb =>
    ⟨hn b hb, (I.ok.exf b hb).1, I.ok.exfs b hb, .inl hb, (I.ok.exf b hb).2, fun q hq e => hpn q (by have hq' : q ∈ ([] : List (Addr × Obj)) ++ pins := hq; simpa using hq') (by rw [e]; exact hb)⟩
  have no : ∀ q ∈ ([] : List (Addr × Obj)), q.1 ∉ fp := fun q hq => nomatch hq
  refine codeAny_compLoop_turns (fun n s' => ∃ (i : Nat) (xs : List V) (ad : List D) (σ' : St) (H' : Hp), CLI (compCx X N' scope C s3 H3 fp) X.K c hid (ρ ++ List.replicate m .no) H W D0 fp tn g p f ds ys n i xs ad σ' H' s') ?_ ds.length
    ⟨0, [], [], σ3, H3, by simp, Nat.zero_le _, I, st, hF, sr, sm, hacc, .nil, wv, Nat.zero_le _, na, ys, by simpa using hc, rfl⟩
  rintro n s5 ⟨i, xs, ad, σ5, H5, rfl, hi, I5, st5, f5, sr5, sm5, ac5, rp5, w5, hl5, na5, rest, hc5, hy5⟩
  have wH : Same W H5 := w5.trans (vw_le _ _)
  by_cases hlt : i < ds.length
  · have hd : ds[i]? = some ds[i] := List.getElem?_eq_getElem hlt
    have e2 : ds.drop i = ds[i] :: ds.drop (i + 1) := List.drop_eq_getElem_cons hlt
    rw [e2] at hc5
    unfold compL at hc5
    obtain ⟨go, yl⟩ := io.1 i ds[i] H5 hd sm5 wH
    refine thn (T.item (compCx X N' scope C s3 H3 fp) rfl rfl rfl hcalm i [] s5 σ5 H5 (fun _ _ => False) I5 (stat no f5) st5 go) fun r s6 hq_ => ?_
    obtain ⟨u, hr, h6⟩ := hq_
    subst hr
    refine thn h6 fun _ s7 hq_ => ?_
    obtain ⟨x, H7, I7, r7, y7, st7, f7⟩ := hq_
    obtain ⟨s7', rp⟩ := yl x H7 y7
    have rx := rp hid sr5.tr w5
    have I7' := I7.pinned (stat no f7) (T.obj _ _ st7)
    cases e3 : g ds[i] (ρ ++ List.replicate m .no) with
    | none => rw [e3] at hc5; cases hc5
    | some ρ1 =>
      rw [e3] at hc5
      have hc5 : (p ρ1).bind (fun b => if b = true then (f ρ1).bind fun y => (compL g p f (ρ ++ List.replicate m .no) (ds.drop (i + 1))).map (y :: ·) else compL g p f (ρ ++ List.replicate m .no) (ds.drop (i + 1))) = some rest := hc5
      obtain ⟨tl1, tl2⟩ := hT _ _ _ e3
      have fg : ∀ {σ' : St} {H' : Hp}, SR X.K c hid ρ1 σ' H' → SR X.K c hid (ρ ++ List.replicate m .no) σ' H' := fun {σ' H'} z => z.forget tl1 fun j s e => by
        by_cases hj : j < X.N.length
        · exact .inr ((tl2 j hj).trans e)
        · refine .inl ?_
          rw [List.getElem?_append_right (by omega), List.getElem?_replicate] at e
          split at e
          · cases e; rfl
          · cases e
      have keepT : ∀ {σ' : St} {H' : Hp} {s' : Shared}, Inv (compCx X N' scope C s3 H3 fp) ([] ++ pinsAt fp s7.heap) σ' H' s' → tn (i + 1) s'.heap ∧ ∀ b ∈ fp, H' b = none := fun {σ' H' s'} J' => by
        refine ⟨T.keep _ _ _ st7 fun b hb o e => (J'.pin (b, o) (List.mem_append_right _ (List.mem_append_right _ (mem_pinsAt hb e)))).1, fun b hb => ?_⟩
        obtain ⟨o, e, _⟩ := T.obj _ _ st7 b hb
        exact (J'.pin (b, o) (List.mem_append_right _ (List.mem_append_right _ (mem_pinsAt hb e)))).2.1
      refine thn (hg C s3 H3 fp hid _ ds[i] _ s7 σ5 H7 x u (fun σ' H' => H' = H7 ∧ SR X.K c hid ρ1 σ' H7 ∧ OwK (ρ ++ List.replicate m .no) ρ1 σ5 σ') I7' r7 ⟨sr5.ext s7', rx, ρ1, e3, fun σ' z o => ⟨rfl, z, o⟩⟩) fun _ s8 hq_ => ?_
      obtain ⟨σ8, H8, I8, e8, q8, o8⟩ := hq_
      subst e8
      have na8 : ∀ i : Nat, Ow (ρ ++ List.replicate m Sl.no)[i]? → σ8[i]? ≠ some (some (.ref D0)) := fun j o => by
        have o1 : Ow ρ1[j]? := by
          by_cases hj : j < X.N.length
          · rw [tl2 j hj]; exact o
          · exfalso
            rw [List.getElem?_append_right (by omega), List.getElem?_replicate] at o
            split at o <;> exact o.elim
        rw [(o8 j o1).2]
        exact na5 j o
      cases e4 : p ρ1 with
      | none => rw [e4] at hc5; cases hc5
      | some b =>
        rw [e4] at hc5
        have hc5 : (if b = true then (f ρ1).bind fun y => (compL g p f (ρ ++ List.replicate m .no) (ds.drop (i + 1))).map (y :: ·) else compL g p f (ρ ++ List.replicate m .no) (ds.drop (i + 1))) = some rest := hc5
        refine thn (hp C s3 H3 fp hid ρ1 _ s8 σ8 H8 (fun b' H' => b' = b ∧ Same H8 H') I8 ⟨q8, b, e4, fun H' s' => ⟨rfl, s'⟩⟩) fun ok s9 hq_ => ?_
        obtain ⟨H9, I9, e9, sm9⟩ := hq_
        subst e9
        have w9 : Same (vw H5 hid) (vw H9 hid) := vw_same (s7'.trans sm9)
        cases ok with
        | false =>
          have hc5 : compL g p f (ρ ++ List.replicate m .no) (ds.drop (i + 1)) = some rest := hc5
          obtain ⟨k1, k2⟩ := keepT I9
          exact ⟨ds.length - (i + 1), by omega, i + 1, xs, ad, σ8, H9, rfl, hlt, I9.unpinned, k1, k2, fg (q8.ext sm9), sm5.trans (s7'.trans sm9), sm9 _ _ (s7' _ _ ac5), rp5.mono w9, w5.trans w9, by omega, na8, rest, hc5, hy5⟩
        | true =>
          have hc5 : ((f ρ1).bind fun y => (compL g p f (ρ ++ List.replicate m .no) (ds.drop (i + 1))).map (y :: ·)) = some rest := hc5
          cases e5 : f ρ1 with
          | none => rw [e5] at hc5; cases hc5
          | some y =>
            rw [e5] at hc5
            have hc5 : (compL g p f (ρ ++ List.replicate m .no) (ds.drop (i + 1))).map (y :: ·) = some rest := hc5
            cases e6 : compL g p f (ρ ++ List.replicate m .no) (ds.drop (i + 1)) with
            | none => rw [e6] at hc5; cases hc5
            | some rest' =>
              rw [e6] at hc5
              cases hc5
              show wpAny (model X.prog X.w) X.A (eval elt _) _ _ s9
              refine thn (he C s3 H3 fp hid ρ1 _ s9 σ8 H9 (fun v H' => Same H9 H' ∧ Rep X.K (vw H' hid) v y) I9 ⟨q8.ext sm9, y, e5, fun v H' s' r => ⟨s', r⟩⟩) fun v s10 hq_ => ?_
              obtain ⟨z, H10, I10, rz, sm10, rp10⟩ := hq_
              have sm' : Same H5 H10 := s7'.trans (sm9.trans sm10)
              have a10 : H10 D0 = some (.lst xs) := sm' _ _ ac5
              refine thn (mt_append (X := compCx X N' scope C s3 H3 fp) _ s10 σ8 H10 (.ref D0) [z] (.ref D0) [v] (fun _ H' => H' = upd H10 D0 (.lst (xs ++ [z]))) I10 rfl (.cons rz .nil) ⟨D0, xs, z, rfl, rfl, a10, by omega, rfl⟩) fun _ s11 ⟨_, H11, I11, _, e11⟩ => ?_
              subst e11
              obtain ⟨k1, k2⟩ := keepT I11
              have vv : vw (upd H10 D0 (.lst (xs ++ [z]))) hid = vw H10 hid := vw_upd hh
              have w10 : Same (vw H5 hid) (vw H10 hid) := vw_same sm'
              refine ⟨ds.length - (i + 1), by omega, i + 1, xs ++ [z], ad ++ [y], σ8, _, rfl, hlt, I11.unpinned, k1, k2, ?_, fun b o e => ?_, upd_same, ?_, ?_, by simp; omega, na8, rest', e6, by rw [← hy5]; simp⟩
              ·
                have q10 := fg ((q8.ext sm9).ext sm10)
                exact q10.write hh h00 na8
              · rw [upd_ne (ne_of_none e nD)]; exact sm' _ _ (sm5 _ _ e)
              · rw [vv]; exact (rp5.mono w10).append (.cons rp10 .nil)
              · rw [vv]; exact w5.trans w10
  · have e : i = ds.length := by omega
    subst e
    rw [List.drop_eq_nil_of_le (Nat.le_refl _)] at hc5
    cases hc5
    rw [List.append_nil] at hy5
    subst hy5
    refine thn (T.done (compCx X N' scope C s3 H3 fp) rfl rfl rfl hcalm ds.length [] s5 σ5 H5 (fun _ _ => False) I5 (stat no f5) st5 (io.2 H5 sm5 wH)) fun r s6 hq_ => ?_
    obtain ⟨hr, I6⟩ := hq_
    subst hr
    exact hR s6 σ5 H5 xs I6 sm5 ac5 rp5
theorem comp_block (hcalm : X.calm = true) (hk : scope.kind = .function) (hs : okS scope X.env.scope = true) (hn : okN X.N N' scope = true) (hm : N'.length - X.N.length = m) (hT : Tail X.N.length g)
    (hg : ∀ C s₀ H₀ ex, DGt (compCx X N' scope C s₀ H₀ ex) c tg g) (hp : ∀ C s₀ H₀ ex, DIf (compCx X N' scope C s₀ H₀ ex) c ifs p) (he : ∀ C s₀ H₀ ex, DP (compCx X N' scope C s₀ H₀ ex) c .s elt f)
    {E : Value → Shared → Prop} {pins : List (Addr × Obj)} {σ : St} {H : Hp} {s : Shared} {hid : Hid} {ρ : Rho} {J : It} {it : Addr} {fp : List Addr} {tn : Nat → Heap → Prop} {ds ys : List D} {RR : Value → Addr → Result → Shared → Prop}
    (I : Inv X pins σ H s) (sr : SR X.K c hid ρ σ H) (T : Turn X.prog X.w X.K tg J fp it tn) (st : tn 0 s.heap) (hF : ∀ b ∈ fp, FpOk X pins H b) (io : ItB X.K H (vw H hid) J ds) (hz : ds.length ≤ sizeLine) (hc : compL g p f (ρ ++ List.replicate m .no) ds = some ys)
    (hR : ∀ (D C : Addr) (s' : Shared) (H' : Hp) (xs : List V), s.heap.objs.size ≤ D → s.heap.objs.size ≤ C → D ≠ C → H D = none → Same H H' → H' D = some (.lst xs) → Reps X.K (vw H' (hadd hid D)) xs ys → (∃ m, s'.heap.Ns C m) → H' C = none → s'.os = s.os → AllBare s'.gens → HOk X.prog X.w H' s'.heap → Un (frs X.stack) fp H H' s.heap s'.heap → RR (.ref D) C (.ok .next) s') :
    wpAny (model X.prog X.w) X.A (newList []) (fun acc s₃ => wpAny (model X.prog X.w) X.A (newFunctionEnv scope X.env.globals (clo X.env.cells scope.names []) [] X.env.qual none .none (some X.env)) (fun cenv s₄ =>
      codeAny (model X.prog X.w) X.A (.compStart (.ListComp elt [⟨tg, iter, ifs, 0⟩] scope pos) 0 (.ref it) acc { cenv with scope := relabel scope X.env }) (RR acc cenv.locals) s₄) E s₃) E s := by
  refine wpAny_newObj_type (nfe_own fun h₁ hns₁ kp1 oc₁ => ?_)
  dsimp only at hns₁ kp1 oc₁ ⊢
  generalize hH2 : s.heap.push { cls := .type "list", dict := none, data := .seq ([] : List Value).toArray } = H2 at hns₁ kp1 oc₁ ⊢
  have hC : H2.objs.size = s.heap.objs.size + 1 := by rw [← hH2, Heap.size_push]
  have hD : H s.heap.objs.size = none := I.hok.fresh (Nat.le_refl _)
  have I2 : Inv X pins σ (upd H s.heap.objs.size (.lst [])) { s with heap := H2 } := by
    rw [← hH2]
    exact I.laid (t' := s.toks) (fun b o e => Heap.get?_push_of_some _ e) (Nat.le_refl _) ⟨Nat.zero_le _, [], 0, .nil, Heap.get?_push_size _ rfl⟩
  have fpLt : ∀ b ∈ fp, b < s.heap.objs.size := fun b hb => let ⟨o, e, _⟩ := T.obj 0 s.heap st b hb; Heap.lt_size e
  have hF2 : ∀ b ∈ fp, FpOk X pins (upd H s.heap.objs.size (.lst [])) b := fun b hb => ⟨by rw [upd_ne (Nat.ne_of_lt (fpLt b hb))]; exact (hF b hb).1, (hF b hb).2⟩
  have kp0 : ∀ b o, s.heap.get? b = some o → H2.get? b = some o := fun b o e => by rw [← hH2]; exact Heap.get?_push_of_some _ e
  have IY := inv_comp (tk := s.toks) (N' := N') (fp := fp) I2 hF2 (fun b hb => let ⟨o, e, _⟩ := T.obj 0 s.heap st b hb; ⟨o, kp0 b o e⟩) hk hs hn hns₁ kp1 oc₁
  rw [hm] at IY
  dsimp only at IY
  have sr0 : SR X.K c (hadd hid s.heap.objs.size) (ρ ++ List.replicate m .no) (σ ++ List.replicate m none) (upd H s.heap.objs.size (.lst [])) := (sr.hide (same_new hD _) hD upd_same).more m
  have hρ : ρ.length = X.N.length := by rw [← sr.len]; exact I.len
  have nf : hid s.heap.objs.size = false := sr.fresh hD
  have st1 : tn 0 h₁ := T.keep _ _ _ st fun b hb o e => kp1 b o (kp0 b o e)
  have na0 : ∀ i : Nat, Ow (ρ ++ List.replicate m Sl.no)[i]? → (σ ++ List.replicate m none)[i]? ≠ some (some (V.ref s.heap.objs.size)) := (sr.more m).notOw nf
  have wv : Same (vw H hid) (vw (upd H s.heap.objs.size (.lst [])) (hadd hid s.heap.objs.size)) := by rw [vw_new hD]; exact Same.refl _
  have loop : ∀ s4 : Shared, s4 = { s with heap := h₁, toks := s.toks } →
      codeAny (model X.prog X.w) X.A (.compLoop (.ListComp elt [⟨tg, iter, ifs, 0⟩] scope pos) 0 (.ref it) (.ref s.heap.objs.size) (compEnvC scope (ownC X.env.cells scope H2.objs.size) H2.objs.size X.env)) (RR (.ref s.heap.objs.size) H2.objs.size) s4 := by
    rintro s4 rfl
    refine comp_loop (H := H) (hid := hadd hid s.heap.objs.size) (W := vw H hid) hcalm hT hg hp he hρ IY sr0 hadd_self (sr.fresh0 hD) na0 upd_same (same_new hD _) hD wv T st1 (fun b hb => (hF2 b hb).1) io hz hc ?_
    intro s' σ' H' xs I' sm' hx' rp'
    have un1 : Un (frs X.stack) fp H (upd H s.heap.objs.size (.lst [])) s.heap H2 := Un.laid (fun b o e => kp0 b o e) (Nat.le_refl _) hD
    refine hR s.heap.objs.size H2.objs.size s' H' xs (Nat.le_refl _) (by rw [hC]; exact Nat.le_succ _) (by rw [hC]; exact Nat.ne_of_lt (Nat.lt_succ_self _)) hD sm' hx' rp' (let ⟨m, hm, _⟩ := I'.loc; ⟨m, hm⟩) I'.free I'.os I'.bare I'.hok (un1.trans I'.base)
  exact codeAny_compStart_list (loop _ rfl) (T.self X.A 0 _ _ _ st1 (loop _ rfl))
theorem dp_comp (hcalm : X.calm = true) (hT : Tail X.N.length g) (hi : DIb X c tg iter gi)
    (hg : ∀ C s₀ H₀ ex, DGt (compCx X N' scope C s₀ H₀ ex) c tg g) (hp : ∀ C s₀ H₀ ex, DIf (compCx X N' scope C s₀ H₀ ex) c ifs p) (he : ∀ C s₀ H₀ ex, DP (compCx X N' scope C s₀ H₀ ex) c .s elt f)
    (hk : scope.kind = .function := by rfl) (hs : okS scope X.env.scope = true := by kernel_rfl) (hn : okN X.N N' scope = true := by kernel_rfl) (hm : N'.length - X.N.length = m := by rfl) (hset : ∀ x, foldedSetIterable iter X.env x = pure x := by intro _; rfl) :
    DP X c .n (.ListComp elt [⟨tg, iter, ifs, 0⟩] scope pos) (compF m gi g p f) := by
  intro hid ρ pins s σ H Q I hq
  obtain ⟨sr, d, hd, q⟩ := hq
  obtain ⟨ds, ys, e1, hz, hc, rfl⟩ := compF_some hd
  rw [eval_ListComp]
  refine wpAny_comprehension_free (use := none) rfl hset (closureFor_clo fun x hx => I.ok.has x (okS_free hs x hx)) hk (okS_local hs) ?_
  refine thn (hi hid ρ pins s σ H (fun J H' => Same H H' ∧ ItB X.K H' (vw H' hid) J ds) I ⟨sr, ds, e1, fun J H' s1 io => ⟨s1, io⟩⟩) fun v s1 h1 => thn h1 fun itv s2 h2 => ?_
  obtain ⟨it, fp, tn, J, H2, rfl, I2, T, st2, f2, sm, io⟩ := h2
  refine comp_block (RR := fun acc C => compPost (model X.prog X.w) X.A X.xe none (EP X pins σ Q) acc C) hcalm hk hs hn hm hT hg hp he I2 (sr.ext sm) T st2 f2 io hz hc ?_
  intro D C s' H' xs hDge hCge hDC hD sm' hx rp ⟨mm, hns⟩ hC' hos hbare hok hun
  refine ⟨mm, hns, fun h' hsb => ⟨.ref D, H', ?_, rfl, q _ H' (sm.trans sm') ⟨D, xs, ys, rfl, rfl, sm.free hD, hx, rp⟩⟩⟩
  have neC : ∀ b o, s2.heap.get? b = some o → b ≠ C := fun b o e z => by subst z; exact absurd (Heap.lt_size e) (Nat.not_lt.mpr hCge)
  have hun' : Un (frs X.stack) fp H2 H' s2.heap h' := ⟨fun b o e n h1 h2 => (hsb.2 b (neC b o e)).trans (hun.keep b o e n h1 h2), fun b o e n h1 h2 => let ⟨sl, z⟩ := hun.slot b o e n h1 h2; ⟨sl, (hsb.2 b (neC b o e)).trans z⟩, hun.free, fun b o e h2 => let ⟨o', z⟩ := hun.there b o e h2; ⟨o', (hsb.2 b (neC b o e)).trans z⟩, hun.tups, hun.frzs, hun.tbls⟩
  have hok' : HOk X.prog X.w H' h' := fun b o e => by
    have nb : ∀ b' o', H' b' = some o' → b' ≠ C := fun b' o' e' z => by subst z; rw [hC'] at e'; cases e'
    refine (hok b o e).stay (fun c' u hc' z => (hsb.2 c' ?_).trans z) (fun _ z => z) fun _ _ z => z
    rcases hc' with z' | z'
    · rw [z']; exact nb b o e
    · exact nb c' _ z'
  exact I2.call' (s' := { s' with heap := h' }) (ch := fp) hos hun' hok' hbare fun b hb => ⟨(f2 b hb).2.2.2.1, (f2 b hb).2.1, (f2 b hb).2.2.2.2.1, (f2 b hb).2.2.2.2.2⟩
end
end L2
set_option Elab.async false
set_option linter.all false
set_option maxRecDepth 100000
namespace L2
open PySem PySem.Spec PyProof.Rows
end L2
set_option Elab.async false
set_option linter.all false
set_option maxRecDepth 100000
namespace L2
open PySem PySem.Spec PyProof.Rows
mutual
def eqD : D → D → Bool
  | .non, .non => true
  | .bl a, .bl b => a == b
  | .bl a, .int b => (if a then 1 else 0) == b
  | .int a, .bl b => a == (if b then 1 else 0)
  | .int a, .int b => a == b
  | .str a, .str b => a == b
  | .tup a, .tup b => eqDs a b
  | .lst a, .lst b => eqDs a b
  | .lst a, .scr b => eqDs a b
  | .scr a, .lst b => eqDs a b
  | .scr a, .scr b => eqDs a b
  | _, _ => false
def eqDs : List D → List D → Bool
  | [], [] => true
  | x :: xs, y :: ys => eqD x y && eqDs xs ys
  | _, _ => false
end
mutual
def dep : D → Nat
  | .tup a => deps a + 1
  | .lst a => deps a + 1
  | .scr _ => cLine
  | _ => 0
def deps : List D → Nat
  | [] => 0
  | x :: xs => max (dep x) (deps xs)
end
theorem deps_get : ∀ {xs : List D} {i : Nat} {d : D}, xs[i]? = some d → dep d ≤ deps xs
  | [], _, _, h => by simp at h
  | x :: xs, 0, d, h => by simp at h; subst h; unfold deps; exact Nat.le_max_left _ _
  | x :: xs, i + 1, d, h => by
    have := deps_get (xs := xs) (i := i) (d := d) (by simpa using h)
    unfold deps
    exact Nat.le_trans this (Nat.le_max_right _ _)
mutual
theorem eqD_refl : ∀ x : D, eqD x x = true
  | .non => by unfold eqD; rfl
  | .bl a => by unfold eqD; simp
  | .int a => by unfold eqD; simp
  | .str a => by unfold eqD; simp
  | .tup a => by unfold eqD; exact eqDs_refl a
  | .lst a => by unfold eqD; exact eqDs_refl a
  | .scr a => by unfold eqD; exact eqDs_refl a
theorem eqDs_refl : ∀ x : List D, eqDs x x = true
  | [] => by unfold eqDs; rfl
  | x :: xs => by unfold eqDs; rw [eqD_refl x, eqDs_refl xs]; rfl
end
def eqAtI (xs ys : List D) (j : Nat) : Bool := match xs[j]?, ys[j]? with
  | some x, some y => eqD x y
  | _, _ => false
theorem range_all {xs ys : List D} (h : xs.length = ys.length) : (List.range xs.length).all (eqAtI xs ys) = eqDs xs ys := by
  induction xs generalizing ys with
  | nil =>
    cases ys with
    | nil => unfold eqDs; rfl
    | cons y ys => simp at h
  | cons x xs ih =>
    cases ys with
    | nil => simp at h
    | cons y ys =>
      rw [List.length_cons, List.range_succ_eq_map, List.all_cons, List.all_map]
      have e0 : eqAtI (x :: xs) (y :: ys) 0 = eqD x y := rfl
      have e1 : ((eqAtI (x :: xs) (y :: ys)) ∘ Nat.succ) = eqAtI xs ys := by funext j; simp [eqAtI]
      rw [e0, e1, ih (by simpa using h)]
      conv => rhs; unfold eqDs
theorem eqDs_len : ∀ {xs ys : List D}, xs.length ≠ ys.length → eqDs xs ys = false
  | [], [], h => absurd rfl h
  | [], _ :: _, _ => by unfold eqDs; rfl
  | _ :: _, [], _ => by unfold eqDs; rfl
  | x :: xs, y :: ys, h => by unfold eqDs; rw [eqDs_len (xs := xs) (ys := ys) (by simpa using h)]; simp
section
variable {X : Cx} {pins : List (Addr × Obj)} {σ : St} {H : Hp} {s : Shared}
theorem list_tuple_no (I : Inv X pins σ H s) {a : Addr} {xs ys : List V} (h : SqL X.K H a xs) (h' : SqT X.K H a ys) : False := by
  obtain ⟨its, _, pl, _⟩ := I.list h
  obtain ⟨its', _, pt, _⟩ := I.tuple h'
  exact SeqAt.ne_of_list_tuple pl.isList pt rfl
theorem eqz {a b : List D} (h : ∀ zs, eqDs a zs = eqDs b zs) : (∀ z, eqD (.tup a) z = eqD (.tup b) z) ∧ (∀ z, eqD (.lst a) z = eqD (.lst b) z) ∧ ∀ z, eqD (.scr a) z = eqD (.lst b) z := by
  refine ⟨fun z => ?_, fun z => ?_, fun z => ?_⟩ <;> cases z <;> unfold eqD <;> first | exact h _ | rfl
theorem eqz2 {b : List D} : ∀ z, eqD (.scr b) z = eqD (.lst b) z := (eqz fun _ => rfl).2.2
mutual
theorem Rep.eqv (I : Inv X pins σ H s) : ∀ {v : V} {x y : D}, Rep X.K H v x → Rep X.K H v y → ∀ z, eqD x z = eqD y z
  | _, _, _, .non, .non => fun _ => rfl
  | _, _, _, .bl, .bl => fun _ => rfl
  | _, _, _, .int, .int => fun _ => rfl
  | _, _, _, .str, .str => fun _ => rfl
  | _, _, _, .tup h r, .tup h' r' => by rw [I.tuple_inj h h'] at r; exact (eqz (Reps.eqv I r r')).1
  | _, _, _, .lst h r, .lst h' r' => by rw [I.list_inj (SqL.of h) (SqL.of h')] at r; exact (eqz (Reps.eqv I r r')).2.1
  | _, _, _, .lst h r, .scr h' r' => by rw [I.list_inj (SqL.of h) h'.seq] at r; exact fun z => ((eqz (Reps.eqv I r r')).2.1 z).trans (eqz2 z).symm
  | _, _, _, .scr h r, .lst h' r' => by rw [I.list_inj h.seq (SqL.of h')] at r; exact (eqz (Reps.eqv I r r')).2.2
  | _, _, _, .scr h r, .scr h' r' => by rw [I.list_inj h.seq h'.seq] at r; exact fun z => ((eqz (Reps.eqv I r r')).2.2 z).trans (eqz2 z).symm
  | _, _, _, .tup h r, .lst h' r' => (list_tuple_no I (SqL.of h') h).elim
  | _, _, _, .lst h r, .tup h' r' => (list_tuple_no I (SqL.of h) h').elim
  | _, _, _, .tup h r, .scr h' r' => (list_tuple_no I h'.seq h).elim
  | _, _, _, .scr h r, .tup h' r' => (list_tuple_no I h.seq h').elim
theorem Reps.eqv (I : Inv X pins σ H s) : ∀ {v : List V} {x y : List D}, Reps X.K H v x → Reps X.K H v y → ∀ z, eqDs x z = eqDs y z
  | _, _, _, .nil, .nil => fun _ => rfl
  | _, _, _, .cons r t, .cons r' t' => fun z => by
    cases z with
    | nil => unfold eqDs; rfl
    | cons w ws => unfold eqDs; rw [Rep.eqv I r r' w, Reps.eqv I t t' ws]
end
theorem repList (I : Inv X pins σ H s) {a : Addr} {xs : List V} {ds : List D} (h : SqL X.K H a xs) (r : Reps X.K H xs ds) : ∃ its : List Value, s.heap.IsList a its.toArray ∧ its.length = ds.length ∧ ∀ (j : Nat) (hj : j < its.length), ∃ (v : V) (d : D), ds[j]? = some d ∧ RelV v its[j] ∧ Rep X.K H v d := by
  obtain ⟨its, rv, pl, _⟩ := I.list h
  have h1 := rv.length
  have h2 := r.length
  refine ⟨its, pl.isList, by omega, fun j hj => ?_⟩
  have e : xs[j]? = some xs[j] := List.getElem?_eq_getElem (by omega)
  obtain ⟨u, e1, r1⟩ := rv.get e
  obtain ⟨d, e2, r2⟩ := r.get' e
  have : its[j] = u := by rw [List.getElem?_eq_getElem hj] at e1; exact Option.some.inj e1
  rw [this]
  exact ⟨xs[j], d, e2, r1, r2⟩
theorem repTup (I : Inv X pins σ H s) {a : Addr} {xs : List V} {ds : List D} (h : SqT X.K H a xs) (r : Reps X.K H xs ds) : ∃ its : List Value, s.heap.IsTuple a its.toArray ∧ its.length = ds.length ∧ ∀ (j : Nat) (hj : j < its.length), ∃ (v : V) (d : D), ds[j]? = some d ∧ RelV v its[j] ∧ Rep X.K H v d := by
  obtain ⟨its, rv, pl, _⟩ := I.tuple h
  have h1 := rv.length
  have h2 := r.length
  refine ⟨its, pl, by omega, fun j hj => ?_⟩
  have e : xs[j]? = some xs[j] := List.getElem?_eq_getElem (by omega)
  obtain ⟨u, e1, r1⟩ := rv.get e
  obtain ⟨d, e2, r2⟩ := r.get' e
  have : its[j] = u := by rw [List.getElem?_eq_getElem hj] at e1; exact Option.some.inj e1
  rw [this]
  exact ⟨xs[j], d, e2, r1, r2⟩
end
section
variable {X : Cx} {pins : List (Addr × Obj)} {σ : St} {H : Hp} {s : Shared}
theorem in1_units (A : Around) : A.in1.units = A.units + 1 := rfl
theorem els_D {A : Around} {n : Nat} (IH : ∀ {x y : D} {v u : V} {a b : Value} {A : Around}, dep x < n → A.units + dep x < cLine → RelV v a → RelV u b → Rep X.K H v x → Rep X.K H u y → SeqAt.EqAt A s a b (eqD x y)) {xs ys : List D} {its its2 : List Value} (hd : deps xs < n) (hu : A.units + deps xs < cLine)
    (g1 : ∀ (j : Nat) (hj : j < its.length), ∃ (v : V) (d : D), xs[j]? = some d ∧ RelV v its[j] ∧ Rep X.K H v d) (g2 : ∀ (j : Nat) (hj : j < its2.length), ∃ (v : V) (d : D), ys[j]? = some d ∧ RelV v its2[j] ∧ Rep X.K H v d) :
    ∀ j (h1 : j < its.toArray.size) (h2 : j < its2.toArray.size), SeqAt.EqAt A s its.toArray[j] its2.toArray[j] (eqAtI xs ys j) := fun j h1 h2 => by
  obtain ⟨v, d, e1, r1, p1⟩ := g1 j (by simpa using h1)
  obtain ⟨u, d', e2, r2, p2⟩ := g2 j (by simpa using h2)
  have ez : eqAtI xs ys j = eqD d d' := by unfold eqAtI; rw [e1, e2]
  rw [ez]
  have hdd := deps_get e1
  exact IH (by omega) (by omega) (by simpa using r1) (by simpa using r2) p1 p2
theorem lists_D (I : Inv X pins σ H s) {A : Around} {n : Nat} (IH : ∀ {x y : D} {v u : V} {a b : Value} {A : Around}, dep x < n → A.units + dep x < cLine → RelV v a → RelV u b → Rep X.K H v x → Rep X.K H u y → SeqAt.EqAt A s a b (eqD x y)) {xs ys : List D} {zs ws : List V} {a b : Addr} (hd : deps xs < n) (hu : A.units + (deps xs + 1) < cLine)
    (h1 : SqL X.K H a zs) (r1 : Reps X.K H zs xs) (h2 : SqL X.K H b ws) (r2 : Reps X.K H ws ys) : SeqAt.RcAt A s (.ref a) (.ref b) (eqDs xs ys) ∧ SeqAt.RcNeAt A s (.ref a) (.ref b) (!eqDs xs ys) := by
  obtain ⟨its, l1, n1, g1⟩ := repList I h1 r1
  obtain ⟨its2, l2, n2, g2⟩ := repList I h2 r2
  by_cases e : xs.length = ys.length
  · have hsz : its.toArray.size = its2.toArray.size := by simp; omega
    have he := els_D (A := A.in1) IH hd (by rw [in1_units]; omega) g1 g2
    have ea : (List.range its.toArray.size).all (eqAtI xs ys) = eqDs xs ys := by rw [List.size_toArray, n1]; exact range_all e
    rw [← ea]
    exact ⟨SeqAt.RcAt.lists l1 l2 hsz (by omega) he, SeqAt.RcNeAt.lists l1 l2 hsz (by omega) he⟩
  · rw [eqDs_len e]
    have hsz : (its.toArray.size != its2.toArray.size) = true := by simp; omega
    exact ⟨SeqAt.RcAt.lists_lengths l1 l2 hsz (by omega), SeqAt.RcNeAt.lists_lengths l1 l2 hsz (by omega)⟩
theorem tups_D (I : Inv X pins σ H s) {A : Around} {n : Nat} (IH : ∀ {x y : D} {v u : V} {a b : Value} {A : Around}, dep x < n → A.units + dep x < cLine → RelV v a → RelV u b → Rep X.K H v x → Rep X.K H u y → SeqAt.EqAt A s a b (eqD x y)) {xs ys : List D} {zs ws : List V} {a b : Addr} (hd : deps xs < n) (hu : A.units + (deps xs + 1) < cLine)
    (h1 : SqT X.K H a zs) (r1 : Reps X.K H zs xs) (h2 : SqT X.K H b ws) (r2 : Reps X.K H ws ys) : SeqAt.RcAt A s (.ref a) (.ref b) (eqDs xs ys) ∧ SeqAt.RcNeAt A s (.ref a) (.ref b) (!eqDs xs ys) := by
  obtain ⟨its, l1, n1, g1⟩ := repTup I h1 r1
  obtain ⟨its2, l2, n2, g2⟩ := repTup I h2 r2
  have he := els_D (A := A.in1) IH hd (by rw [in1_units]; omega) g1 g2
  have ea : ((List.range (min its.toArray.size its2.toArray.size)).all (eqAtI xs ys) && its.toArray.size == its2.toArray.size) = eqDs xs ys := by
    rw [List.size_toArray, List.size_toArray, n1, n2]
    by_cases e : xs.length = ys.length
    · rw [← e, Nat.min_self, range_all e]; simp
    · rw [eqDs_len e]; simp [e]
  rw [← ea]
  exact ⟨SeqAt.RcAt.tuples l1 l2 (by omega) he, SeqAt.RcNeAt.tuples l1 l2 (by omega) he⟩
theorem eqAt_same (I : Inv X pins σ H s) {A : Around} {a b : Addr} {x y : D} (r1 : Rep X.K H (.ref a) x) (r2 : Rep X.K H (.ref b) y) (e : a = b) : SeqAt.EqAt A s (.ref a) (.ref b) (eqD x y) := by
  subst e
  rw [Rep.eqv I r1 r2, eqD_refl]
  exact SeqAt.EqAt.same _
theorem eqAt_n (I : Inv X pins σ H s) {n : Nat} (IH : ∀ {x y : D} {v u : V} {a b : Value} {A : Around}, dep x < n → A.units + dep x < cLine → RelV v a → RelV u b → Rep X.K H v x → Rep X.K H u y → SeqAt.EqAt A s a b (eqD x y)) {x y : D} {v u : V} {a b : Value} {A : Around} (hd : dep x < n + 1) (hu : A.units + dep x < cLine) (hc : A.units < cLine)
    (ra : RelV v a) (rb : RelV u b) (px : Rep X.K H v x) (py : Rep X.K H u y) : SeqAt.EqAt A s a b (eqD x y) := by
  unfold eqD
  cases px with
  | non =>
    cases ra
    cases py with
    | non =>
      cases rb
      exact SeqAt.EqAt.same _
    | bl =>
      cases rb
      exact SeqAt.EqAt.none_bool _
    | int =>
      obtain ⟨t2, rfl⟩ := rb
      exact SeqAt.EqAt.none_int _ _
    | str =>
      obtain ⟨t2, rfl⟩ := rb
      exact SeqAt.EqAt.none_str _ _
    | @tup a2 _ _ h2 r2 =>
      cases rb
      obtain ⟨its2, l2, _⟩ := repTup I h2 r2
      exact SeqAt.EqAt.none_tuple l2 (by omega)
    | @lst a2 _ _ h2 r2 =>
      cases rb
      obtain ⟨its2, l2, _⟩ := repList I (SqL.of h2) r2
      exact SeqAt.EqAt.none_list l2 (by omega)
    | @scr a2 _ _ h2 r2 =>
      cases rb
      obtain ⟨its2, l2, _⟩ := repList I h2.seq r2
      exact SeqAt.EqAt.none_list l2 (by omega)
  | bl =>
    cases ra
    cases py with
    | non =>
      cases rb
      exact SeqAt.EqAt.bool_none _
    | bl =>
      cases rb
      exact SeqAt.EqAt.bool_bool _ _
    | int =>
      obtain ⟨t2, rfl⟩ := rb
      exact SeqAt.EqAt.bool_int _ _ _
    | str =>
      obtain ⟨t2, rfl⟩ := rb
      exact SeqAt.EqAt.bool_str _ _ _
    | @tup a2 _ _ h2 r2 =>
      cases rb
      obtain ⟨its2, l2, _⟩ := repTup I h2 r2
      exact SeqAt.EqAt.bool_tuple _ l2 (by omega)
    | @lst a2 _ _ h2 r2 =>
      cases rb
      obtain ⟨its2, l2, _⟩ := repList I (SqL.of h2) r2
      exact SeqAt.EqAt.bool_list _ l2 (by omega)
    | @scr a2 _ _ h2 r2 =>
      cases rb
      obtain ⟨its2, l2, _⟩ := repList I h2.seq r2
      exact SeqAt.EqAt.bool_list _ l2 (by omega)
  | int =>
    obtain ⟨t1, rfl⟩ := ra
    cases py with
    | non =>
      cases rb
      exact SeqAt.EqAt.int_none _ _
    | bl =>
      cases rb
      exact SeqAt.EqAt.int_bool _ _ _
    | int =>
      obtain ⟨t2, rfl⟩ := rb
      exact SeqAt.EqAt.int_int _ _ _ _
    | str =>
      obtain ⟨t2, rfl⟩ := rb
      exact SeqAt.EqAt.int_str _ _ _ _
    | @tup a2 _ _ h2 r2 =>
      cases rb
      obtain ⟨its2, l2, _⟩ := repTup I h2 r2
      exact SeqAt.EqAt.int_tuple _ _ l2 (by omega)
    | @lst a2 _ _ h2 r2 =>
      cases rb
      obtain ⟨its2, l2, _⟩ := repList I (SqL.of h2) r2
      exact SeqAt.EqAt.int_list _ _ l2 (by omega)
    | @scr a2 _ _ h2 r2 =>
      cases rb
      obtain ⟨its2, l2, _⟩ := repList I h2.seq r2
      exact SeqAt.EqAt.int_list _ _ l2 (by omega)
  | str =>
    obtain ⟨t1, rfl⟩ := ra
    cases py with
    | non =>
      cases rb
      exact SeqAt.EqAt.str_none _ _
    | bl =>
      cases rb
      exact SeqAt.EqAt.str_bool _ _ _
    | int =>
      obtain ⟨t2, rfl⟩ := rb
      exact SeqAt.EqAt.str_int _ _ _ _
    | str =>
      obtain ⟨t2, rfl⟩ := rb
      exact SeqAt.EqAt.str_str _ _ _ _
    | @tup a2 _ _ h2 r2 =>
      cases rb
      obtain ⟨its2, l2, _⟩ := repTup I h2 r2
      exact SeqAt.EqAt.str_tuple _ _ l2 (by omega)
    | @lst a2 _ _ h2 r2 =>
      cases rb
      obtain ⟨its2, l2, _⟩ := repList I (SqL.of h2) r2
      exact SeqAt.EqAt.str_list _ _ l2 (by omega)
    | @scr a2 _ _ h2 r2 =>
      cases rb
      obtain ⟨its2, l2, _⟩ := repList I h2.seq r2
      exact SeqAt.EqAt.str_list _ _ l2 (by omega)
  | @tup a1 _ _ h1 r1 =>
    cases ra
    obtain ⟨its, l1, _⟩ := repTup I h1 r1
    cases py with
    | non =>
      cases rb
      exact SeqAt.EqAt.tuple_none l1 (by omega)
    | bl =>
      cases rb
      exact SeqAt.EqAt.tuple_bool _ l1 (by omega)
    | int =>
      obtain ⟨t2, rfl⟩ := rb
      exact SeqAt.EqAt.tuple_int _ _ l1 (by omega)
    | str =>
      obtain ⟨t2, rfl⟩ := rb
      exact SeqAt.EqAt.tuple_str _ _ l1 (by omega)
    | @tup a2 _ _ h2 r2 =>
      cases rb
      obtain ⟨its2, l2, _⟩ := repTup I h2 r2
      by_cases e : a1 = a2
      · exact (eqAt_same I (.tup h1 r1) (.tup h2 r2) e)
      · exact SeqAt.EqAt.of_refs e (tups_D I IH (by unfold dep at hd; omega) (by unfold dep at hu; omega) h1 r1 h2 r2).1
    | @lst a2 _ _ h2 r2 =>
      cases rb
      obtain ⟨its2, l2, _⟩ := repList I (SqL.of h2) r2
      exact SeqAt.EqAt.tuple_list l1 l2 (by omega)
    | @scr a2 _ _ h2 r2 =>
      cases rb
      obtain ⟨its2, l2, _⟩ := repList I h2.seq r2
      exact SeqAt.EqAt.tuple_list l1 l2 (by omega)
  | @scr a1 _ _ h1 r1 => exact absurd hu (by unfold dep; omega)
  | @lst a1 _ _ h1 r1 =>
    cases ra
    obtain ⟨its, l1, _⟩ := repList I (SqL.of h1) r1
    cases py with
    | non =>
      cases rb
      exact SeqAt.EqAt.list_none l1 (by omega)
    | bl =>
      cases rb
      exact SeqAt.EqAt.list_bool _ l1 (by omega)
    | int =>
      obtain ⟨t2, rfl⟩ := rb
      exact SeqAt.EqAt.list_int _ _ l1 (by omega)
    | str =>
      obtain ⟨t2, rfl⟩ := rb
      exact SeqAt.EqAt.list_str _ _ l1 (by omega)
    | @tup a2 _ _ h2 r2 =>
      cases rb
      obtain ⟨its2, l2, _⟩ := repTup I h2 r2
      exact SeqAt.EqAt.list_tuple l1 l2 (by omega)
    | @lst a2 _ _ h2 r2 =>
      cases rb
      obtain ⟨its2, l2, _⟩ := repList I (SqL.of h2) r2
      by_cases e : a1 = a2
      · exact (eqAt_same I (.lst h1 r1) (.lst h2 r2) e)
      · exact SeqAt.EqAt.of_refs e (lists_D I IH (by unfold dep at hd; omega) (by unfold dep at hu; omega) (SqL.of h1) r1 (SqL.of h2) r2).1
    | @scr a2 _ _ h2 r2 =>
      cases rb
      obtain ⟨its2, l2, _⟩ := repList I h2.seq r2
      by_cases e : a1 = a2
      · exact (eqAt_same I (.lst h1 r1) (.scr h2 r2) e)
      · exact SeqAt.EqAt.of_refs e (lists_D I IH (by unfold dep at hd; omega) (by unfold dep at hu; omega) (SqL.of h1) r1 h2.seq r2).1
theorem eqAt_D (I : Inv X pins σ H s) : ∀ (n : Nat) {x y : D} {v u : V} {a b : Value} {A : Around}, dep x < n → A.units + dep x < cLine → RelV v a → RelV u b → Rep X.K H v x → Rep X.K H u y → SeqAt.EqAt A s a b (eqD x y)
  | 0, x, y, v, u, a, b, A, hd, hu, ra, rb, px, py => absurd hd (Nat.not_lt_zero _)
  | n + 1, x, y, v, u, a, b, A, hd, hu, ra, rb, px, py => eqAt_n I (fun h1 h2 h3 h4 h5 h6 => eqAt_D I n h1 h2 h3 h4 h5 h6) hd hu (by omega) ra rb px py
theorem rcAt_D (I : Inv X pins σ H s) {x y : D} {v u : V} {a b : Value} {A : Around} (hu : A.units + dep x < cLine) (hc : A.units < cLine) (ra : RelV v a) (rb : RelV u b) (px : Rep X.K H v x) (py : Rep X.K H u y) : SeqAt.RcAt A s a b (eqD x y) := by
  have IH := fun {x y : D} {v u : V} {a b : Value} {A : Around} (n : Nat) => @eqAt_D X pins σ H s I n x y v u a b A
  have IH : ∀ {n : Nat} {x y : D} {v u : V} {a b : Value} {A : Around}, dep x < n → A.units + dep x < cLine → RelV v a → RelV u b → Rep X.K H v x → Rep X.K H u y → SeqAt.EqAt A s a b (eqD x y) := fun {n x y v u a b A} => eqAt_D I n
  unfold eqD
  cases px with
  | non =>
    cases ra
    cases py with
    | non =>
      cases rb
      exact SeqAt.RcAt.none_none
    | bl =>
      cases rb
      exact SeqAt.RcAt.none_bool _
    | int =>
      obtain ⟨t2, rfl⟩ := rb
      exact SeqAt.RcAt.none_int _ _
    | str =>
      obtain ⟨t2, rfl⟩ := rb
      exact SeqAt.RcAt.none_str _ _
    | @tup a2 _ _ h2 r2 =>
      cases rb
      obtain ⟨its2, l2, _⟩ := repTup I h2 r2
      exact SeqAt.RcAt.none_tuple  l2 (by omega)
    | @lst a2 _ _ h2 r2 =>
      cases rb
      obtain ⟨its2, l2, _⟩ := repList I (SqL.of h2) r2
      exact SeqAt.RcAt.none_list  l2 (by omega)
    | @scr a2 _ _ h2 r2 =>
      cases rb
      obtain ⟨its2, l2, _⟩ := repList I h2.seq r2
      exact SeqAt.RcAt.none_list  l2 (by omega)
  | bl =>
    cases ra
    cases py with
    | non =>
      cases rb
      exact SeqAt.RcAt.bool_none _
    | bl =>
      cases rb
      exact SeqAt.RcAt.bool_bool _ _
    | int =>
      obtain ⟨t2, rfl⟩ := rb
      exact SeqAt.RcAt.bool_int _ _ _
    | str =>
      obtain ⟨t2, rfl⟩ := rb
      exact SeqAt.RcAt.bool_str _ _ _
    | @tup a2 _ _ h2 r2 =>
      cases rb
      obtain ⟨its2, l2, _⟩ := repTup I h2 r2
      exact SeqAt.RcAt.bool_tuple _ l2 (by omega)
    | @lst a2 _ _ h2 r2 =>
      cases rb
      obtain ⟨its2, l2, _⟩ := repList I (SqL.of h2) r2
      exact SeqAt.RcAt.bool_list _ l2 (by omega)
    | @scr a2 _ _ h2 r2 =>
      cases rb
      obtain ⟨its2, l2, _⟩ := repList I h2.seq r2
      exact SeqAt.RcAt.bool_list _ l2 (by omega)
  | int =>
    obtain ⟨t1, rfl⟩ := ra
    cases py with
    | non =>
      cases rb
      exact SeqAt.RcAt.int_none _ _
    | bl =>
      cases rb
      exact SeqAt.RcAt.int_bool _ _ _
    | int =>
      obtain ⟨t2, rfl⟩ := rb
      exact SeqAt.RcAt.int_int _ _ _ _
    | str =>
      obtain ⟨t2, rfl⟩ := rb
      exact SeqAt.RcAt.int_str _ _ _ _
    | @tup a2 _ _ h2 r2 =>
      cases rb
      obtain ⟨its2, l2, _⟩ := repTup I h2 r2
      exact SeqAt.RcAt.int_tuple _ _ l2 (by omega)
    | @lst a2 _ _ h2 r2 =>
      cases rb
      obtain ⟨its2, l2, _⟩ := repList I (SqL.of h2) r2
      exact SeqAt.RcAt.int_list _ _ l2 (by omega)
    | @scr a2 _ _ h2 r2 =>
      cases rb
      obtain ⟨its2, l2, _⟩ := repList I h2.seq r2
      exact SeqAt.RcAt.int_list _ _ l2 (by omega)
  | str =>
    obtain ⟨t1, rfl⟩ := ra
    cases py with
    | non =>
      cases rb
      exact SeqAt.RcAt.str_none _ _
    | bl =>
      cases rb
      exact SeqAt.RcAt.str_bool _ _ _
    | int =>
      obtain ⟨t2, rfl⟩ := rb
      exact SeqAt.RcAt.str_int _ _ _ _
    | str =>
      obtain ⟨t2, rfl⟩ := rb
      exact SeqAt.RcAt.str_str _ _ _ _
    | @tup a2 _ _ h2 r2 =>
      cases rb
      obtain ⟨its2, l2, _⟩ := repTup I h2 r2
      exact SeqAt.RcAt.str_tuple _ _ l2 (by omega)
    | @lst a2 _ _ h2 r2 =>
      cases rb
      obtain ⟨its2, l2, _⟩ := repList I (SqL.of h2) r2
      exact SeqAt.RcAt.str_list _ _ l2 (by omega)
    | @scr a2 _ _ h2 r2 =>
      cases rb
      obtain ⟨its2, l2, _⟩ := repList I h2.seq r2
      exact SeqAt.RcAt.str_list _ _ l2 (by omega)
  | @tup a1 _ _ h1 r1 =>
    cases ra
    obtain ⟨its, l1, _⟩ := repTup I h1 r1
    cases py with
    | non =>
      cases rb
      exact SeqAt.RcAt.tuple_none  l1 (by omega)
    | bl =>
      cases rb
      exact SeqAt.RcAt.tuple_bool _ l1 (by omega)
    | int =>
      obtain ⟨t2, rfl⟩ := rb
      exact SeqAt.RcAt.tuple_int _ _ l1 (by omega)
    | str =>
      obtain ⟨t2, rfl⟩ := rb
      exact SeqAt.RcAt.tuple_str _ _ l1 (by omega)
    | @tup a2 _ _ h2 r2 =>
      cases rb
      obtain ⟨its2, l2, _⟩ := repTup I h2 r2
      exact (tups_D I IH (Nat.lt_succ_self _) (by unfold dep at hu; omega) h1 r1 h2 r2).1
    | @lst a2 _ _ h2 r2 =>
      cases rb
      obtain ⟨its2, l2, _⟩ := repList I (SqL.of h2) r2
      exact SeqAt.RcAt.tuple_list l1 l2 (by omega)
    | @scr a2 _ _ h2 r2 =>
      cases rb
      obtain ⟨its2, l2, _⟩ := repList I h2.seq r2
      exact SeqAt.RcAt.tuple_list l1 l2 (by omega)
  | @scr a1 _ _ h1 r1 => exact absurd hu (by unfold dep; omega)
  | @lst a1 _ _ h1 r1 =>
    cases ra
    obtain ⟨its, l1, _⟩ := repList I (SqL.of h1) r1
    cases py with
    | non =>
      cases rb
      exact SeqAt.RcAt.list_none  l1 (by omega)
    | bl =>
      cases rb
      exact SeqAt.RcAt.list_bool _ l1 (by omega)
    | int =>
      obtain ⟨t2, rfl⟩ := rb
      exact SeqAt.RcAt.list_int _ _ l1 (by omega)
    | str =>
      obtain ⟨t2, rfl⟩ := rb
      exact SeqAt.RcAt.list_str _ _ l1 (by omega)
    | @tup a2 _ _ h2 r2 =>
      cases rb
      obtain ⟨its2, l2, _⟩ := repTup I h2 r2
      exact SeqAt.RcAt.list_tuple l1 l2 (by omega)
    | @lst a2 _ _ h2 r2 =>
      cases rb
      obtain ⟨its2, l2, _⟩ := repList I (SqL.of h2) r2
      exact (lists_D I IH (Nat.lt_succ_self _) (by unfold dep at hu; omega) (SqL.of h1) r1 (SqL.of h2) r2).1
    | @scr a2 _ _ h2 r2 =>
      cases rb
      obtain ⟨its2, l2, _⟩ := repList I h2.seq r2
      exact (lists_D I IH (Nat.lt_succ_self _) (by unfold dep at hu; omega) (SqL.of h1) r1 h2.seq r2).1
theorem rcNeAt_D (I : Inv X pins σ H s) {x y : D} {v u : V} {a b : Value} {A : Around} (hu : A.units + dep x < cLine) (hc : A.units < cLine) (ra : RelV v a) (rb : RelV u b) (px : Rep X.K H v x) (py : Rep X.K H u y) : SeqAt.RcNeAt A s a b (!eqD x y) := by
  have IH : ∀ {n : Nat} {x y : D} {v u : V} {a b : Value} {A : Around}, dep x < n → A.units + dep x < cLine → RelV v a → RelV u b → Rep X.K H v x → Rep X.K H u y → SeqAt.EqAt A s a b (eqD x y) := fun {n x y v u a b A} => eqAt_D I n
  unfold eqD
  cases px with
  | non =>
    cases ra
    cases py with
    | non =>
      cases rb
      exact SeqAt.RcNeAt.none_none
    | bl =>
      cases rb
      exact SeqAt.RcNeAt.none_bool _
    | int =>
      obtain ⟨t2, rfl⟩ := rb
      exact SeqAt.RcNeAt.none_int _ _
    | str =>
      obtain ⟨t2, rfl⟩ := rb
      exact SeqAt.RcNeAt.none_str _ _
    | @tup a2 _ _ h2 r2 =>
      cases rb
      obtain ⟨its2, l2, _⟩ := repTup I h2 r2
      exact SeqAt.RcNeAt.none_tuple  l2 (by omega)
    | @lst a2 _ _ h2 r2 =>
      cases rb
      obtain ⟨its2, l2, _⟩ := repList I (SqL.of h2) r2
      exact SeqAt.RcNeAt.none_list  l2 (by omega)
    | @scr a2 _ _ h2 r2 =>
      cases rb
      obtain ⟨its2, l2, _⟩ := repList I h2.seq r2
      exact SeqAt.RcNeAt.none_list  l2 (by omega)
  | bl =>
    cases ra
    cases py with
    | non =>
      cases rb
      exact SeqAt.RcNeAt.bool_none _
    | bl =>
      cases rb
      exact SeqAt.RcNeAt.bool_bool _ _
    | int =>
      obtain ⟨t2, rfl⟩ := rb
      exact SeqAt.RcNeAt.bool_int _ _ _
    | str =>
      obtain ⟨t2, rfl⟩ := rb
      exact SeqAt.RcNeAt.bool_str _ _ _
    | @tup a2 _ _ h2 r2 =>
      cases rb
      obtain ⟨its2, l2, _⟩ := repTup I h2 r2
      exact SeqAt.RcNeAt.bool_tuple _ l2 (by omega)
    | @lst a2 _ _ h2 r2 =>
      cases rb
      obtain ⟨its2, l2, _⟩ := repList I (SqL.of h2) r2
      exact SeqAt.RcNeAt.bool_list _ l2 (by omega)
    | @scr a2 _ _ h2 r2 =>
      cases rb
      obtain ⟨its2, l2, _⟩ := repList I h2.seq r2
      exact SeqAt.RcNeAt.bool_list _ l2 (by omega)
  | int =>
    obtain ⟨t1, rfl⟩ := ra
    cases py with
    | non =>
      cases rb
      exact SeqAt.RcNeAt.int_none _ _
    | bl =>
      cases rb
      exact SeqAt.RcNeAt.int_bool _ _ _
    | int =>
      obtain ⟨t2, rfl⟩ := rb
      exact SeqAt.RcNeAt.int_int _ _ _ _
    | str =>
      obtain ⟨t2, rfl⟩ := rb
      exact SeqAt.RcNeAt.int_str _ _ _ _
    | @tup a2 _ _ h2 r2 =>
      cases rb
      obtain ⟨its2, l2, _⟩ := repTup I h2 r2
      exact SeqAt.RcNeAt.int_tuple _ _ l2 (by omega)
    | @lst a2 _ _ h2 r2 =>
      cases rb
      obtain ⟨its2, l2, _⟩ := repList I (SqL.of h2) r2
      exact SeqAt.RcNeAt.int_list _ _ l2 (by omega)
    | @scr a2 _ _ h2 r2 =>
      cases rb
      obtain ⟨its2, l2, _⟩ := repList I h2.seq r2
      exact SeqAt.RcNeAt.int_list _ _ l2 (by omega)
  | str =>
    obtain ⟨t1, rfl⟩ := ra
    cases py with
    | non =>
      cases rb
      exact SeqAt.RcNeAt.str_none _ _
    | bl =>
      cases rb
      exact SeqAt.RcNeAt.str_bool _ _ _
    | int =>
      obtain ⟨t2, rfl⟩ := rb
      exact SeqAt.RcNeAt.str_int _ _ _ _
    | str =>
      obtain ⟨t2, rfl⟩ := rb
      exact SeqAt.RcNeAt.str_str _ _ _ _
    | @tup a2 _ _ h2 r2 =>
      cases rb
      obtain ⟨its2, l2, _⟩ := repTup I h2 r2
      exact SeqAt.RcNeAt.str_tuple _ _ l2 (by omega)
    | @lst a2 _ _ h2 r2 =>
      cases rb
      obtain ⟨its2, l2, _⟩ := repList I (SqL.of h2) r2
      exact SeqAt.RcNeAt.str_list _ _ l2 (by omega)
    | @scr a2 _ _ h2 r2 =>
      cases rb
      obtain ⟨its2, l2, _⟩ := repList I h2.seq r2
      exact SeqAt.RcNeAt.str_list _ _ l2 (by omega)
  | @tup a1 _ _ h1 r1 =>
    cases ra
    obtain ⟨its, l1, _⟩ := repTup I h1 r1
    cases py with
    | non =>
      cases rb
      exact SeqAt.RcNeAt.tuple_none  l1 (by omega)
    | bl =>
      cases rb
      exact SeqAt.RcNeAt.tuple_bool _ l1 (by omega)
    | int =>
      obtain ⟨t2, rfl⟩ := rb
      exact SeqAt.RcNeAt.tuple_int _ _ l1 (by omega)
    | str =>
      obtain ⟨t2, rfl⟩ := rb
      exact SeqAt.RcNeAt.tuple_str _ _ l1 (by omega)
    | @tup a2 _ _ h2 r2 =>
      cases rb
      obtain ⟨its2, l2, _⟩ := repTup I h2 r2
      exact (tups_D I IH (Nat.lt_succ_self _) (by unfold dep at hu; omega) h1 r1 h2 r2).2
    | @lst a2 _ _ h2 r2 =>
      cases rb
      obtain ⟨its2, l2, _⟩ := repList I (SqL.of h2) r2
      exact SeqAt.RcNeAt.tuple_list l1 l2 (by omega)
    | @scr a2 _ _ h2 r2 =>
      cases rb
      obtain ⟨its2, l2, _⟩ := repList I h2.seq r2
      exact SeqAt.RcNeAt.tuple_list l1 l2 (by omega)
  | @scr a1 _ _ h1 r1 => exact absurd hu (by unfold dep; omega)
  | @lst a1 _ _ h1 r1 =>
    cases ra
    obtain ⟨its, l1, _⟩ := repList I (SqL.of h1) r1
    cases py with
    | non =>
      cases rb
      exact SeqAt.RcNeAt.list_none  l1 (by omega)
    | bl =>
      cases rb
      exact SeqAt.RcNeAt.list_bool _ l1 (by omega)
    | int =>
      obtain ⟨t2, rfl⟩ := rb
      exact SeqAt.RcNeAt.list_int _ _ l1 (by omega)
    | str =>
      obtain ⟨t2, rfl⟩ := rb
      exact SeqAt.RcNeAt.list_str _ _ l1 (by omega)
    | @tup a2 _ _ h2 r2 =>
      cases rb
      obtain ⟨its2, l2, _⟩ := repTup I h2 r2
      exact SeqAt.RcNeAt.list_tuple l1 l2 (by omega)
    | @lst a2 _ _ h2 r2 =>
      cases rb
      obtain ⟨its2, l2, _⟩ := repList I (SqL.of h2) r2
      exact (lists_D I IH (Nat.lt_succ_self _) (by unfold dep at hu; omega) (SqL.of h1) r1 (SqL.of h2) r2).2
    | @scr a2 _ _ h2 r2 =>
      cases rb
      obtain ⟨its2, l2, _⟩ := repList I h2.seq r2
      exact (lists_D I IH (Nat.lt_succ_self _) (by unfold dep at hu; omega) (SqL.of h1) r1 h2.seq r2).2
end
theorem Rep1.full {K : PySem.W.Frag} {H : Hp} {hid : Hid} {v : V} {d : D} (h : Rep1 K H (vw H hid) v d) : Rep K H v d := by
  rcases h with h | ⟨a, xs, ds, rfl, rfl, h1, h2⟩
  · exact h.mono (vw_le _ _)
  · exact .lst h1 (h2.mono (vw_le _ _))
def rEqD (K : PySem.W.Frag) : R2 := fun v u H Q => ∃ x y, Rep K H v x ∧ Rep K H u y ∧ dep x ≤ 32 ∧ Q (.bl (eqD x y)) H
def rNeD (K : PySem.W.Frag) : R2 := fun v u H Q => ∃ x y, Rep K H v x ∧ Rep K H u y ∧ dep x ≤ 32 ∧ Q (.bl (!eqD x y)) H
theorem op_eqD {X : Cx} (hu : X.A.units + 64 < cLine) : OpR X (compareOp .Eq) (rEqD X.K) := by
  intro pins s σ H x y v u Q I rx ry h
  obtain ⟨dx, dy, p1, p2, hd, q⟩ := h
  exact rcAt_D I (by omega) (by omega) rx ry p1 p2 X.prog X.w _ _ ⟨.bl _, H, I, rfl, q⟩
theorem op_neD {X : Cx} (hu : X.A.units + 64 < cLine) : OpR X (compareOp .NotEq) (rNeD X.K) := by
  intro pins s σ H x y v u Q I rx ry h
  obtain ⟨dx, dy, p1, p2, hd, q⟩ := h
  exact rcNeAt_D I (by omega) (by omega) rx ry p1 p2 X.prog X.w _ _ ⟨.bl _, H, I, rfl, q⟩
def eqF : D → D → Option D := fun x y => if dep x ≤ 32 then some (.bl (eqD x y)) else none
def neF : D → D → Option D := fun x y => if dep x ≤ 32 then some (.bl (!eqD x y)) else none
theorem od_eq {K : PySem.W.Frag} : OpD K .s (rEqD K) eqF := by
  intro H hid v u x y d Q hf h r1 r2 q
  unfold eqF at h
  split at h
  · cases h; exact ⟨x, y, r1.full, r2.full, ‹_›, q _ H (Same.refl _) .bl⟩
  · cases h
theorem od_ne {K : PySem.W.Frag} : OpD K .s (rNeD K) neF := by
  intro H hid v u x y d Q hf h r1 r2 q
  unfold neF at h
  split at h
  · cases h; exact ⟨x, y, r1.full, r2.full, ‹_›, q _ H (Same.refl _) .bl⟩
  · cases h
theorem mem_any {X : Cx} {pins : List (Addr × Obj)} {σ : St} {H : Hp} {s : Shared} (I : Inv X pins σ H s) {x : D} {v : V} {a : Value} {A : Around} (hx : Rep X.K H v x) (ra : RelV v a) : ∀ {ds : List D} {xs : List V} {its : List Value}, Reps X.K H xs ds → Vals xs its → A.units + deps ds < cLine →
    ∃ e : Value → Bool, (∀ y, y ∈ its → SeqAt.EqAt A s y a (e y)) ∧ its.any e = ds.any (fun d => eqD d x) := by
  intro ds xs its r rv hu
  classical
  let e : Value → Bool := fun y => if h : ∃ (d : D) (u : V), RelV u y ∧ Rep X.K H u d then eqD h.choose x else false
  have key : ∀ y u d, RelV u y → Rep X.K H u d → e y = eqD d x := fun y u d h1 h2 => by
    have hex : ∃ (d : D) (u : V), RelV u y ∧ Rep X.K H u d := ⟨d, u, h1, h2⟩
    show (if h : ∃ (d : D) (u : V), RelV u y ∧ Rep X.K H u d then eqD h.choose x else false) = eqD d x
    rw [dif_pos hex]
    obtain ⟨u', s1, s2⟩ := hex.choose_spec
    have eu : u' = u := s1.inj h1
    rw [eu] at s2
    exact Rep.eqv I s2 h2 x
  refine ⟨e, ?_, ?_⟩
  · induction rv generalizing ds with
    | nil => intro y hy; cases hy
    | cons r1 t ih =>
      cases r with
      | cons p1 pt =>
        rename_i d ds
        intro y hy
        have hm : dep d ≤ deps (d :: ds) := deps_get (i := 0) rfl
        have hm2 : deps ds ≤ deps (d :: ds) := by conv => rhs; unfold deps
                                                  exact Nat.le_max_right _ _
        rcases List.mem_cons.mp hy with rfl | hy
        · rw [key _ _ _ r1 p1]
          exact eqAt_D I (dep d + 1) (Nat.lt_succ_self _) (by omega) r1 ra p1 hx
        · exact ih pt (by omega) y hy
  · induction rv generalizing ds with
    | nil => cases r; rfl
    | cons r1 t ih =>
      cases r with
      | cons p1 pt =>
        rename_i d ds
        have hm2 : deps ds ≤ deps (d :: ds) := by conv => rhs; unfold deps
                                                  exact Nat.le_max_right _ _
        rw [List.any_cons, List.any_cons, key _ _ _ r1 p1, ih pt (by omega)]
def rInD (K : PySem.W.Frag) (neg : Bool) : R2 := fun v u H Q => ∃ x ds a xs, Rep K H v x ∧ u = .ref a ∧ (SqL K H a xs ∨ SqT K H a xs) ∧ Reps K H xs ds ∧ deps ds ≤ 32 ∧ Q (.bl (if neg then !ds.any (fun d => eqD d x) else ds.any fun d => eqD d x)) H
theorem op_notInD {X : Cx} (hu : X.A.units + 64 < cLine) : OpR X (compareOp .NotIn) (rInD X.K true) := by
  intro pins s σ H v w a b Q I rx ry h
  obtain ⟨x, ds, p, xs, hx, rfl, hq, r, hd, q⟩ := h
  cases ry
  rcases hq with hq | hq
  · obtain ⟨its, rv, pl, hz⟩ := I.list hq
    obtain ⟨e, h1, h2⟩ := mem_any (A := X.A.in1) I hx rx r rv (by rw [in1_units]; omega)
    refine SeqAt.notIn_listAt e pl.isList (fun y hy => h1 y (by simpa using hy)) ⟨.bl _, H, I, rfl, ?_⟩
    rw [show its.toArray.any e = its.any e by simp, h2]
    exact q
  · obtain ⟨its, rv, pl, hz⟩ := I.tuple hq
    obtain ⟨e, h1, h2⟩ := mem_any (A := X.A.in1) I hx rx r rv (by rw [in1_units]; omega)
    refine SeqAt.notIn_tupleAt e pl (fun y hy => h1 y (by simpa using hy)) ⟨.bl _, H, I, rfl, ?_⟩
    rw [show its.toArray.any e = its.any e by simp, h2]
    exact q
def itemsD : D → Option (List D)
  | .lst ds => some ds
  | .tup ds => some ds
  | _ => none
def inF (neg : Bool) : D → D → Option D := fun x y => match itemsD y with
  | some ds => if deps ds ≤ 32 then some (.bl (if neg then !ds.any (fun d => eqD d x) else ds.any fun d => eqD d x)) else none
  | none => none
theorem od_in {K : PySem.W.Frag} (neg : Bool) : OpD K .s (rInD K neg) (inF neg) := by
  intro H hid v u x y d Q hf h r1 r2 q
  unfold inF at h
  split at h
  · split at h
    · rename_i ds e _
      cases h
      cases y with
      | lst zs =>
        cases e
        obtain ⟨a, xs, rfl, h1, h2⟩ := r2.lst
        exact ⟨x, _, a, xs, r1.full, rfl, .inl h1, h2.mono (vw_le _ _), ‹_›, q _ H (Same.refl _) .bl⟩
      | tup zs =>
        cases e
        obtain ⟨a, xs, rfl, _, h1, h2⟩ := r2.tup
        exact ⟨x, _, a, xs, r1.full, rfl, .inr h1, h2.mono (vw_le _ _), ‹_›, q _ H (Same.refl _) .bl⟩
      | _ => cases e
    · cases h
  · cases h
end L2
set_option Elab.async false
set_option linter.all false
set_option maxRecDepth 100000
namespace L2
open PySem PySem.Spec PyProof.Rows
def isT (T : String) : D → Bool
  | .non => T == "NoneType"
  | .bl _ => T == "bool" || T == "int"
  | .int _ => T == "int"
  | .str _ => T == "str"
  | .tup _ => T == "tuple"
  | .lst _ => T == "list"
  | .scr _ => T == "list"
structure KT (T : String) : Prop where
  n : ∀ K, PySem.W.kitOne K (.type "NoneType") (.type T) = some (T == "NoneType")
  b : ∀ K, PySem.W.kitOne K (.type "bool") (.type T) = some (T == "bool" || T == "int")
  i : ∀ K, PySem.W.kitOne K (.type "int") (.type T) = some (T == "int")
  s : ∀ K, PySem.W.kitOne K (.type "str") (.type T) = some (T == "str")
  t : ∀ K, PySem.W.kitOne K (.type "tuple") (.type T) = some (T == "tuple")
  l : ∀ K, PySem.W.kitOne K (.type "list") (.type T) = some (T == "list")
theorem kt_list : KT "list" := ⟨fun _ => by kernel_rfl, fun _ => by kernel_rfl, fun _ => by kernel_rfl, fun _ => by kernel_rfl, fun _ => by kernel_rfl, fun _ => by kernel_rfl⟩
theorem kt_tuple : KT "tuple" := ⟨fun _ => by kernel_rfl, fun _ => by kernel_rfl, fun _ => by kernel_rfl, fun _ => by kernel_rfl, fun _ => by kernel_rfl, fun _ => by kernel_rfl⟩
section
variable {X : Cx} {c : Ct} {e o : Expr} {k : Kd} {f g : FE} {pos p p2 : Pos}
theorem call_isi {T : String} (kt : KT T) : CallR X (.builtin "isinstance") (fun xs H Q => ∃ v d, xs = [v, .ty T] ∧ Rep X.K H v d ∧ Q (.bl (isT T d)) H) := by
  intro pins s σ H xs us Q I r h
  obtain ⟨v, d, rfl, rp, q⟩ := h
  obtain ⟨u, w', rfl, rx, ry⟩ := vals2 r
  cases ry
  have fin : ∀ tk, EP X pins σ Q (.bool (isT T d)) { s with toks := tk } := fun tk => ⟨.bl _, H, I.tok _, rfl, q⟩
  cases rp with
  | non => cases rx; exact PySem.W.kia_one PySem.W.kitx_none I.kIn True.intro (kt.n _) (fun z => nomatch z) fin
  | bl => cases rx; exact PySem.W.kia_one PySem.W.kitx_bool I.kIn True.intro (kt.b _) (fun z => nomatch z) fin
  | int => obtain ⟨t, rfl⟩ := rx; exact PySem.W.kia_one PySem.W.kitx_int I.kIn True.intro (kt.i _) (fun z => nomatch z) fin
  | str => obtain ⟨t, rfl⟩ := rx; exact PySem.W.kia_one PySem.W.kitx_str I.kIn True.intro (kt.s _) (fun z => nomatch z) fin
  | tup h1 h2 =>
    cases rx
    obtain ⟨⟨ob, ho, hc⟩, _⟩ := I.tupleN h1
    exact PySem.W.kia_one PySem.W.kitx_tuple I.kIn ⟨ob, ho, hc⟩ (kt.t _) (fun z => nomatch z) fin
  | lst h1 h2 =>
    cases rx
    obtain ⟨its, _, ⟨ob, n, ho, hc, _⟩, _⟩ := I.list (SqL.of h1)
    exact PySem.W.kia_one PySem.W.kitx_list I.kIn ⟨ob, ho, hc⟩ (kt.l _) (fun z => nomatch z) fin
  | scr h1 h2 =>
    cases rx
    obtain ⟨its, _, ⟨ob, n, ho, hc, _⟩, _⟩ := I.list h1.seq
    exact PySem.W.kia_one PySem.W.kitx_list I.kIn ⟨ob, ho, hc⟩ (kt.l _) (fun z => nomatch z) fin
def isiF (T : String) (f : FE) : FE := fun ρ => (f ρ).map fun d => .bl (isT T d)
theorem dp_isi (T : String) {y : Str} (kt : KT T) (he : DP X c k e f) (hm : X.mg "isinstance" = none) (hmT : X.mg y = none) (hg : Gl X "isinstance" := by rfl) (hgT : Gl X y := by rfl) (hv : bootBuiltins "isinstance" = some (.builtin "isinstance") := by kernel_rfl) (hvT : bootBuiltins y = some (.type T) := by kernel_rfl) (hn : y ≠ "__name__" := by decide) (hd : (y == ("__debug__" : Str)) = false := by decide)
    (hs1 : starEach [e, .Name y p2] X.env = (false, eval e X.env) :: starEach [.Name y p2] X.env := by rfl) (hs2 : starEach [.Name y p2] X.env = (false, eval (.Name y p2) X.env) :: starEach [] X.env := by rfl) (hpl : (backTo pos (starEach [.Name y p2] X.env)).any (·.1) = false := by rfl) :
    DP X c .s (.Call (.Name "isinstance" p) [e, .Name y p2] [] pos) (isiF T f) := fun hid ρ =>
  PE.imp (pe_callB (call_isi kt) hg hm hv (pa_cons (he hid ρ) (pa_cons (pe_bltn (v := .ty T) hgT hmT hvT rfl hn hd) pa_nil hs2) hs1) (by decide) (by decide) hs1 hpl) fun σ H Q hq_ => by
    obtain ⟨sr, d, hd, q⟩ := hq_
    unfold isiF at hd
    cases e1 : f ρ with
    | none => rw [e1] at hd; cases hd
    | some z =>
      rw [e1] at hd; cases hd
      exact ⟨sr, z, e1, fun v H' s' r => ⟨v, z, rfl, (RK.b k r fun a n => sr.fresh n).full, q _ H' s' .bl⟩⟩
def blsD : List D → Option (List Bool)
  | [] => some []
  | .bl b :: r => (blsD r).map (b :: ·)
  | _ => none
theorem blsD_get : ∀ {ds : List D} {bs : List Bool} {i : Nat} {d : D}, blsD ds = some bs → ds[i]? = some d → ∃ b, d = .bl b ∧ bs[i]? = some b
  | [], _, _, _, _, h => by simp at h
  | x :: r, bs, i, d, h, e => by
    cases x with
    | bl b =>
      unfold blsD at h
      cases e1 : blsD r with
      | none => rw [e1] at h; cases h
      | some rs =>
        rw [e1] at h; cases h
        cases i with
        | zero => simp at e; subst e; exact ⟨b, rfl, rfl⟩
        | succ i =>
          obtain ⟨b', h1, h2⟩ := blsD_get (i := i) e1 (by simpa using e)
          exact ⟨b', h1, by simpa using h2⟩
    | _ => cases h
theorem blsD_len : ∀ {ds : List D} {bs : List Bool}, blsD ds = some bs → ds.length = bs.length
  | [], _, h => by cases h; rfl
  | x :: r, bs, h => by
    cases x with
    | bl b =>
      unfold blsD at h
      cases e1 : blsD r with
      | none => rw [e1] at h; cases h
      | some rs => rw [e1] at h; cases h; simp [blsD_len e1]
    | _ => cases h
theorem range_alls (bs : List Bool) : (List.range bs.length).all (fun i => bs.getD i false) = bs.all id := by
  induction bs with
  | nil => rfl
  | cons b bs ih =>
    rw [List.length_cons, List.range_succ_eq_map, List.all_cons, List.all_map, List.all_cons]
    rw [show ((fun i => (b :: bs).getD i false) ∘ Nat.succ) = fun i => bs.getD i false by funext i; simp [List.getD], ih]
    rfl
theorem walk_bools {pins : List (Addr × Obj)} {σ : St} {H : Hp} {s : Shared} {a : Addr} {xs : List V} {ds : List D} {bs : List Bool} (I : Inv X pins σ H s) (h1 : SqL X.K H a xs) (h2 : Reps X.K H xs ds) (hb : blsD ds = some bs) (hc : X.calm = true) {E : Value → Shared → Prop} {R : Value → Shared → Prop}
    (hR : ∀ (J : Addr) (s2 : Shared) (its : Array Value) (hl : its.size = bs.length), Walks X.prog X.w X.A.in1 J [J, a] [J] its.size (fun i v => its[i]? = some v) (fun i h => h.IsListIter J a i ∧ h.IsList a its) → s2.heap.IsListIter J a 0 → s2.heap.IsList a its → TruthOf X.prog X.w X.A.in1 (fun i v => its[i]? = some v) (fun i => bs.getD i false) →
      (∀ h' tk, (∀ b o, b ∉ [J] → s2.heap.get? b = some o → h'.get? b = some o) → Inv X pins σ H { s2 with heap := h', toks := tk }) → R (.ref J) s2) : wpAny (model X.prog X.w) X.A.in1 (pyIter (.ref a)) R E s := by
  obtain ⟨its, rv, pl, hz⟩ := I.list h1
  have l1 := rv.length
  have l2 := h2.length
  have l3 := blsD_len hb
  have hlt : a < s.heap.objs.size := by obtain ⟨o, n, e, _⟩ := pl; exact Heap.lt_size e
  refine wpAny_pyIter_list pl.isList (hR s.heap.objs.size _ its.toArray (by simp; omega) (Walks.list (A := X.A.in1) (I.ok.hd hc) _ a (Nat.ne_of_lt hlt) its.toArray) ⟨_, Heap.get?_push_size _ rfl, rfl, rfl⟩ ?_ ?_ ?_)
  · obtain ⟨o, ho, q⟩ := pl.isList
    exact ⟨o, Heap.get?_push_of_some _ ho, q⟩
  · intro i v s' Q E hv hq
    have hv' : its[i]? = some v := by simpa using hv
    have hi := (List.getElem?_eq_some_iff.mp hv').1
    have ex : xs[i]? = some xs[i] := List.getElem?_eq_getElem (by omega)
    obtain ⟨u, e1, r1⟩ := rv.get ex
    rw [hv'] at e1; cases e1
    obtain ⟨d, e2, r2⟩ := h2.get' ex
    obtain ⟨b, rfl, e3⟩ := blsD_get hb e2
    rcases hx : xs[i] with _ | _ | _ | _ | _ | _ | _ | _ <;> rw [hx] at r1 r2 <;> cases r2
    cases r1
    have : bs.getD i false = b := by simp [List.getD, e3]
    dsimp only at hq
    rw [this] at hq
    exact wpAny_truthy_bool hq
  · intro h' tk hk
    refine I.kept fun b o e => hk b o (fun hm => ?_) (Heap.get?_push_of_some _ e)
    have : b = s.heap.objs.size := by simpa using hm
    exact absurd (this ▸ Heap.lt_size e) (Nat.lt_irrefl _)
theorem call_all (hc : X.calm = true) : CallR X (.builtin "all") (fun xs H Q => ∃ a ys ds bs, xs = [.ref a] ∧ SqL X.K H a ys ∧ Reps X.K H ys ds ∧ blsD ds = some bs ∧ Q (.bl (bs.all id)) H) := by
  intro pins s σ H xs us Q I r h
  obtain ⟨a, ys, ds, bs, rfl, h1, h2, h3, q⟩ := h
  obtain ⟨u, rfl, rx⟩ := vals1 r
  cases rx
  refine call_all_walk (walk_bools I h1 h2 h3 hc fun J s2 its hl W st1 st2 tr kp => ?_)
  refine ⟨J, _, _, _, _, _, _, rfl, W, ⟨st1, st2⟩, tr, fun h' tk hk => ⟨.bl _, H, kp h' tk hk, rfl, ?_⟩⟩
  rw [hl, range_alls]; exact q
def allD : List D → Option D
  | [.lst ds] => (blsD ds).map fun bs => .bl (bs.all id)
  | _ => none
theorem cd_all : CallD X.K .s (fun xs H Q => ∃ a ys ds bs, xs = [.ref a] ∧ SqL X.K H a ys ∧ Reps X.K H ys ds ∧ blsD ds = some bs ∧ Q (.bl (bs.all id)) H) allD := by
  intro H hid vs ds d Q hf h r q
  unfold allD at h
  split at h
  · rename_i zs
    cases e1 : blsD zs with
    | none => rw [e1] at h; cases h
    | some bs =>
      rw [e1] at h; cases h
      obtain ⟨x, rfl, r1⟩ := Reps1.one r
      obtain ⟨a, xs, rfl, h1, h2⟩ := r1.lst
      exact ⟨a, xs, zs, bs, rfl, h1, h2.mono (vw_le _ _), e1, q _ H (Same.refl _) .bl⟩
  · cases h
def intsD : List D → Option (List Int)
  | [] => some []
  | .int b :: r => (intsD r).map (b :: ·)
  | _ => none
theorem intsD_eq : ∀ {ds : List D} {ns : List Int}, intsD ds = some ns → ds = ns.map D.int
  | [], _, h => by cases h; rfl
  | x :: r, bs, h => by
    cases x with
    | int b =>
      unfold intsD at h
      cases e1 : intsD r with
      | none => rw [e1] at h; cases h
      | some rs => rw [e1] at h; cases h; simp [intsD_eq e1]
    | _ => cases h
end
end L2
set_option Elab.async false
set_option linter.all false
set_option maxRecDepth 100000
namespace PySem.SeqAt
open AutoSeq1 (wpAny_loadPart')
open MeetsSeq MeetsSeq2 MeetsSeq3 SeqRoads2
end PySem.SeqAt
namespace L2
open PySem PySem.Spec PyProof.Rows
end L2
set_option Elab.async false
set_option linter.all false
set_option maxRecDepth 100000
namespace L2
open PySem PySem.Spec PyProof.Rows
section
variable {X : Cx} {c : Ct} {e o : Expr} {k k2 : Kd} {f g : FE} {pos p p2 apos : Pos}
theorem call_rng1 : CallR X (.type "range") (fun xs H Q => ∃ j : Int, xs = [.int j] ∧ ∀ p, H p = none → Q (.ref p) (upd H p (.rng 0 j))) := by
  intro pins s σ H xs us Q I r h
  obtain ⟨j, rfl, q⟩ := h
  obtain ⟨u, rfl, t, rfl⟩ := vals1 r
  refine call_range_1 ⟨.ref s.heap.objs.size, _, I.laid (fun b o e => Heap.get?_push_of_some _ e) (Nat.le_refl _) ?_, rfl, q _ (I.hok.fresh (Nat.le_refl _))⟩
  exact ⟨_, _, _, Heap.get?_push_size _ rfl⟩
theorem ups_V (lo : Int) (n : Nat) : ∀ {K : PySem.W.Frag} {F : Hp}, Reps K F ((List.range n).map fun (i : Nat) => V.int (lo + i)) (ups lo n) := by
  intro K F
  unfold ups
  generalize List.range n = l
  induction l with
  | nil => exact .nil
  | cons a l ih => exact .cons .int ih
theorem call_list_rng (hc : X.calm = true) : CallR X (.type "list") (fun xs H Q => ∃ p lo hi, xs = [.ref p] ∧ H p = some (.rng lo hi) ∧ -(2 ^ 30) ≤ lo ∧ lo ≤ 2 ^ 30 ∧ -(2 ^ 30) ≤ hi ∧ hi - lo ≤ 1000000 ∧ hi ≤ 2 ^ 31 ∧ ∀ l, H l = none → Q (.ref l) (upd H l (.lst ((List.range (hi - lo).toNat).map fun (i : Nat) => V.int (lo + i))))) := by
  intro pins s σ H xs us Q I r h
  obtain ⟨p, lo, hi, rfl, hp, b1, b2, b3, b4, b5, q⟩ := h
  obtain ⟨u, rfl, rx⟩ := vals1 r
  cases rx
  obtain ⟨t, u, v, hr⟩ := I.hok p _ hp
  have hsz : Builtin.Range.rangeSize lo hi 1 = (hi - lo).toNat := by
    unfold Builtin.Range.rangeSize
    rw [if_pos (by decide)]
    split
    · rw [Int.ediv_one]; omega
    · omega
  refine call_list_range (a := lo) (b := hi) (c := 1) (n := (hi - lo).toNat) (I.ok.hd hc) hr ?_ hsz (by omega) fun h' tk acc' c' kp hS hacc => ?_
  · exact small_one (by omega) (by omega) (by omega) (by omega)
  · have hz : (hi - lo).toNat ≤ sizeLine := by rw [sizeLine_eq]; omega
    refine ⟨.ref s.heap.objs.size, _, I.laid (t' := tk) kp (Nat.le_refl _) (show ObjOk X.prog X.w _ h' _ (.lst _) from ⟨by simpa using hz, acc'.toList, c', ?_, by simpa using hS⟩), rfl, q _ (I.hok.fresh (Nat.le_refl _))⟩
    obtain ⟨ha, hb⟩ := hacc
    have key : ∀ (l : List Value) (k m : Nat), l.length = m → (∀ (j : Nat) v, l[j]? = some v → ∃ t, v = .int (lo + ((k + j : Nat) : Int) * 1) t) → Vals ((List.range' k m).map fun (i : Nat) => V.int (lo + i)) l := by
      intro l
      induction l with
      | nil => intro k m hm _; subst hm; exact .nil
      | cons x l ih =>
        intro k m hm hv
        subst hm
        rw [List.length_cons, List.range'_succ]
        refine .cons ?_ (ih (k + 1) l.length rfl fun j v e => ?_)
        · obtain ⟨t, rfl⟩ := hv 0 x rfl
          exact ⟨t, by simp⟩
        · obtain ⟨t, rfl⟩ := hv (j + 1) v (by simpa using e)
          exact ⟨t, by congr 3; omega⟩
    have := key acc'.toList 0 (hi - lo).toNat (by simpa using ha) fun j v e => by
      have := hb j v (by simpa using e)
      simpa using this
    rw [List.range_eq_range']
    exact this
def lrF1 : D → Option D
  | .int j => if j.natAbs ≤ 1000000 then some (.lst (ups 0 j.toNat)) else none
  | _ => none
def lr1 (f : FE) : FE := fun ρ => (f ρ).bind lrF1
theorem dp_listRange1 (hc : X.calm = true) (hml : X.mg "list" = none) (hmr : X.mg "range" = none) (he : DP X c k e f) (hgl : Gl X "list" := by rfl) (hgr : Gl X "range" := by rfl) (hvl : bootBuiltins "list" = some (.type "list") := by kernel_rfl) (hvr : bootBuiltins "range" = some (.type "range") := by kernel_rfl)
    (hs1 : starEach [e] X.env = (false, eval e X.env) :: starEach [] X.env := by rfl) (hpl1 : (backTo pos (starEach [] X.env)).any (·.1) = false := by rfl) (hpl2 : (backTo p2 (starEach [] X.env)).any (·.1) = false := by rfl) {p3 : Pos}
    (hs2 : starEach [.Call (.Name "range" p3) [e] [] p2] X.env = (false, eval (.Call (.Name "range" p3) [e] [] p2) X.env) :: starEach [] X.env := by rfl) :
    DP X c .n (.Call (.Name "list" p) [.Call (.Name "range" p3) [e] [] p2] [] pos) (lr1 f) := fun hid ρ =>
  PE.imp (pe_callTy (call_list_rng hc) hgl hml hvl (pa_cons (pe_callTy call_rng1 hgr hmr hvr (pa_cons (he hid ρ) pa_nil hs1) (by decide) (by decide) hs1 hpl2) pa_nil hs2) (by decide) (by decide) hs2 hpl1) fun σ H Q hq_ => by
    obtain ⟨sr, d, hd, q⟩ := hq_
    unfold lr1 at hd
    cases e1 : f ρ with
    | none => rw [e1] at hd; cases hd
    | some z =>
      rw [e1] at hd
      have hd : lrF1 z = some d := hd
      unfold lrF1 at hd
      split at hd
      · split at hd
        · rename_i _ j _ _
          cases hd
          refine ⟨sr, _, e1, fun v H1 s1 r1 => ?_⟩
          have b1 := (RK.b k r1 fun a n => sr.fresh n).int
          cases b1
          refine ⟨j, rfl, fun r hr => ?_⟩
          refine ⟨r, 0, j, rfl, upd_same, by omega, by omega, by omega, by omega, by omega, fun l hl => ?_⟩
          have s2 : Same H (upd H1 r (.rng 0 j)) := s1.trans (same_new hr _)
          refine q _ _ (s2.trans (same_new hl _)) ?_
          have := rn_new (hid := hid) (K := X.K) hl s2 (ups_V 0 (j - 0).toNat)
          rw [show (j - 0).toNat = j.toNat by omega] at this ⊢
          exact this
        · cases hd
      · cases hd
def addF := i2 (fun _ _ => true) fun i j => .int (i + j)
def mulF := i2 (fun i j => decide (i.natAbs < 2 ^ 1000) && decide (j.natAbs < 2 ^ 1000)) fun i j => .int (i * j)
def modF := i2 (fun _ j => decide (0 < j)) fun i j => .int (i % j)
def fdivF := i2 (fun _ j => decide (0 < j) && decide (j.natAbs < 2 ^ 1000)) fun i j => .int (i / j)
def powF := i2 (fun i j => decide (0 ≤ j) && decide (j ≤ 1000000) && decide (i.natAbs < 2 ^ 64)) fun i j => .int (i ^ j.toNat)
def ltF := i2 (fun _ _ => true) fun i j => .bl (decide (i < j))
def geF := i2 (fun _ _ => true) fun i j => .bl (decide (j ≤ i))
theorem bits_of {i : Int} (h : i.natAbs < 2 ^ 1000) : Builtin.Int.intBits i ≤ 2 ^ 20 := by
  unfold Builtin.Int.intBits
  split
  · exact Nat.zero_le _
  · rename_i hz
    have h0 : i.natAbs ≠ 0 := by simp at hz; omega
    have := (Nat.log2_lt h0).mpr h
    omega
theorem op_mulB : OpR X (binaryOp .Mult) (rI IntMulOk fun i j => .int (i * j)) := opI fun _ _ _ _ _ _ _ hc q => mul_int q hc
variable {a b : Expr}
theorem dp_add {k1 k2 : Kd} (ha : DP X c k1 a f) (hb : DP X c k2 b g) : DP X c .s (.BinOp a .Add b pos) (op2 addF f g) := dp_op op_add od_I0 ha hb
theorem od_mul {K : PySem.W.Frag} : OpD K .s (rI IntMulOk fun i j => .int (i * j)) mulF := od_I fun i j h => by
  simp only [Bool.and_eq_true, decide_eq_true_eq] at h
  exact IntMulOk.of_bits (bits_of h.1) (bits_of h.2)
theorem dp_mul {k1 k2 : Kd} (ha : DP X c k1 a f) (hb : DP X c k2 b g) : DP X c .s (.BinOp a .Mult b pos) (op2 mulF f g) := dp_op op_mulB od_mul ha hb
theorem od_mod {K : PySem.W.Frag} : OpD K .s (rI (fun _ j => 0 < j) fun i j => .int (i % j)) modF := od_I fun i j h => by simpa using h
theorem dp_mod {k1 k2 : Kd} (ha : DP X c k1 a f) (hb : DP X c k2 b g) : DP X c .s (.BinOp a .Mod b pos) (op2 modF f g) := dp_op op_mod od_mod ha hb
theorem op_fdivB : OpR X (binaryOp .FloorDiv) (rI (fun _ j => 0 < j ∧ j.natAbs < 2 ^ 1000) fun i j => .int (i / j)) := opI fun i j _ _ _ _ _ hc q => by
  obtain ⟨h1, h2⟩ := hc
  refine floordiv_int (by omega) (by rw [Int.fdiv_eq_ediv_of_nonneg i (by omega)]; exact q) (.inl (PyProof.noPylong_of_log2 ?_))
  have := (Nat.log2_lt (n := j.natAbs) (by omega)).mpr h2
  omega
theorem od_fdiv {K : PySem.W.Frag} : OpD K .s (rI (fun _ j => 0 < j ∧ j.natAbs < 2 ^ 1000) fun i j => .int (i / j)) fdivF := od_I fun i j h => by
  simp only [Bool.and_eq_true, decide_eq_true_eq] at h
  exact ⟨h.1, h.2⟩
theorem dp_fdiv {k1 k2 : Kd} (ha : DP X c k1 a f) (hb : DP X c k2 b g) : DP X c .s (.BinOp a .FloorDiv b pos) (op2 fdivF f g) := dp_op op_fdivB od_fdiv ha hb
theorem od_pow {K : PySem.W.Frag} : OpD K .s (rI CPow fun i j => .int (i ^ j.toNat)) powF := od_I fun i j h => by
  simp only [Bool.and_eq_true, decide_eq_true_eq] at h
  exact ⟨h.1.1, h.1.2, h.2⟩
theorem dp_pow {k1 k2 : Kd} (ha : DP X c k1 a f) (hb : DP X c k2 b g) : DP X c .s (.BinOp a .Pow b pos) (op2 powF f g) := dp_op op_pow od_pow ha hb
theorem de_add {f g : GE} (ha : DE X c .s a f) (hb : DE X c .s b g) : DE X c .s (.BinOp a .Add b pos) (op2E addF f g) := de_op op_add od_I0 ha hb
end
end L2
set_option Elab.async false
set_option linter.all false
set_option maxRecDepth 100000
namespace L2
open PySem PySem.Spec PyProof.Rows
structure Cl (P : Program) (w : World) (K : PySem.W.Frag) (mg : Str → Option Value) (base : Heap) (k : Nat) (x : Str) (ps : List Str) (sp : Sp) : Prop where
  ex : ∃ f fd, FnOk P w K mg base CX0 k f fd ps sp ∧ mg x = some (.ref f) ∧ PySem.W.keepIn K (.ref f) = true ∧ Binds K fd ps []
structure Df (K : PySem.W.Frag) (mg : Str → Option Value) (x : Str) (st : Stmt) (ps : List Str) : Prop where
  ex : ∃ f fd, Fun K x x st f fd ∧ mg x = some (.ref f) ∧ Binds K fd ps []
section
variable {P : Program} {w : World} {K : PySem.W.Frag} {mg : Str → Option Value} {base : Heap} {x : Str} {st : Stmt} {N ps : List Str} {k n : Nat} {t : FS} {kd : Kd}
theorem cl_pure (F : Df K mg x st ps) (S : FnScope N ps (defScope st)) (hkd : kd ≠ .b) (hn : ps.length = n)
    (body : ∀ (f : Addr) (cdv : Value) (A : Around) (outer : List Env) (s : Shared) (H : Hp) (hid : Hid) (E : XK), Room k (A.deeper (envOfC x (defScope st) s.heap.objs.size f cdv)) →
      DSs (cxOf CX0 P w K mg base N x (defScope st) f cdv A outer s H E).nox ⟨H, hid, fun _ => false⟩ kd (defBody st) t) :
    Cl P w K mg base (k + 1) x ps (spP K kd n (fnP kd N.length t)) := by
  obtain ⟨f, fd, F, hm, hb⟩ := F.ex
  subst hn
  exact ⟨f, fd, fn_pure F S hkd (body f), hm, F.kp, hb⟩
theorem cl_eff (F : Df K mg x st ps) (S : FnScope N ps (defScope st)) (hkd : kd ≠ .b) (hn : ps.length = n + 1)
    (body : ∀ (f : Addr) (cdv : Value) (A : Around) (outer : List Env) (s : Shared) (H : Hp) (hid : Hid) (a : Addr) (E : XK), Room k (A.deeper (envOfC x (defScope st) s.heap.objs.size f cdv)) →
      DSs (cxOf CX0 P w K mg base N x (defScope st) f cdv A outer s H E).nox ⟨H, hid, fun b => decide (b = a)⟩ kd (defBody st) t) :
    Cl P w K mg base (k + 1) x ps (spE K kd n (fnE kd N.length t)) := by
  obtain ⟨f, fd, F, hm, hb⟩ := F.ex
  exact ⟨f, fd, fn_eff F S hkd hn (body f), hm, F.kp, hb⟩
end
section
variable {X : Cx} {c : Ct} {e a b : Expr} {es rest : List Expr} {k : Kd} {pos p : Pos} {x : Str} {ps : List Str} {j n : Nat}
def nF (n : Nat) (P : List D → Option D) : List D → Option D := fun ds => if ds.length = n then P ds else none
theorem dp_cl {P : List D → Option D} {fs : FA} (C : Cl X.prog X.w X.K X.mg X.base j x ps (spP X.K k n P)) (hr : Room j X.A)
    (ha : DA X c (e :: es) fs) (hg : Gl X x := by rfl) (hdb : (x == ("__debug__" : Str)) = false := by decide) (he : starEach (e :: es) X.env = (false, eval e X.env) :: starEach es X.env := by rfl) (hpl : (backTo pos (starEach es X.env)).any (·.1) = false := by rfl) :
    DP X c k (.Call (.Name x p) (e :: es) [] pos) (callF (nF n P) fs) := by
  obtain ⟨f, fd, F, hm, hk, hb⟩ := C.ex
  exact dp_call F hr hm hk hb ha hg hdb he hpl
theorem de_cl (i : Nat) {y : Str} {py : Pos} {M : List D → List D → Option (D × List D)} {fs : GA} (C : Cl X.prog X.w X.K X.mg X.base j x ps (spE X.K k n M)) (hr : Room j X.A)
    (ha : DG X c es fs) (hkb : k ≠ .b := by decide) (hN : X.N[i]? = some y := by rfl) (hv : Vis X.env.scope y := by first | exact Or.inl rfl | exact Or.inr (Or.inl rfl) | exact Or.inr (Or.inr rfl)) (hd : (y == ("__debug__" : Str)) = false := by decide)
    (hcd : (y == ("__classdict__" : Str)) = false := by decide) (hs : starEach (.Name y py :: es) X.env = (false, eval (.Name y py) X.env) :: starEach es X.env := by rfl) (hg : Gl X x := by rfl) (hdb : (x == ("__debug__" : Str)) = false := by decide) (hpl : (backTo pos (starEach es X.env)).any (·.1) = false := by rfl) :
    DE X c k (.Call (.Name x p) (.Name y py :: es) [] pos) (callE i n M fs) := by
  obtain ⟨f, fd, F, hm, hk, hb⟩ := C.ex
  exact de_callE i F hr hm hk hb ha hkb hN hv hd hcd hs hg hdb hpl
end
end L2
set_option Elab.async false
set_option linter.all false
set_option maxRecDepth 100000
namespace L2
open PySem PySem.W PyProof.Rows
structure Od (b : Nat → Nat → Bool) : Prop where
  tr : ∀ {i j k : Nat}, b j i = false → b k j = false → b k i = false
  as : ∀ {i j : Nat}, b i j = true → b j i = false
theorem Od.rf {b : Nat → Nat → Bool} (O : Od b) (i : Nat) : b i i = false := by
  cases h : b i i with
  | false => rfl
  | true => have := O.as h; rw [h] at this; exact this
structure Pm (N : Nat) (p : Array Nat) : Prop where
  perm : p.Perm (List.toArray (List.range N))
theorem Pm.size {N : Nat} {p : Array Nat} (h : Pm N p) : p.size = N := by rw [h.perm.size_eq]; simp
theorem Pm.lt {N : Nat} {p : Array Nat} (h : Pm N p) (hN : 0 < N) (k : Nat) : p.getD k 0 < N := by
  by_cases hk : k < p.size
  · have e : p.getD k 0 = p[k] := by simp [Array.getD, hk]
    rw [e]
    have : p[k] ∈ (List.toArray (List.range N)) := h.perm.mem_iff.mp (Array.getElem_mem hk)
    simpa using this
  · have e : p.getD k 0 = 0 := by simp [Array.getD, hk]
    rw [e]; exact hN
theorem at_eq {p q : Array Nat} {i j : Nat} (h : p[i]? = q[j]?) : p.getD i 0 = q.getD j 0 := by
  rw [Array.getD_eq_getD_getElem?, Array.getD_eq_getD_getElem?, h]
section
variable {b : Nat → Nat → Bool} {N : Nat} {cmp : Nat → Nat → (Bool → Shared → Prop) → Shared → Prop} {s : Shared}
def Srt (b : Nat → Nat → Bool) (p : Array Nat) (n : Nat) : Prop := ∀ i j, i ≤ j → j < n → b (p.getD j 0) (p.getD i 0) = false
def Fal (b : Nat → Nat → Bool) (p : Array Nat) (n : Nat) : Prop := ∀ i j, i ≤ j → j < n → b (p.getD i 0) (p.getD j 0) = false
theorem Srt.succ (O : Od b) {p : Array Nat} {n : Nat} (h : Srt b p n) (hn : 1 ≤ n) (e : b (p.getD n 0) (p.getD (n - 1) 0) = false) : Srt b p (n + 1) := fun i j hij hj => by
  by_cases h1 : j < n
  · exact h i j hij h1
  · have : j = n := by omega
    subst this
    by_cases h2 : i = j
    · subst h2; exact O.rf _
    · exact O.tr (h i (j - 1) (by omega) (by omega)) e
theorem Fal.succ (O : Od b) {p : Array Nat} {n : Nat} (h : Fal b p n) (hn : 1 ≤ n) (e : b (p.getD (n - 1) 0) (p.getD n 0) = false) : Fal b p (n + 1) := fun i j hij hj => by
  by_cases h1 : j < n
  · exact h i j hij h1
  · have : j = n := by omega
    subst this
    by_cases h2 : i = j
    · subst h2; exact O.rf _
    · exact O.tr e (h i (j - 1) (by omega) (by omega))
theorem Fal.congr (O : Od b) {p q : Array Nat} {n : Nat} (h : Fal b p n) (e : ∀ k, k < n → b (p.getD k 0) (q.getD k 0) = false ∧ b (q.getD k 0) (p.getD k 0) = false) : Fal b q n := fun i j hij hj =>
  O.tr (O.tr (e j hj).1 (h i j hij hj)) (e i (by omega)).2
theorem srt_one (O : Od b) (p : Array Nat) : Srt b p 1 := fun i j hij hj => by
  have : i = j := by omega
  subst this; exact O.rf _
theorem fal_one (O : Od b) (p : Array Nat) : Fal b p 1 := fun i j hij hj => by
  have : i = j := by omega
  subst this; exact O.rf _
theorem rev_at {p : Array Nat} {i j : Nat} (hj : j ≤ p.size) (k : Nat) : (kas_rev p i j).getD k 0 = if i ≤ k ∧ k < j then p.getD (i + j - 1 - k) 0 else p.getD k 0 := by
  have := getElem?_mirror_all (i := i) hj k
  unfold kas_rev
  split
  · rename_i h; rw [if_pos h] at this; exact at_eq this
  · rename_i h; rw [if_neg h] at this; exact at_eq this
theorem Pm.rev {p : Array Nat} (h : Pm N p) (i j : Nat) : Pm N (kas_rev p i j) := ⟨(mirror_perm _ _ _ _).trans h.perm⟩
variable (O : Od b) (hN : 0 < N) (hc : ∀ (i j : Nat) (C : Bool → Shared → Prop), i < N → j < N → C (b i j) s → cmp i j C s)
include O hN hc
theorem asc_wp {p : Array Nat} (P : Pm N p) {Q : Nat → Shared → Prop} : ∀ (f n : Nat), 1 ≤ n → n + f ≤ N → Srt b p n →
    (∀ m, n ≤ m → m ≤ n + f → Srt b p m → (m < n + f → b (p.getD m 0) (p.getD (m - 1) 0) = true) → Q m s) → (kas_asc p f n).kasWp cmp Q s
  | 0, n, h1, h2, hs, q => q n (Nat.le_refl _) (Nat.le_refl _) hs fun z => absurd z (Nat.lt_irrefl _)
  | f + 1, n, h1, h2, hs, q => by
    unfold kas_asc
    refine hc _ _ _ (P.lt hN _) (P.lt hN _) ?_
    cases e : b (p.getD n 0) (p.getD (n - 1) 0) with
    | true => simp only [if_true]; exact q n (Nat.le_refl _) (by omega) hs fun _ => e
    | false =>
      simp only [Bool.false_eq_true, if_false]
      exact asc_wp P f (n + 1) (by omega) (by omega) (hs.succ O h1 e) fun m a1 a2 a3 a4 => q m (by omega) (by omega) a3 fun z => a4 (by omega)
def Eqs (b : Nat → Nat → Bool) (p : Array Nat) (n q : Nat) : Prop := ∀ i, n - (q + 1) ≤ i → i < n → b (p.getD i 0) (p.getD (n - 1) 0) = false ∧ b (p.getD (n - 1) 0) (p.getD i 0) = false
omit hN hc in
theorem Eqs.rev {p : Array Nat} {n q : Nat} (hn : n ≤ p.size) (hq : q < n) (h : Eqs b p n q) (k : Nat) : b (p.getD k 0) ((kas_rev p (n - (q + 1)) n).getD k 0) = false ∧ b ((kas_rev p (n - (q + 1)) n).getD k 0) (p.getD k 0) = false := by
  rw [rev_at hn]
  split
  · rename_i hk
    have h1 := h k hk.1 hk.2
    have h2 := h (n - (q + 1) + n - 1 - k) (by omega) (by omega)
    exact ⟨O.tr h2.2 h1.1, O.tr h1.2 h2.1⟩
  · exact ⟨O.rf _, O.rf _⟩
theorem desc_wp {Q : Array Nat × Nat × Nat → Shared → Prop} : ∀ (f : Nat) (p : Array Nat) (n q : Nat), Pm N p → 1 ≤ n → n + f ≤ N → q < n → Fal b p n → Eqs b p n q →
    (∀ p' n' q', Pm N p' → n ≤ n' → n' ≤ n + f → q' < n' → Fal b p' n' → Eqs b p' n' q' → Q (p', n', q') s) → (kas_desc f p n q).kasWp cmp Q s
  | 0, p, n, q, P, h1, h2, hq, hf, he, k => k p n q P (Nat.le_refl _) (Nat.le_refl _) hq hf he
  | f + 1, p, n, q, P, h1, h2, hq, hf, he, k => by
    have hz := P.size
    have e0 : ∀ p' : Array Nat, Eqs b p' (n + 1) 0 := fun p' i a1 a2 => by
      have : i = n := by omega
      subst this; exact ⟨O.rf _, O.rf _⟩
    unfold kas_desc
    refine hc _ _ _ (P.lt hN _) (P.lt hN _) ?_
    cases e : b (p.getD n 0) (p.getD (n - 1) 0) with
    | true =>
      simp only [if_true]
      split
      · rename_i hq0
        have ev := he.rev O (by omega) hq
        have hf' : Fal b (kas_rev p (n - (q + 1)) n) n := hf.congr O fun k _ => ev k
        refine desc_wp f _ (n + 1) 0 (P.rev _ _) (by omega) (by omega) (by omega) (hf'.succ O h1 ?_) (e0 _) fun p' n' q' a1 a2 a3 => k p' n' q' a1 (by omega) (by omega)
        have e1 : (kas_rev p (n - (q + 1)) n).getD n 0 = p.getD n 0 := by rw [rev_at (by omega), if_neg (by omega)]
        rw [e1]
        exact O.tr (O.as e) (ev (n - 1)).2
      · exact desc_wp f p (n + 1) 0 P (by omega) (by omega) (by omega) (hf.succ O h1 (O.as e)) (e0 _) fun p' n' q' a1 a2 a3 => k p' n' q' a1 (by omega) (by omega)
    | false =>
      simp only [Bool.false_eq_true, if_false]
      refine hc _ _ _ (P.lt hN _) (P.lt hN _) ?_
      cases e2 : b (p.getD (n - 1) 0) (p.getD n 0) with
      | true => simp only [if_true]; exact k p n q P (Nat.le_refl _) (by omega) hq hf he
      | false =>
        simp only [Bool.false_eq_true, if_false]
        refine desc_wp f p (n + 1) (q + 1) P (by omega) (by omega) (by omega) (hf.succ O h1 e2) (fun i a1 a2 => ?_) fun p' n' q' b1 b2 b3 => k p' n' q' b1 (by omega) (by omega)
        rw [show n + 1 - 1 = n by omega]
        by_cases hi : i = n
        · subst hi; exact ⟨O.rf _, O.rf _⟩
        · have z := he i (by omega) (by omega)
          exact ⟨O.tr e2 z.1, O.tr z.2 e⟩
theorem tail3_wp {p : Array Nat} (P : Pm N p) {n : Nat} (h1 : 1 ≤ n) (hn : n ≤ N) (hf : Fal b p n) {Q : Nat × Array Nat → Shared → Prop} (q : ∀ m p', Pm N p' → 1 ≤ m → m ≤ N → Srt b p' m → Q (m, p') s) : (kas_tail3 n N p).kasWp cmp Q s := by
  unfold kas_tail3
  rw [KasT.kasWp_bind]
  have hz := P.size
  have hs : Srt b (kas_rev p 0 n) n := fun i j hij hj => by
    rw [rev_at (by omega), rev_at (by omega), if_pos (by omega), if_pos (by omega)]
    exact hf _ _ (by omega) (by omega)
  exact asc_wp O hN hc (P.rev _ _) (N - n) n h1 (by omega) hs fun m a1 a2 a3 _ => q m _ (P.rev _ _) (by omega) (by omega) a3
theorem descPart_wp {p : Array Nat} (P : Pm N p) {n : Nat} (h1 : 1 ≤ n) (hn : n + 1 ≤ N) (hf : Fal b p (n + 1)) {Q : Nat × Array Nat → Shared → Prop} (q : ∀ m p', Pm N p' → 1 ≤ m → m ≤ N → Srt b p' m → Q (m, p') s) : (kas_descPart n N p).kasWp cmp Q s := by
  unfold kas_descPart
  rw [KasT.kasWp_bind]
  refine desc_wp O hN hc (N - (n + 1)) p (n + 1) 0 P (by omega) (by omega) (by omega) hf (fun i a1 a2 => ?_) fun p' n' q' a1 a2 a3 a4 a5 a6 => ?_
  · have : i = n := by omega
    subst this; exact ⟨O.rf _, O.rf _⟩
  · dsimp only
    have hz := a1.size
    split
    · exact tail3_wp O hN hc (a1.rev _ _) (by omega) (by omega) (a5.congr O fun k _ => a6.rev O (by omega) a4 k) q
    · exact tail3_wp O hN hc a1 (by omega) (by omega) a5 q
theorem count_wp {p : Array Nat} (P : Pm N p) {Q : Nat × Array Nat → Shared → Prop} (q : ∀ m p', Pm N p' → 1 ≤ m → m ≤ N → Srt b p' m → Q (m, p') s) : (kas_count N p).kasWp cmp Q s := by
  unfold kas_count
  rw [KasT.kasWp_bind]
  have hz := P.size
  refine asc_wp O hN hc P (N - 1) 1 (Nat.le_refl _) (by omega) (srt_one O p) fun m a1 a2 a3 a4 => ?_
  split
  · exact q m p P a1 (by omega) a3
  · rename_i hm
    have hm' : m ≠ N := by simpa using hm
    have lt := a4 (by omega)
    split
    · refine hc _ _ _ (P.lt hN _) (P.lt hN _) ?_
      cases e : b (p.getD 0 0) (p.getD (m - 1) 0) with
      | true => simp only [if_true]; exact q m p P a1 (by omega) a3
      | false =>
        simp only [Bool.false_eq_true, if_false]
        have eq : ∀ i j, i < m → j < m → b (p.getD i 0) (p.getD j 0) = false := fun i j hi hj => O.tr (O.tr (a3 j (m - 1) (by omega) (by omega)) e) (a3 0 i (by omega) hi)
        have hr : ∀ i, i < m → (kas_rev p 0 m).getD i 0 = p.getD (0 + m - 1 - i) 0 := fun i hi => by rw [rev_at (by omega), if_pos (by omega)]
        refine descPart_wp O hN hc (P.rev _ _) a1 (by omega) (Fal.succ O (fun i j hij hj => ?_) a1 ?_) q
        · rw [hr i (by omega), hr j hj]; exact eq _ _ (by omega) (by omega)
        · have e1 : (kas_rev p 0 m).getD m 0 = p.getD m 0 := by rw [rev_at (by omega), if_neg (by omega)]
          rw [e1, hr (m - 1) (by omega)]
          exact O.tr (O.as lt) (eq _ _ (by omega) (by omega))
    · have : m = 1 := by omega
      subst this
      exact descPart_wp O hN hc P (Nat.le_refl _) (by omega) ((fal_one O p).succ O (Nat.le_refl _) (O.as lt)) q
theorem place_wp {p : Array Nat} (P : Pm N p) {k : Nat} (hs : Srt b p k) {Q : Nat → Shared → Prop} : ∀ (f l r : Nat), l ≤ r → r ≤ k → r - l ≤ f → (∀ i, i < l → b (p.getD k 0) (p.getD i 0) = false) → (∀ i, r ≤ i → i < k → b (p.getD k 0) (p.getD i 0) = true) →
    (∀ m, m ≤ k → (∀ i, i < m → b (p.getD k 0) (p.getD i 0) = false) → (∀ i, m ≤ i → i < k → b (p.getD k 0) (p.getD i 0) = true) → Q m s) → (kas_place p k f l r).kasWp cmp Q s
  | 0, l, r, h1, h2, h3, a, c, q => q l (by omega) a fun i z => c i (by omega)
  | f + 1, l, r, h1, h2, h3, a, c, q => by
    unfold kas_place
    split
    · exact q l (by omega) a fun i z => c i (by omega)
    · rename_i hlr
      refine hc _ _ _ (P.lt hN _) (P.lt hN _) ?_
      cases e : b (p.getD k 0) (p.getD ((l + r) / 2) 0) with
      | true =>
        simp only [if_true]
        refine place_wp P hs f l _ (by omega) (by omega) (by omega) a (fun i z1 z2 => ?_) q
        cases e2 : b (p.getD k 0) (p.getD i 0) with
        | true => rfl
        | false =>
          have := O.tr (hs ((l + r) / 2) i z1 z2) e2
          rw [e] at this; exact this.symm
      | false =>
        simp only [Bool.false_eq_true, if_false]
        exact place_wp P hs f _ r (by omega) (by omega) (by omega) (fun i z => O.tr (hs i ((l + r) / 2) (by omega) (by omega)) e) c q
omit hN hc in
theorem bubble_srt {p : Array Nat} {k m : Nat} (hk : k < p.size) (hs : Srt b p k) (hm : m ≤ k) (a : ∀ i, i < m → b (p.getD k 0) (p.getD i 0) = false) (c : ∀ i, m ≤ i → i < k → b (p.getD k 0) (p.getD i 0) = true) : Srt b (bubble p k (k - m)) (k + 1) := by
  have g : ∀ j, (bubble p k (k - m)).getD j 0 = if j = m then p.getD k 0 else if m < j ∧ j ≤ k then p.getD (j - 1) 0 else p.getD j 0 := fun j => by
    have := getElem?_bubble hk (k - m) (by omega) j
    rw [show k - (k - m) = m by omega] at this
    by_cases h : j = m
    · rw [if_pos h] at this ⊢; exact at_eq this
    · rw [if_neg h] at this ⊢
      by_cases h2 : m < j ∧ j ≤ k
      · rw [if_pos h2] at this ⊢; exact at_eq this
      · rw [if_neg h2] at this ⊢; exact at_eq this
  intro i j hij hj
  rw [g, g]
  by_cases ej : j = m
  · rw [if_pos ej]
    by_cases ei : i = m
    · rw [if_pos ei]; exact O.rf _
    · rw [if_neg ei, if_neg (by omega)]; exact a i (by omega)
  · rw [if_neg ej]
    by_cases ei : i = m
    · rw [if_pos ei, if_pos (by omega)]; exact O.as (c _ (by omega) (by omega))
    · rw [if_neg ei]
      by_cases hj2 : m < j ∧ j ≤ k
      · rw [if_pos hj2]
        by_cases hi2 : m < i ∧ i ≤ k
        · rw [if_pos hi2]; exact hs _ _ (by omega) (by omega)
        · rw [if_neg hi2]; exact hs _ _ (by omega) (by omega)
      · rw [if_neg hj2, if_neg (by omega)]; exact hs _ _ hij (by omega)
theorem bin_wp {Q : Array Nat → Shared → Prop} : ∀ (f : Nat) (p : Array Nat) (k : Nat), Pm N p → 1 ≤ k → k + f = N → Srt b p k → (∀ p', Pm N p' → Srt b p' N → Q p' s) → (kas_bin f p k).kasWp cmp Q s
  | 0, p, k, P, h1, h2, hs, q => q p P (by rw [← h2]; exact hs)
  | f + 1, p, k, P, h1, h2, hs, q => by
    unfold kas_bin
    rw [KasT.kasWp_bind]
    have hz := P.size
    refine place_wp O hN hc P hs k 0 k (Nat.zero_le _) (Nat.le_refl _) (by omega) (fun i z => absurd z (by omega)) (fun i z1 z2 => absurd z2 (by omega)) fun m a1 a2 a3 => ?_
    exact bin_wp f _ (k + 1) ⟨(bubble_perm _ _ _).trans P.perm⟩ (by omega) (by omega) (bubble_srt O (by omega) hs a1 a2 a3) q
theorem sort_wp {Q : Array Nat → Shared → Prop} (q : ∀ p, Pm N p → Srt b p N → Q p s) : (kas_sort N).kasWp cmp Q s := by
  unfold kas_sort
  rw [KasT.kasWp_bind]
  refine count_wp O hN hc ⟨Array.Perm.refl _⟩ fun m p' P h1 h2 hs => ?_
  dsimp only
  split
  · exact bin_wp O hN hc _ p' _ P (by omega) (by omega) (by rw [show max m 1 = m by omega]; exact hs) q
  · have : m = N := by omega
    subst this
    exact q p' P hs
end
end L2
set_option Elab.async false
set_option linter.all false
set_option maxRecDepth 100000
namespace L2
open PySem PySem.W PySem.Calls PyProof.Rows
section
variable {prog : Program} {w : World} {A : Around} {E : Value → Shared → Prop} {s : Shared}
theorem sort_asked {a : Addr} {us : List Value} {n : Nat} {P : PySem.Fin → Shared → Prop} (ho : s.heap.get? a = some (seqObj "list" us.toArray n)) (hz : us.length < 64)
    (few : us.length < 2 → P (.done (.ret .none)) { s with heap := sortedHeap s.heap a us us.toArray })
    (many : 2 ≤ us.length → ∀ g : Heap, (∀ c o, c ≠ a → s.heap.get? c = some o → g.get? c = some o) → wpAny (model prog w) A (keyKind' us.toArray) (fun κ t => t = { s with heap := g } ∧
      (kas_sort us.length).kasWp (kas_ask prog w A κ us) (fun p t' => t' = t ∧ P (.done (.ret .none)) { s with heap := sortedHeap s.heap a us (List.toArray (p.toList.map fun i => us.getD i Value.none)) }) t) (fun _ _ => False) { s with heap := g }) :
    wpAny (model prog w) A (Builtin.«list.sort» ⟨[.ref a], []⟩) P E s := by
  have la : a < s.heap.objs.size := Heap.lt_size ho
  have z1 : us.toArray.size ≤ sizeLine := by rw [List.size_toArray, sizeLine_eq]; omega
  obtain ⟨c1, h1⟩ : ∃ c, (s.heap.update a (Obj.mapSeq fun _ => #[])).get? a = some (seqObj "list" #[] c) := ⟨_, get?_update_seq ho (fun _ => #[])⟩
  have h2 : (((s.heap.update a (Obj.mapSeq fun _ => #[])).push (seqObj "tuple" us.toArray 0)).push (seqObj "list" #[] 0)).get? a = some (seqObj "list" #[] c1) := Heap.get?_push_of_some _ (Heap.get?_push_of_some _ h1)
  have kp : ∀ c o, c ≠ a → s.heap.get? c = some o → (((s.heap.update a (Obj.mapSeq fun _ => #[])).push (seqObj "tuple" us.toArray 0)).push (seqObj "list" #[] 0)).get? c = some o := fun c o nc e =>
    Heap.get?_push_of_some _ (Heap.get?_push_of_some _ (by rw [Heap.get?_update_ne _ _ _ _ nc]; exact e))
  rw [list_sort_plain]
  refine wpAny_bind (listItems_at ho rfl (wpAny_bind (listUpdate_at ho rfl ?_ z1 (Nat.zero_le _))))
  refine wpAny_bind (seqEpoch_at h1 rfl (wpAny_bind (wpAny_newTuple ?_ (show us.length ≤ _ by rw [sizeLine_eq]; omega))))
  refine wpAny_bind (wpAny_newList (wpAny_holding ?_) (Nat.zero_le _))
  show wpAny (model prog w) A _ P E { s with heap := ((s.heap.update a (Obj.mapSeq fun _ => #[])).push (seqObj "tuple" us.toArray 0)).push (seqObj "list" #[] 0) }
  dsimp only
  by_cases hs : us.toArray.size < 2
  · rw [if_pos hs, if_pos hs]
    refine wpAny_bind (wpAny_pure ?_)
    rw [StateT.run_pure]
    refine wpAny_bind (wpAny_pure ?_)
    dsimp only
    have ea : Array.map (fun x => x.2) (us.toArray.zip us.toArray) = us.toArray := by
      apply Array.toList_inj.mp
      simp [List.map_snd_zip]
    refine wpAny_bind (seqEpoch_at h2 rfl (wpAny_bind (listUpdate_at h2 rfl ?_ (Nat.zero_le _) ?_)))
    · simp only [bne_self_eq_false, Bool.false_eq_true, if_false]
      refine wpAny_pure ?_
      have := few (by simpa using hs)
      show P _ { s with heap := sortedHeap s.heap a us (Array.map (fun x => x.2) (us.toArray.zip us.toArray)) }
      rw [ea]; exact this
    · show (Array.map (fun x => x.2) (us.toArray.zip us.toArray)).size ≤ _
      rw [ea]; exact Nat.le_succ_of_le z1
  · rw [if_neg hs, if_neg hs]
    have h2' : 2 ≤ us.length := by simpa using hs
    refine wpAny_bind (wpAny_mono (many h2' _ kp) (fun κ t ⟨et, ht⟩ => ?_) fun _ _ x => x.elim)
    subst et
    refine wpAny_bind (wpAny_mono (kat_run (ks := us) (vs := us) (G := fun p t' => t' = _ ∧ P (.done (.ret .none)) { s with heap := sortedHeap s.heap a us (List.toArray (p.toList.map fun i => us.getD i Value.none)) })
      (Q := fun st t' => t' = _ ∧ failedOf st = none ∧ ∃ p : Array Nat, p.size = us.length ∧ (arrOf st).map (·.2) = List.toArray (p.toList.map fun i => us.getD i Value.none) ∧ P (.done (.ret .none)) { s with heap := sortedHeap s.heap a us (List.toArray (p.toList.map fun i => us.getD i Value.none)) })
      rfl h2' hz (fun p st t' a1 a2 a3 a4 => ⟨a4.1, a3, p, a1, kat_snds rfl a2, a4.2⟩) ht) (fun r t' hr => ?_) fun _ _ x => x)
    obtain ⟨u, st⟩ := r
    obtain ⟨e1, hf, p, hp, ho', hP⟩ := hr
    subst e1
    dsimp only at hf ho' ⊢
    rw [ho', hf]
    have zz : (List.toArray (p.toList.map fun i => us.getD i Value.none)).size ≤ sizeLine := by rw [List.size_toArray, List.length_map, Array.length_toList, hp, sizeLine_eq]; omega
    refine wpAny_bind (seqEpoch_at h2 rfl (wpAny_bind (listUpdate_at h2 rfl ?_ (Nat.zero_le _) (Nat.le_succ_of_le zz))))
    simp only [bne_self_eq_false, Bool.false_eq_true, if_false]
    exact wpAny_pure hP
theorem collect_of {l : Addr} {T : String} {o : Obj} {us : List Value} {n : Nat} {Q : List Value → Shared → Prop} (hT : T = "list" ∨ T = "tuple") (ho : s.heap.get? l = some o) (hc : o.cls = .type T) (hd : o.data = .seq us.toArray n) (hz : us.length < 64)
    (q : ∀ g : Heap, (∀ b u, s.heap.get? b = some u → g.get? b = some u) → s.heap.objs.size ≤ g.objs.size → Q us { s with heap := g }) : wpAny (model prog w) A (collect (.ref l)) Q E s := by
  have z : us.toArray.size ≤ sizeLine := by rw [List.size_toArray, sizeLine_eq]; omega
  have hN : (s.heap.push { cls := .type "list", data := .seq ([] : List Value).toArray }).get? s.heap.objs.size = some { cls := .type "list", data := .seq #[] 0 } := Heap.get?_push_size _ rfl
  have hU := Heap.get?_update_self (Obj.mapSeq (· ++ us.toArray)) hN rfl
  have last : wpAny (model prog w) A (do
      match (← load s.heap.objs.size).data with
        | Data.seq xs _ => pure xs.toList
        | _ => unsupported "internal:collect") Q E { s with heap := (s.heap.push { cls := .type "list", data := .seq ([] : List Value).toArray }).update s.heap.objs.size (Obj.mapSeq (· ++ us.toArray)) } := by
    refine wpAny_bind (wpAny_load hU (wpAny_pure ?_))
    show Q ((#[] : Array Value) ++ us.toArray).toList _
    rw [show ((#[] : Array Value) ++ us.toArray).toList = us by simp]
    refine q _ (fun b u e => (Heap.get?_update_other _ _ (Nat.ne_of_gt (Heap.lt_size e))).trans (Heap.get?_push_of_some _ e)) ?_
    rw [Heap.size_update, Heap.size_push]; exact Nat.le_succ _
  unfold collect
  refine wpAny_bind (wpAny_runValue (codeAny_builtin F.entry_proto_collect ?_))
  rw [Around.under_plainId F.plain_proto_collect _]
  show wpAny _ A.in1 (newList [] >>= fun r => again (.builtin "list.__iadd__" ⟨[r, .ref l], []⟩)) _ _ s
  refine wpAny_bind (wpAny_newObj_type (wpAny_pure ⟨plainId_quiet F.plain_list_iadd _, codeAny_builtin F.entry_list_iadd ?_⟩))
  rw [Around.under_plainId F.plain_list_iadd _]
  show wpAny _ A.in1 (Builtin.List.listExtendWith (.ref s.heap.objs.size) (.ref l) (.ref s.heap.objs.size)) _ _ _
  have ext := wpAny_extend_seq (prog := prog) (w := w) (A := A) (hsz := z) (R := fun r t => r = .ok (.ret (.ref s.heap.objs.size)) ∧ t = { s with heap := (s.heap.push { cls := .type "list", data := .seq ([] : List Value).toArray }).update s.heap.objs.size (Obj.mapSeq (· ++ us.toArray)) })
    (s := { s with heap := s.heap.push { cls := .type "list", data := .seq ([] : List Value).toArray } }) _ l (.ref s.heap.objs.size) 0 hT hN (Heap.get?_push_of_some _ ho) hc hd ⟨rfl, rfl⟩
  refine wpAny_mono ext (fun fin t h => ?_) (fun e t h => absurd h.1 (by simp))
  cases fin with
  | done f => obtain ⟨e, rfl⟩ := h; cases e; exact last
  | again c => exact ⟨h.1, codeAny_mono h.2 fun r t' hr => by obtain ⟨rfl, rfl⟩ := hr; exact last⟩
theorem sorted_asked {l : Addr} {T : String} {o : Obj} {us : List Value} {n : Nat} {Q : Value → Shared → Prop} {G : List Nat → Prop} (hT : T = "list" ∨ T = "tuple") (ho : s.heap.get? l = some o) (hc : o.cls = .type T) (hd : o.data = .seq us.toArray n) (hz : us.length < 64)
    (few : us.length < 2 → G (List.range us.length))
    (many : 2 ≤ us.length → ∀ g : Heap, (∀ c o, s.heap.get? c = some o → g.get? c = some o) → wpAny (model prog w) A.in1.in1 (keyKind' us.toArray) (fun κ t => t = { s with heap := g } ∧
      (kas_sort us.length).kasWp (kas_ask prog w A.in1.in1 κ us) (fun p t' => t' = t ∧ G p.toList) t) (fun _ _ => False) { s with heap := g })
    (fin : ∀ (g : Heap) (a e : Nat) (ix : List Nat), (∀ c o, s.heap.get? c = some o → g.get? c = some o) → s.heap.objs.size ≤ a → G ix → g.get? a = some (seqObj "list" (List.toArray (ix.map fun i => us.getD i Value.none)) e) → Q (.ref a) { s with heap := g }) :
    wpAny (model prog w) A (call (.builtin "sorted") [.ref l]) Q E s := by
  refine Calls.call_function_entry kind_sorted plain_sorted entry_sorted (args_sorted1 _) ?_
  unfold Builtin.«sorted»
  refine wpAny_bind (m := checkCount "sorted" 1 1 _) (wpAny_pure (wpAny_bind (collect_of hT ho hc hd hz fun g kg sg => ?_)))
  refine wpAny_bind (wpAny_newList ?_ (by rw [sizeLine_eq]; omega))
  have hL : (g.push (seqObj "list" us.toArray 0)).get? g.objs.size = some (seqObj "list" us.toArray 0) := Heap.get?_push_size _ rfl
  show wpAny _ _ _ _ _ { s with heap := g.push (seqObj "list" us.toArray 0) }
  have end_ : ∀ ix : List Nat, G ix → Q (.ref g.objs.size) { s with heap := sortedHeap (g.push (seqObj "list" us.toArray 0)) g.objs.size us (List.toArray (ix.map fun i => us.getD i Value.none)) } := fun ix hG => by
    obtain ⟨e, he⟩ := sortedHeap_at (out := List.toArray (ix.map fun i => us.getD i Value.none)) hL
    refine fin _ g.objs.size e ix (fun c u hu => ?_) sg hG he
    have lt := Heap.lt_size (kg c u hu)
    rw [sortedHeap_old (Nat.ne_of_lt lt) (by rw [size_push']; exact Nat.lt_succ_of_lt lt)]
    exact Heap.get?_push_of_some _ (kg c u hu)
  refine wpAny_bind (wpAny_holding (wpAny_call_entry slot_list_sort ⟨_, hL, rfl⟩ entry_list_sort (sort_asked (P := fun f t => ∃ v, f = .done (.ret v) ∧ wpAny (model prog w) A.in1 (pure (PySem.Fin.done (.ret (Value.ref g.objs.size)))) (fun f t => ∃ v, f = .done (.ret v) ∧ Q v t) E t) hL hz (fun h => ?_) (fun h g' kg' => ?_)) (args_list_sort _)))
  · have e := end_ (List.range us.length) (few h)
    rw [show (List.range us.length).map (fun i => us.getD i Value.none) = us from List.ext_getElem? fun i => by
      by_cases hi : i < us.length
      · simp [hi]
      · simp [hi]] at e
    exact ⟨_, rfl, wpAny_pure ⟨_, rfl, e⟩⟩
  · refine wpAny_mono (many h g' fun c u hu => kg' c u (Nat.ne_of_lt (Heap.lt_size (kg c u hu))) (Heap.get?_push_of_some _ (kg c u hu))) (fun κ t ⟨et, ht⟩ => ⟨et, ?_⟩) fun _ _ x => x
    rw [kat_ask_eq rfl] at ht ⊢
    exact kas_wp_mono ht fun p t' ⟨e1, hG⟩ => ⟨e1, _, rfl, wpAny_pure ⟨_, rfl, end_ _ hG⟩⟩
end
end L2
set_option Elab.async false
set_option linter.all false
set_option maxRecDepth 100000
namespace L2
open PySem PySem.W PySem.Spec PyProof.Rows
def lexB : List Int → List Int → Bool
  | _, [] => false
  | [], _ :: _ => true
  | x :: xs, y :: ys => if x = y then lexB xs ys else decide (x < y)
def ltI (x y : Int) : Bool := decide (x < y)
structure Lt {α : Type} (lt : α → α → Bool) : Prop where
  tr : ∀ {a b c : α}, lt b a = false → lt c b = false → lt c a = false
  as : ∀ {a b : α}, lt a b = true → lt b a = false
  eq : ∀ {a b : α}, lt a b = false → lt b a = false → a = b
theorem lt_I : Lt ltI := ⟨fun h1 h2 => by simp only [ltI, decide_eq_false_iff_not] at *; omega, fun h => by simp only [ltI, decide_eq_false_iff_not, decide_eq_true_eq] at *; omega, fun h1 h2 => by simp only [ltI, decide_eq_false_iff_not] at *; omega⟩
theorem lexB_as : ∀ {a b : List Int}, lexB a b = true → lexB b a = false
  | [], [], h => by simp [lexB] at h
  | x :: xs, [], h => by simp [lexB] at h
  | [], y :: ys, h => by simp [lexB]
  | x :: xs, y :: ys, h => by
    unfold lexB at h ⊢
    by_cases e : x = y
    · subst e; simp only [if_true] at h ⊢; exact lexB_as h
    · rw [if_neg e] at h; rw [if_neg (Ne.symm e)]; simp only [decide_eq_true_eq, decide_eq_false_iff_not] at *; omega
theorem lexB_eq : ∀ {a b : List Int}, lexB a b = false → lexB b a = false → a = b
  | [], [], _, _ => rfl
  | x :: xs, [], _, h => by simp [lexB] at h
  | [], y :: ys, h, _ => by simp [lexB] at h
  | x :: xs, y :: ys, h, h' => by
    unfold lexB at h h'
    by_cases e : x = y
    · subst e; simp only [if_true] at h h'; rw [lexB_eq h h']
    · rw [if_neg e] at h; rw [if_neg (Ne.symm e)] at h'; simp only [decide_eq_false_iff_not] at *; omega
theorem lexB_tr : ∀ {a b c : List Int}, lexB b a = false → lexB c b = false → lexB c a = false
  | [], _, _, _, _ => by unfold lexB; rfl
  | x :: xs, [], _, h, _ => by simp [lexB] at h
  | x :: xs, y :: ys, [], _, h => by simp [lexB] at h
  | x :: xs, y :: ys, z :: zs, h1, h2 => by
    unfold lexB at h1 h2 ⊢
    by_cases e1 : y = x
    · subst e1
      simp only [if_true] at h1
      by_cases e2 : z = y
      · subst e2; simp only [if_true] at h2 ⊢; exact lexB_tr h1 h2
      · rw [if_neg e2] at h2 ⊢; exact h2
    · rw [if_neg e1] at h1
      by_cases e2 : z = y
      · subst e2; rw [if_neg e1]; exact h1
      · rw [if_neg e2] at h2
        simp only [decide_eq_false_iff_not] at h1 h2
        rw [if_neg (by omega)]
        simp only [decide_eq_false_iff_not]; omega
theorem lt_L : Lt lexB := ⟨lexB_tr, lexB_as, lexB_eq⟩
def insG {α : Type} (lt : α → α → Bool) (x : α) : List α → List α
  | [] => [x]
  | y :: r => if lt x y = true then x :: y :: r else y :: insG lt x r
def isortG {α : Type} (lt : α → α → Bool) : List α → List α
  | [] => []
  | x :: r => insG lt x (isortG lt r)
section
variable {α : Type} {lt : α → α → Bool}
theorem insG_perm (x : α) : ∀ l : List α, (insG lt x l).Perm (x :: l)
  | [] => .refl _
  | y :: r => by
    unfold insG
    split
    · exact .refl _
    · exact ((insG_perm x r).cons y).trans (.swap _ _ _)
theorem isortG_perm : ∀ l : List α, (isortG lt l).Perm l
  | [] => .refl _
  | x :: r => (insG_perm x _).trans ((isortG_perm r).cons x)
theorem insG_pw (O : Lt lt) (x : α) : ∀ {l : List α}, l.Pairwise (fun a b => lt b a = false) → (insG lt x l).Pairwise (fun a b => lt b a = false)
  | [], _ => by simp [insG]
  | y :: r, h => by
    obtain ⟨h1, h2⟩ := List.pairwise_cons.mp h
    unfold insG
    split
    · rename_i e
      refine List.pairwise_cons.mpr ⟨fun z hz => ?_, h⟩
      rcases List.mem_cons.mp hz with rfl | hz
      · exact O.as e
      · exact O.tr (O.as e) (h1 z hz)
    · rename_i e
      refine List.pairwise_cons.mpr ⟨fun z hz => ?_, insG_pw O x h2⟩
      rcases List.mem_cons.mp ((insG_perm x r).mem_iff.mp hz) with rfl | hz
      · simpa using e
      · exact h1 z hz
theorem isortG_pw (O : Lt lt) : ∀ l : List α, (isortG lt l).Pairwise (fun a b => lt b a = false)
  | [] => .nil
  | x :: r => insG_pw O x (isortG_pw O r)
theorem isortG_eq (O : Lt lt) {l l' : List α} (p : l'.Perm l) (s : l'.Pairwise (fun a b => lt b a = false)) : l' = isortG lt l :=
  List.Perm.eq_of_pairwise (fun a b _ _ h1 h2 => O.eq h2 h1) s (isortG_pw O l) (p.trans (isortG_perm l).symm)
theorem range_getD (ts : List α) (d : α) : (List.range ts.length).map (fun i => ts.getD i d) = ts := List.ext_getElem? fun i => by
  by_cases hi : i < ts.length
  · simp [hi]
  · simp [hi]
theorem pick_sorted (O : Lt lt) {ts : List α} {d : α} {p : Array Nat} (P : Pm ts.length p) (S : Srt (fun i j => lt (ts.getD i d) (ts.getD j d)) p ts.length) : p.toList.map (fun i => ts.getD i d) = isortG lt ts := by
  refine isortG_eq O ?_ ?_
  · have h1 : p.toList.Perm (List.range ts.length) := by simpa using (Array.perm_iff_toList_perm.mp P.perm)
    have h2 := h1.map (fun i => ts.getD i d)
    rw [range_getD] at h2
    exact h2
  · rw [List.pairwise_map, List.pairwise_iff_getElem]
    intro i j hi hj hij
    have hz := P.size
    have e := S i j (by omega) (by simpa [hz] using hj)
    have g : ∀ k (hk : k < p.toList.length), p.getD k 0 = p.toList[k] := fun k hk => by
      have : k < p.size := by simpa using hk
      simp [Array.getD, this]
    rw [g i hi, g j hj] at e
    exact e
theorem od_of (O : Lt lt) (f : Nat → α) : Od (fun i j => lt (f i) (f j)) := ⟨fun h1 h2 => O.tr h1 h2, fun h => O.as h⟩
end
def keyD : D → Option (List Int)
  | .tup ds => match intsD ds with
    | some (x :: r) => some (x :: r)
    | _ => none
  | _ => none
def keysD : List D → Option (List (List Int))
  | [] => some []
  | d :: r => (keyD d).bind fun k => (keysD r).map (k :: ·)
def tpI (k : List Int) : D := .tup (k.map D.int)
def sortD (ds : List D) : Option (List D) := if ds.length < 64 then match intsD ds with
  | some ns => some ((isortG ltI ns).map D.int)
  | none => (keysD ds).map fun ks => (isortG lexB ks).map tpI else none
theorem intsD_of (ns : List Int) : intsD (ns.map D.int) = some ns := by
  induction ns with
  | nil => rfl
  | cons n ns ih => show (intsD (ns.map D.int)).map (n :: ·) = _; rw [ih]; rfl
theorem keyD_eq {d : D} {k : List Int} (h : keyD d = some k) : d = tpI k ∧ k ≠ [] := by
  unfold keyD at h
  split at h
  · split at h
    · rename_i e; cases h; rw [intsD_eq e]; exact ⟨rfl, by simp⟩
    · cases h
  · cases h
theorem keyD_of {k : List Int} (h : k ≠ []) : keyD (tpI k) = some k := by
  unfold keyD tpI
  dsimp only
  rw [intsD_of]
  cases k with
  | nil => exact absurd rfl h
  | cons x r => rfl
theorem keysD_eq : ∀ {ds : List D} {ks : List (List Int)}, keysD ds = some ks → ds = ks.map tpI ∧ ∀ k ∈ ks, k ≠ []
  | [], _, h => by cases h; exact ⟨rfl, fun _ h => nomatch h⟩
  | d :: r, ks, h => by
    unfold keysD at h
    cases e1 : keyD d with
    | none => rw [e1] at h; cases h
    | some k =>
      rw [e1] at h
      cases e2 : keysD r with
      | none => rw [e2] at h; cases h
      | some l =>
        rw [e2] at h; cases h
        obtain ⟨h1, h2⟩ := keyD_eq e1
        obtain ⟨h3, h4⟩ := keysD_eq e2
        refine ⟨by rw [h1, h3]; rfl, fun z hz => ?_⟩
        rcases List.mem_cons.mp hz with rfl | hz
        · exact h2
        · exact h4 z hz
theorem keysD_of : ∀ {ks : List (List Int)}, (∀ k ∈ ks, k ≠ []) → keysD (ks.map tpI) = some ks
  | [], _ => rfl
  | k :: r, h => by
    show (keyD (tpI k)).bind (fun k' => (keysD (r.map tpI)).map (k' :: ·)) = _
    rw [keyD_of (h k (by simp)), keysD_of fun z hz => h z (by simp [hz])]
    rfl
theorem intsD_tup {k : List Int} {ks : List (List Int)} : intsD ((k :: ks).map tpI) = none := rfl
theorem isortG_short {α : Type} {lt : α → α → Bool} {l : List α} (h : l.length < 2) : isortG lt l = l := by
  match l, h with
  | [], _ => rfl
  | [_], _ => rfl
end L2
set_option Elab.async false
set_option linter.all false
set_option maxRecDepth 100000
namespace L2
open PySem PySem.W PySem.Spec PyProof.Rows
theorem vals_getD {xs : List V} {us : List Value} (r : Vals xs us) (i : Nat) : RelV (xs.getD i .non) (us.getD i Value.none) := by
  cases e : xs[i]? with
  | none =>
    have hl := r.length
    have : us[i]? = none := by simp at e ⊢; omega
    simp [List.getD, e, this]; rfl
  | some x =>
    obtain ⟨u, h1, h2⟩ := r.get e
    simp [List.getD, e, h1]; exact h2
theorem vals_pick {xs : List V} {us : List Value} (r : Vals xs us) : ∀ ix : List Nat, Vals (ix.map fun i => xs.getD i .non) (ix.map fun i => us.getD i Value.none)
  | [] => .nil
  | i :: l => .cons (vals_getD r i) (vals_pick r l)
theorem reps_getD {K : PySem.W.Frag} {F : Hp} {xs : List V} {ds : List D} (r : Reps K F xs ds) (i : Nat) : Rep K F (xs.getD i .non) (ds.getD i .non) := by
  cases e : ds[i]? with
  | none =>
    have hl := r.length
    have : xs[i]? = none := by simp at e ⊢; omega
    simp [List.getD, e, this]; exact .non
  | some x =>
    obtain ⟨u, h1, h2⟩ := r.get e
    simp [List.getD, e, h1]; exact h2
theorem reps_pick {K : PySem.W.Frag} {F : Hp} {xs : List V} {ds : List D} (r : Reps K F xs ds) : ∀ ix : List Nat, Reps K F (ix.map fun i => xs.getD i .non) (ix.map fun i => ds.getD i .non)
  | [] => .nil
  | i :: l => .cons (reps_getD r i) (reps_pick r l)
def IntV : List Value → List Int → Prop := Paired fun u i => ∃ t, u = Value.int i t
theorem intV_of {K : PySem.W.Frag} {F : Hp} : ∀ {xs : List V} {us : List Value} {ns : List Int}, Vals xs us → Reps K F xs (ns.map D.int) → IntV us ns
  | _, _, [], r, p => by cases p; cases r; exact .nil
  | _, _, n :: ns, r, p => by
    cases p with
    | cons p1 p2 => cases r with
      | cons r1 r2 => cases p1; exact .cons r1 (intV_of r2 p2)
theorem intV_get : ∀ {us : List Value} {ns : List Int} {i : Nat} {u : Value}, IntV us ns → us[i]? = some u → ∃ n, ns[i]? = some n ∧ ∃ t, u = Value.int n t
  | _, _, _, _, .nil, e => by simp at e
  | _, _, 0, _, .cons h _, e => by simp at e; subst e; exact ⟨_, rfl, h⟩
  | _, _, i + 1, u, .cons _ r, e => by
    obtain ⟨n, h1, h2⟩ := intV_get (i := i) (u := u) r (by simpa using e)
    exact ⟨n, by simpa using h1, h2⟩
section
variable {prog : Program} {w : World} {A : Around} {s : Shared} {b fin : Bool} {Q : Bool → Shared → Prop}
theorem lex_ask : ∀ {us ws : List Value} {ns ms : List Int} (i : Nat), IntV us ns → IntV ws ms → fin = decide (ns.length < ms.length) → Q (lexB ns ms) s → KatLex prog w A b fin Q (us.zip ws) i s
  | _, _, [], [], i, .nil, .nil, e, q => by subst e; exact kat_nil q
  | _, _, [], m :: ms, i, .nil, .cons _ _, e, q => by subst e; simp only [List.zip_nil_left]; refine kat_nil ?_; simpa [lexB] using q
  | _, _, n :: ns, [], i, .cons _ _, .nil, e, q => by subst e; simp only [List.zip_nil_right]; refine kat_nil ?_; simpa [lexB] using q
  | _, _, n :: ns, m :: ms, i, .cons h1 r1, .cons h2 r2, e, q => by
    obtain ⟨t, rfl⟩ := h1
    obtain ⟨t', rfl⟩ := h2
    rw [List.zip_cons_cons]
    refine kat_cons (wpAny_eqBool_int (kat_go (fun he => ?_) fun he => ?_))
    · have : n = m := by simpa using he
      subst this
      refine kat_yes (lex_ask (i + 1) r1 r2 (by rw [e]; simp) ?_)
      simpa [lexB] using q
    · have : n ≠ m := by simpa using he
      have q' : Q (decide (n < m)) s := by simpa [lexB, this] using q
      refine kat_no ?_
      cases (b && i == 0) with
      | true => exact oneLt_int q'
      | false => exact kat_one _ _ (lt_int q')
end
theorem call_sorted {X : Cx} : CallR X (.builtin "sorted") (fun xs H Q => ∃ a ys ds es, xs = [.ref a] ∧ (SqL X.K H a ys ∨ SqT X.K H a ys) ∧ Reps X.K H ys ds ∧ sortD ds = some es ∧
    ∀ (l : Addr) (ix : List Nat), H l = none → ix.length = ds.length → ix.map (fun i => ds.getD i .non) = es → Q (.ref l) (upd H l (.lst (ix.map fun i => ys.getD i .non)))) := by
  intro pins s σ H xs us Q I r h
  obtain ⟨a, ys, ds, es, rfl, hsq, rp, hs, q⟩ := h
  obtain ⟨u, rfl, rx⟩ := vals1 r
  cases rx
  obtain ⟨its, T, o, n, rv, hT, ho, hc, hd⟩ : ∃ (its : List Value) (T : String) (o : Obj) (n : Nat), Vals ys its ∧ (T = "list" ∨ T = "tuple") ∧ s.heap.get? a = some o ∧ o.cls = .type T ∧ o.data = .seq its.toArray n := by
    rcases hsq with hq | hq
    · obtain ⟨its, r', pl, hz⟩ := I.list hq
      obtain ⟨o, ho, hc, n, hd⟩ := pl.isList
      exact ⟨its, "list", o, n, r', .inl rfl, ho, hc, hd⟩
    · obtain ⟨its, r', pl, hz⟩ := I.tuple hq
      obtain ⟨o, ho, hc, n, hd⟩ := pl
      exact ⟨its, "tuple", o, n, r', .inr rfl, ho, hc, hd⟩
  have l1 := rv.length
  have l2 := rp.length
  have h64 : ds.length < 64 := by
    unfold sortD at hs
    split at hs
    · assumption
    · cases hs
  unfold sortD at hs
  rw [if_pos h64] at hs
  refine sorted_asked (G := fun ix => ix.length = ds.length ∧ ix.map (fun i => ds.getD i .non) = es) hT ho hc hd (by omega) (fun few => ⟨by simp; omega, ?_⟩) (fun h2 g kg => ?_) (fun g p e ix kg hp hG hg => ?_)
  · rw [show its.length = ds.length by omega, range_getD]
    cases e1 : intsD ds with
    | some ns =>
      rw [e1] at hs; cases hs
      have := intsD_eq e1
      subst this
      rw [isortG_short (by simp at l2; omega)]
    | none =>
      rw [e1] at hs
      cases e2 : keysD ds with
      | none => rw [e2] at hs; cases hs
      | some ks =>
        rw [e2] at hs; cases hs
        obtain ⟨h3, _⟩ := keysD_eq e2
        subst h3
        dsimp only
        rw [isortG_short (by simp at l2; omega)]
  · cases e1 : intsD ds with
    | some ns =>
      rw [e1] at hs; cases hs
      have e0 := intsD_eq e1
      subst e0
      have hv := intV_of rv rp
      have hl : its.length = ns.length := by simp at l2; omega
      have gi : ∀ i, i < ns.length → ∃ t, its.getD i Value.none = Value.int (ns.getD i 0) t := fun i hi => by
        have e2 : its[i]? = some its[i] := List.getElem?_eq_getElem (by omega)
        obtain ⟨m, e3, t, e4⟩ := intV_get hv e2
        refine ⟨t, ?_⟩
        simp [List.getD, e2, e3, e4]
      refine kas_kind (T := .type "int") h2 (fun v hv' => ?_) (by rfl) (by rfl) ⟨rfl, ?_⟩
      · obtain ⟨i, hi, rfl⟩ := List.getElem_of_mem hv'
        obtain ⟨t, e⟩ := gi i (by omega)
        have : its[i] = its.getD i Value.none := by simp [List.getD, List.getElem?_eq_getElem hi]
        rw [this, e]
        exact Looks.now
      · rw [hl]
        refine sort_wp (b := fun i j => ltI (ns.getD i 0) (ns.getD j 0)) (od_of lt_I _) (by omega) (fun i j C hi hj hC => ?_) fun p P S => ⟨rfl, ?_, ?_⟩
        · obtain ⟨t, e⟩ := gi i hi
          obtain ⟨t', e'⟩ := gi j hj
          unfold kas_ask
          rw [e, e']
          exact kat_lt_int hC
        · rw [Array.length_toList, P.size]; simp
        · have := congrArg (List.map D.int) (pick_sorted lt_I P S)
          rw [← this, List.map_map]
          refine List.map_congr_left fun i hi => ?_
          have : i < ns.length := by
            have := P.perm.mem_iff.mp (Array.mem_toList_iff.mp hi)
            simpa using this
          simp [List.getD, List.getElem?_eq_getElem this]
    | none =>
      rw [e1] at hs
      cases e2 : keysD ds with
      | none => rw [e2] at hs; cases hs
      | some ks =>
        rw [e2] at hs; cases hs
        obtain ⟨h3, h4⟩ := keysD_eq e2
        subst h3
        have hl : its.length = ks.length := by simp at l2; omega
        have gi : ∀ i, i < ks.length → ∃ (b : Addr) (o : Obj) (ts : List Value) (n : Nat), its.getD i Value.none = .ref b ∧ s.heap.get? b = some o ∧ o.cls = .type "tuple" ∧ o.data = .seq ts.toArray n ∧ IntV ts (ks.getD i []) := fun i hi => by
          have r1 := vals_getD rv i
          have r2 := reps_getD rp i
          have e3 : (ks.map tpI).getD i .non = .tup ((ks.getD i []).map D.int) := by simp [List.getD, List.getElem?_eq_getElem hi, tpI]
          rw [e3] at r2
          generalize hx : ys.getD i .non = x at r1 r2
          cases r2 with
          | tup q1 q2 =>
            obtain ⟨ts, r', ⟨o, ho, hc, n, hd⟩, _⟩ := I.tuple q1
            exact ⟨_, o, ts, n, r1, ho, hc, hd, intV_of r' q2⟩
        have kt : ∀ (l : List Value) (ms : List (List Int)), l.length = ms.length → (∀ i, i < ms.length → ∃ (b : Addr) (o : Obj) (ts : List Value) (n : Nat), l.getD i Value.none = .ref b ∧ s.heap.get? b = some o ∧ o.cls = .type "tuple" ∧ o.data = .seq ts.toArray n ∧ IntV ts (ms.getD i [])) → (∀ k ∈ ms, k ≠ []) →
            ∃ fs, KatTups g l fs ∧ fs.length = l.length ∧ ∀ v ∈ fs, ∃ i t, v = Value.int i t := by
          intro l
          induction l with
          | nil => intro ms _ _ _; exact ⟨[], .nil, rfl, fun _ h => nomatch h⟩
          | cons v l ih =>
            intro ms hl hg hk
            cases ms with
            | nil => cases hl
            | cons m ms =>
              obtain ⟨fs, f1, f2, f3⟩ := ih ms (by simpa using hl) (fun i hi => by simpa using hg (i + 1) (by simpa using hi)) fun k hk' => hk k (by simp [hk'])
              obtain ⟨b, o, ts, n, g1, g2, g3, g4, g5⟩ := hg 0 (by simp)
              simp [List.getD] at g1 g5
              subst g1
              cases m with
              | nil => exact absurd rfl (hk [] (by simp))
              | cons x xs =>
                cases g5 with
                | cons y1 y2 =>
                  obtain ⟨t, rfl⟩ := y1
                  refine ⟨_, KatTups.cons (kg _ _ g2) g3 g4 (by simp; rfl) f1, by simp [f2], fun v hv => ?_⟩
                  rcases List.mem_cons.mp hv with rfl | hv
                  · exact ⟨_, _, rfl⟩
                  · exact f3 v hv
        obtain ⟨fs, f1, f2, f3⟩ := kt its ks hl gi h4
        refine kat_kind (T := .type "int") f1 (by omega) (fun v hv => ?_) (by rfl) ⟨rfl, ?_⟩
        · obtain ⟨i, t, rfl⟩ := f3 v hv; exact Looks.now
        · rw [hl]
          refine sort_wp (b := fun i j => lexB (ks.getD i []) (ks.getD j [])) (od_of lt_L _) (by omega) (fun i j C hi hj hC => ?_) fun p P S => ⟨rfl, ?_, ?_⟩
          · obtain ⟨b1, o1, ts1, n1, x1, x2, x3, x4, x5⟩ := gi i hi
            obtain ⟨b2, o2, ts2, n2, y1, y2, y3, y4, y5⟩ := gi j hj
            unfold kas_ask
            rw [x1, y1]
            refine kat_lt (kg _ _ x2) x4 (kg _ _ y2) y4 ?_
            refine lex_ask 0 x5 y5 ?_ hC
            have z1 := Paired.length x5
            have z2 := Paired.length y5
            simp [z1, z2]
          · rw [Array.length_toList, P.size]; simp
          · have := congrArg (List.map tpI) (pick_sorted lt_L P S)
            dsimp only
            rw [← this, List.map_map]
            refine List.map_congr_left fun i hi => ?_
            have : i < ks.length := by
              have := P.perm.mem_iff.mp (Array.mem_toList_iff.mp hi)
              simpa using this
            simp [List.getD, List.getElem?_eq_getElem this]
  · refine ⟨.ref p, _, I.laid (t' := s.toks) kg hp (show ObjOk X.prog X.w _ g _ (.lst (ix.map fun i => ys.getD i .non)) from ⟨?_, _, e, vals_pick rv ix, hg⟩), rfl, q _ ix (I.hok.fresh hp) hG.1 hG.2⟩
    rw [List.length_map, hG.1, sizeLine_eq]; omega
def sortedF : List D → Option D
  | [.lst ds] => (sortD ds).map D.lst
  | [.tup ds] => (sortD ds).map D.lst
  | _ => none
theorem cd_sorted {K : PySem.W.Frag} : CallD K .n (fun xs H Q => ∃ a ys ds es, xs = [.ref a] ∧ (SqL K H a ys ∨ SqT K H a ys) ∧ Reps K H ys ds ∧ sortD ds = some es ∧
    ∀ (l : Addr) (ix : List Nat), H l = none → ix.length = ds.length → ix.map (fun i => ds.getD i .non) = es → Q (.ref l) (upd H l (.lst (ix.map fun i => ys.getD i .non)))) sortedF := by
  intro H hid vs ds d Q hf h r q
  unfold sortedF at h
  split at h
  · rename_i zs
    cases e : sortD zs with
    | none => rw [e] at h; cases h
    | some es =>
      rw [e] at h; cases h
      obtain ⟨x, rfl, r1⟩ := Reps1.one r
      obtain ⟨a, xs, rfl, h1, h2⟩ := r1.lst
      refine ⟨a, xs, zs, es, rfl, .inl h1, h2.mono (vw_le _ _), e, fun l ix hl _ he => q _ _ (same_new hl _) (rn_new hl (Same.refl _) ?_)⟩
      rw [← he]; exact reps_pick h2 ix
  · rename_i zs
    cases e : sortD zs with
    | none => rw [e] at h; cases h
    | some es =>
      rw [e] at h; cases h
      obtain ⟨x, rfl, r1⟩ := Reps1.one r
      obtain ⟨a, xs, rfl, _, h1, h2⟩ := r1.tup
      refine ⟨a, xs, zs, es, rfl, .inr h1, h2.mono (vw_le _ _), e, fun l ix hl _ he => q _ _ (same_new hl _) (rn_new hl (Same.refl _) ?_)⟩
      rw [← he]; exact reps_pick h2 ix
  · cases h
end L2
set_option Elab.async false
set_option linter.all false
set_option maxRecDepth 100000
namespace L2
open PySem PySem.Spec PyProof.Rows
section
variable {X : Cx} {c : Ct} {e a b : Expr} {es rest : List Expr} {f g : GE} {fs : GA} {k : Kd} {pos p : Pos} {x : Str} {id T : String} {r : List V → Hp → VK → Prop} {F : List D → Option D} {ps : List Str} {j n : Nat}
theorem Reps.b1 {K : PySem.W.Frag} {H W : Hp} : ∀ {vs : List V} {ds : List D}, Reps K W vs ds → Reps1 K H W vs ds
  | _, _, .nil => .nil
  | _, _, .cons r t => .cons (.inl r) (Reps.b1 t)
def callG (F : List D → Option D) (fs : GA) : GE := fun ρ => (fs ρ).bind fun q => (F q.1).map fun d => (d, q.2)
theorem callG_some {F : List D → Option D} {ρ ρ' : Rho} {d : D} (h : callG F fs ρ = some (d, ρ')) : ∃ ds, fs ρ = some (ds, ρ') ∧ F ds = some d := by
  unfold callG at h
  cases e : fs ρ with
  | none => rw [e] at h; cases h
  | some q =>
    rw [e] at h
    dsimp only [Option.bind] at h
    cases e2 : F q.1 with
    | none => rw [e2] at h; cases h
    | some z => rw [e2] at h; cases h; exact ⟨q.1, rfl, e2⟩
theorem rdCG {hid : Hid} {ρ : Rho} (hF : CallD X.K k r F) (hk : k ≠ .b) {σ : St} {H : Hp} {Q : VK} (h : rdE X.K c hid k (callG F fs) ρ σ H Q) : tCB r (rdG X.K c hid fs ρ) σ H Q := by
  obtain ⟨sr, d, ρ', hd, q⟩ := h
  obtain ⟨ds, e1, e2⟩ := callG_some hd
  exact ⟨sr, ds, ρ', e1, fun vs H1 k1 s1 r1 => hF H1 hid vs ds d Q (fun a n => s1.fresh n) e2 r1.b1 fun w H' s2 r2 => q w H' (PostE.left k1 (s1.post s2 r2 hk))⟩
theorem de_callTy (hc : CallR X (.type T) r) (hF : CallD X.K k r F) (hm : X.mg x = none) (ha : DG X c (e :: es) fs) (hk : k ≠ .b := by decide) (hg : Gl X x := by rfl) (hv : bootBuiltins x = some (.type T) := by kernel_rfl) (hn : x ≠ "__name__" := by decide) (hdb : (x == ("__debug__" : Str)) = false := by decide)
    (he : starEach (e :: es) X.env = (false, eval e X.env) :: starEach es X.env := by rfl) (hpl : (backTo pos (starEach es X.env)).any (·.1) = false := by rfl) : DE X c k (.Call (.Name x p) (e :: es) [] pos) (callG F fs) := fun hid ρ =>
  PE.imp (pe_callTy hc hg hm hv (ha hid ρ) hn hdb he hpl) fun σ H Q h => rdCG hF hk h
end
end L2
set_option Elab.async false
set_option linter.all false
set_option maxRecDepth 100000
namespace L2
open PySem PySem.Spec PyProof.Rows
end L2
set_option Elab.async false
set_option linter.all false
set_option maxRecDepth 100000
namespace L2
open PySem PySem.Spec PyProof.Rows
end L2
set_option Elab.async false
set_option linter.all false
set_option maxRecDepth 100000
namespace L2
open PySem PySem.Spec PyProof.Rows
end L2
set_option Elab.async false
set_option linter.all false
set_option maxRecDepth 100000
namespace L2
open PySem PySem.Spec PyProof.Rows
end L2
set_option Elab.async false
set_option linter.all false
set_option maxRecDepth 100000
namespace L2
open PySem PySem.Spec PyProof.Rows
section
variable {K : PySem.W.Frag}
def clrM : List D → List D → Option (D × List D) := fun _ ds => match ds with
  | [] => some (.non, [])
  | _ => none
theorem md_clear : MtD K rClear 0 clrM := by
  intro H hid a xs us bs ds bs' d Q h1 h2 h3 h4 h5 h6 q
  cases ds with
  | nil =>
    cases h6; cases h4
    exact ⟨a, xs, rfl, rfl, h1, q _ _ .nil .non⟩
  | cons _ _ => cases h5
end
end L2
set_option Elab.async false
set_option linter.all false
set_option maxRecDepth 100000
namespace PySem
open Sem (wp)
open AutoSeq1 (wpAny_loadPart')
end PySem
namespace L2
open PySem PySem.Spec PyProof.Rows
end L2
set_option Elab.async false
set_option linter.all false
set_option maxRecDepth 100000
namespace L2
open PySem PySem.W PySem.Calls PyProof.Rows
end L2
set_option Elab.async false
set_option linter.all false
set_option maxRecDepth 100000
set_option maxHeartbeats 1000000
namespace L2
open PySem PySem.Spec PyProof.Rows
def szK {α : Type} (d : α) (n : Nat) : Option α := if n ≤ sizeLine then some d else none
def szL {α : Type} (d : α) (n : Nat) : Option α := if n < sizeLine then some d else none
theorem szK_small {α : Type} {d : α} {n : Nat} (h : n ≤ 1000) : szK d n = some d := if_pos (Nat.le_of_lt (small1000 h))
theorem szL_small {α : Type} {d : α} {n : Nat} (h : n ≤ 1000) : szL d n = some d := if_pos (small1000 h)
theorem lstF_ev (fs : FA) (ρ : Rho) : lstF fs ρ = (fs ρ).bind fun ds => szK (.lst ds) ds.length := rfl
theorem compF_ev (m : Nat) (gi : FA) (g : FG) (p : FT) (f : FE) (ρ : Rho) : compF m gi g p f ρ = (gi ρ).bind fun ds => (szK () ds.length).bind fun _ => (compL g p f (ρ ++ List.replicate m .no) ds).map D.lst := by
  unfold compF szK
  congr 1; funext ds
  split <;> rfl
theorem appM_ev (bs : List D) (d : D) : appM bs [d] = szL (.non, bs ++ [d]) bs.length := rfl
theorem popM_ev (bs : List D) (i : Int) : popM bs [.int i] = (szK () bs.length).bind fun _ => (ixN bs.length i).bind fun j => (bs[j]?).map fun d => (d, bs.eraseIdx j) := by
  unfold popM szK
  dsimp only
  split
  · rename_i j e
    split at e
    · rw [if_pos ‹_›, e]; rfl
    · cases e
  · rename_i e
    split at e
    · rw [if_pos ‹_›, e]; rfl
    · rw [if_neg ‹_›]; rfl
def rngK (ds : List D) : Option (List D) := match ds with
  | [.int j] => if j.natAbs < 4000000000 then some (ups 0 j.toNat) else none
  | _ => none
theorem rngA1_ev (f : FA) (ρ : Rho) : rngA1 f ρ = (f ρ).bind rngK := rfl
theorem rngK_int {j : Int} (h : j.natAbs ≤ 1000) : rngK [.int j] = some (ups 0 j.toNat) := by
  show (if j.natAbs < 4000000000 then some (ups 0 j.toNat) else none) = _
  rw [if_pos (by omega)]
theorem addF_int (i j : Int) : addF (.int i) (.int j) = some (.int (i + j)) := rfl
theorem ltF_int (i j : Int) : ltF (.int i) (.int j) = some (.bl (decide (i < j))) := rfl
theorem geF_int (i j : Int) : geF (.int i) (.int j) = some (.bl (decide (j ≤ i))) := rfl
theorem modF_int {i j : Int} (h : 0 < j) : modF (.int i) (.int j) = some (.int (i % j)) := by
  unfold modF i2
  dsimp only
  rw [if_pos (by simpa using h)]
theorem lt1000 {n : Nat} (h : n < 10 ^ 200) : n < 2 ^ 1000 := Nat.lt_of_lt_of_le h (by decide)
theorem mulF_int {i j : Int} (h1 : i.natAbs < 10 ^ 200) (h2 : j.natAbs < 10 ^ 200) : mulF (.int i) (.int j) = some (.int (i * j)) := by
  unfold mulF i2
  dsimp only
  rw [if_pos (by rw [decide_eq_true (lt1000 h1), decide_eq_true (lt1000 h2)]; rfl)]
theorem fdivF_int {i j : Int} (h1 : 0 < j) (h2 : j.natAbs < 10 ^ 200) : fdivF (.int i) (.int j) = some (.int (i / j)) := by
  unfold fdivF i2
  dsimp only
  rw [if_pos (by rw [decide_eq_true h1, decide_eq_true (lt1000 h2)]; rfl)]
theorem powF_int {i j : Int} (h0 : 0 ≤ j) (h1 : j ≤ 1000000) (h2 : i.natAbs < 2 ^ 64) : powF (.int i) (.int j) = some (.int (i ^ j.toNat)) := by
  unfold powF i2
  dsimp only
  rw [if_pos (by rw [decide_eq_true h0, decide_eq_true h1, decide_eq_true h2]; rfl)]
theorem eqF_ev {x y : D} (h : dep x ≤ 32) : eqF x y = some (.bl (eqD x y)) := if_pos h
theorem neF_ev {x y : D} (h : dep x ≤ 32) : neF x y = some (.bl (!eqD x y)) := if_pos h
theorem eqD_int (i j : Int) : eqD (.int i) (.int j) = decide (i = j) := by
  unfold eqD
  rw [Bool.eq_iff_iff]; simp
theorem dep_int (i : Int) : dep (.int i) = 0 := by unfold dep; rfl
structure Bag (N : Nat) (a b : Int) : Prop where
  a0 : 0 ≤ a
  a1 : a.natAbs < 10 ^ 180
  b0 : 0 ≤ b
  b1 : b ≤ N
  lo : b ≠ 0 → a.natAbs < 2147483647
abbrev bagD (a b : Int) : List D := [.int a, .int b]
def tC_cell : FS :=
  seqS (ifS (toB (op2 ltF (nmF 1) (callF lenD (consA (nmF 0) (nilA))))) (retF (op2 ixD (nmF 0) (nmF 1))) (skip))
  (retF (cst (.int 0)))
def mC_cell : List D → Option D := fnP .s 2 tC_cell
def tC_bag : FS :=
  seqS (setF 2 (op2 modF (callF absI (consA (callF (nF 2 mC_cell) (consA (nmF 0) (consA (nmF 1) (nilA)))) (nilA))) (op2 mulF (op2 mulF (op2 powF (cst (.int 10)) (cst (.int 60))) (op2 powF (cst (.int 10)) (cst (.int 60)))) (op2 powF (cst (.int 10)) (cst (.int 60))))))
  (seqS (ifS (toB (op2 geF (nmF 2) (op2 powF (cst (.int 10)) (cst (.int 18))))) (retF (lstF (consA (nmF 2) (consA (cst (.int 0)) (nilA))))) (skip))
  (seqS (setF 3 (op2 modF (op2 addF (op2 addF (nmF 2) (op2 mulF (cst (.int 7919)) (nmF 1))) (cst (.int 17))) (cst (.int 2147483647))))
  (seqS (forS (puA (rngA1 (consA (callF min2D (consA (callF lenD (consA (nmF 0) (nilA))) (consA (cst (.int 9)) (nilA)))) (nilA)))) (gN 4) (setF 3 (op2 modF (op2 addF (op2 addF (op2 powF (nmF 3) (cst (.int 5))) (op2 modF (op2 ixD (nmF 0) (nmF 4)) (cst (.int 2147483629)))) (op2 mulF (cst (.int 31)) (nmF 4))) (cst (.int 2147483647)))))
  (retF (lstF (consA (nmF 3) (consA (cst (.int 1)) (nilA))))))))
def mC_bag : List D → Option D := fnP .n 5 tC_bag
def tC_take : FS :=
  seqS (ifS (toB (op2 eqF (op2 ixD (nbF 0) (cst (.int 1))) (cst (.int 0)))) (seqS (setF 2 (op2 modF (op2 ixD (nbF 0) (cst (.int 0))) (nmF 1)))
  (seqS (asgE (setIx 0 (cst (.int 0))) (pu (op2 fdivF (op2 ixD (nbF 0) (cst (.int 0))) (nmF 1))))
  (retF (nmF 2)))) (skip))
  (seqS (asgE (setIx 0 (cst (.int 0))) (pu (op2 modF (op2 addF (op2 addF (op2 powF (op2 ixD (nbF 0) (cst (.int 0))) (cst (.int 5))) (op2 mulF (cst (.int 48271)) (op2 ixD (nbF 0) (cst (.int 1))))) (cst (.int 11))) (cst (.int 2147483647)))))
  (seqS (asgE (setIx 0 (cst (.int 1))) (pu (op2 addF (op2 ixD (nbF 0) (cst (.int 1))) (cst (.int 1)))))
  (retF (op2 modF (op2 fdivF (op2 modF (op2 mulF (op2 ixD (nbF 0) (cst (.int 0))) (cst (.int 69621))) (cst (.int 2147483629))) (cst (.int 8))) (nmF 1)))))
def mC_take : List D → List D → Option (D × List D) := fnE .s 3 tC_take
def tC_order : FS :=
  seqS (ownF 2 (lr1 (nmF 1)))
  (seqS (ownF 3 (lstF (nilA)))
  (seqS (whL (toB (op2 neF (nbF 2) (lstF (nilA)))) (dropE (callE 3 1 appM (consG (callE 2 1 popM (consG (callE 0 1 mC_take (puA (consA (callF lenD (consA (nbF 2) (nilA))) (nilA)))) (puA (nilA)))) (puA (nilA))))) 16)
  (retO 3)))
def mC_order : List D → List D → Option (D × List D) := fnE .n 4 tC_order
theorem natAbs_mod {i m : Int} (h : 0 < m) : 0 ≤ i % m ∧ i % m < m := ⟨Int.emod_nonneg _ (by omega), Int.emod_lt_of_pos _ h⟩
theorem take_ev {N : Nat} {a b m : Int} (B : Bag N a b) (hN : N ≤ 1000000000) (hm : 0 < m) (hm2 : m.natAbs < 10 ^ 20) : ∃ d a' b', mC_take (bagD a b) [.int m] = some (.int d, bagD a' b') ∧ Bag (N + 1) a' b' ∧ 0 ≤ d ∧ d < m := by
  have hm3 : m.natAbs < 10 ^ 200 := Nat.lt_of_lt_of_le hm2 (by decide)
  by_cases hb : b = 0
  · subst hb
    refine ⟨a % m, a / m, 0, ?_, ⟨Int.ediv_nonneg B.a0 (by omega), ?_, by omega, by omega, fun z => absurd rfl z⟩, natAbs_mod hm⟩
    · simp [mC_take, fnE, tC_take, rhoE, bagD, seqS, ifS, toB, op2, ixD, nbF, nmF, cst, eqF_ev, eqD_int, dep_int, asB, atI, ixN, setF, modF_int hm, asgE, pu, fdivF_int hm hm3, setIx, getB, setB, outO, retF, arg0]
    · have h1 := B.a1
      have : a / m ≤ a := Int.ediv_le_self _ B.a0
      have : 0 ≤ a / m := Int.ediv_nonneg B.a0 (by omega)
      omega
  · have lo := B.lo hb
    have p1 : a.natAbs < 2 ^ 64 := Nat.lt_trans lo (by decide)
    have p2 : b.natAbs < 10 ^ 200 := Nat.lt_of_lt_of_le (show b.natAbs < 10 ^ 10 by have := B.b1; have := B.b0; omega) (by decide)
    generalize hA : (a ^ 5 + 48271 * b + 11) % 2147483647 = A
    have hA' : 0 ≤ A ∧ A < 2147483647 := by rw [← hA]; exact natAbs_mod (by decide)
    have p3 : A.natAbs < 10 ^ 200 := Nat.lt_of_lt_of_le (show A.natAbs < 10 ^ 10 by omega) (by decide)
    refine ⟨A * 69621 % 2147483629 / 8 % m, A, b + 1, ?_, ⟨hA'.1, ?_, by have := B.b0; omega, by have := B.b1; omega, fun _ => by omega⟩, natAbs_mod hm⟩
    · have c1 : (48271 : Int).natAbs < 10 ^ 200 := Nat.lt_of_lt_of_le (show (48271 : Int).natAbs < 10 ^ 10 by decide) (by decide)
      have c2 : (69621 : Int).natAbs < 10 ^ 200 := Nat.lt_of_lt_of_le (show (69621 : Int).natAbs < 10 ^ 10 by decide) (by decide)
      have c3 : (8 : Int).natAbs < 10 ^ 200 := Nat.lt_of_lt_of_le (show (8 : Int).natAbs < 10 ^ 10 by decide) (by decide)
      have e1 : powF (.int a) (.int 5) = some (.int (a ^ 5)) := powF_int (by decide) (by decide) p1
      have e2 : mulF (.int 48271) (.int b) = some (.int (48271 * b)) := mulF_int c1 p2
      have e3 : ∀ i : Int, modF (.int i) (.int 2147483647) = some (.int (i % 2147483647)) := fun i => modF_int (by decide)
      have e4 : ∀ i : Int, modF (.int i) (.int 2147483629) = some (.int (i % 2147483629)) := fun i => modF_int (by decide)
      have e5 : mulF (.int A) (.int 69621) = some (.int (A * 69621)) := mulF_int p3 c2
      have e6 : ∀ i : Int, fdivF (.int i) (.int 8) = some (.int (i / 8)) := fun i => fdivF_int (by decide) c3
      simp [mC_take, fnE, tC_take, rhoE, bagD, seqS, ifS, toB, op2, ixD, nbF, nmF, cst, eqF_ev, eqD_int, dep_int, asB, atI, ixN, hb, skip, e1, e2, e3, e4, addF_int, asgE, pu, setIx, getB, setB, outO, retF, arg0, hA, e5, e6, modF_int hm]
    · exact Nat.lt_of_lt_of_le (show A.natAbs < 10 ^ 10 by omega) (by decide)
end L2
set_option Elab.async false
set_option linter.all false
set_option maxRecDepth 100000
set_option maxHeartbeats 1000000
namespace L2
open PySem PySem.Spec PyProof.Rows
theorem seq_at {t u : FS} {ρ ρ' : Rho} (h : t ρ = .nx ρ') : seqS t u ρ = u ρ' := by unfold seqS; rw [h]
abbrev nI (i : Nat) : D := .int (i : Int)
abbrev scD (ns : List Int) : D := .scr (ns.map D.int)
theorem ups_N (n : Nat) : ups 0 n = (List.range n).map nI := by
  unfold ups
  simp
theorem ixN_nat {n j : Nat} (h : j < n) : ixN n (j : Int) = some j := by
  unfold ixN
  rw [if_pos (by omega), if_pos (by omega)]; simp
theorem cell_ev (ns : List Int) (k : Nat) : ∃ c, mC_cell [scD ns, nI k] = some (.int c) := by
  by_cases h : k < ns.length
  · refine ⟨ns[k], ?_⟩
    simp [mC_cell, fnP, tC_cell, rho0, seqS, ifS, toB, op2, nmF, callF, consA, nilA, lenD, ltF_int, asB, h, retF, ixD, atI, ixN_nat (show k < (ns.map D.int).length by simpa using h)]
    simp [ixN_nat h, h]
  · refine ⟨0, ?_⟩
    simp [mC_cell, fnP, tC_cell, rho0, seqS, ifS, toB, op2, nmF, callF, consA, nilA, lenD, ltF_int, asB, h, retF, skip, cst]
theorem bag_loop (ns : List Int) (k : D) (c : D) : ∀ (l : List Nat), (∀ i ∈ l, i < ns.length ∧ i < 1000) → ∀ (x : Int) (s4 : Sl), 0 ≤ x → x < 2147483647 → ∃ (x' : Int) (s4' : Sl), 0 ≤ x' ∧ x' < 2147483647 ∧
    forL (gN 4) (setF 3 (op2 modF (op2 addF (op2 addF (op2 powF (nmF 3) (cst (.int 5))) (op2 modF (op2 ixD (nmF 0) (nmF 4)) (cst (.int 2147483629)))) (op2 mulF (cst (.int 31)) (nmF 4))) (cst (.int 2147483647)))) (l.map nI) [.v (scD ns), .v k, .v c, .v (.int x), s4] = .nx [.v (scD ns), .v k, .v c, .v (.int x'), s4']
  | [], _, x, s4, h1, h2 => ⟨x, s4, h1, h2, rfl⟩
  | i :: l, hl, x, s4, h1, h2 => by
    obtain ⟨hi, hi2⟩ := hl i (by simp)
    have e1 : powF (.int x) (.int 5) = some (.int (x ^ 5)) := powF_int (by decide) (by decide) (Nat.lt_of_lt_of_le (show x.natAbs < 10 ^ 10 by omega) (by decide))
    have e2 : mulF (.int 31) (nI i) = some (.int (31 * i)) := mulF_int (Nat.lt_of_lt_of_le (show (31 : Int).natAbs < 10 ^ 10 by decide) (by decide)) (Nat.lt_of_lt_of_le (show (i : Int).natAbs < 10 ^ 10 by omega) (by decide))
    have e3 : ∀ i : Int, modF (.int i) (.int 2147483647) = some (.int (i % 2147483647)) := fun i => modF_int (by decide)
    have e4 : ∀ i : Int, modF (.int i) (.int 2147483629) = some (.int (i % 2147483629)) := fun i => modF_int (by decide)
    obtain ⟨y1, y2⟩ := natAbs_mod (i := x ^ 5 + ns[i] % 2147483629 + 31 * i) (m := 2147483647) (by decide)
    obtain ⟨x', s4', g1, g2, g3⟩ := bag_loop ns k c l (fun j hj => hl j (by simp [hj])) _ (.v (nI i)) y1 y2
    refine ⟨x', s4', g1, g2, ?_⟩
    rw [← g3]
    simp [forL, gN, setF, op2, nmF, cst, e1, e2, e3, e4, ixD, atI, ixN_nat (show i < (ns.map D.int).length by simpa using hi), ixN_nat hi, hi, addF_int]
theorem bag_ev (ns : List Int) (k : Nat) (hk : k ≤ 1000) (hn : ns.length ≤ 63) : ∃ a b, mC_bag [scD ns, nI k] = some (.lst (bagD a b)) ∧ Bag 1 a b := by
  obtain ⟨c, hc⟩ := cell_ev ns k
  have p1 : powF (.int 10) (.int 60) = some (.int (10 ^ 60)) := powF_int (by decide) (by decide) (by decide)
  have p2 : powF (.int 10) (.int 18) = some (.int (10 ^ 18)) := powF_int (by decide) (by decide) (by decide)
  have q60 : ((10 : Int) ^ 60).natAbs < 10 ^ 200 := by decide
  have q120 : ((10 : Int) ^ 60 * 10 ^ 60).natAbs < 10 ^ 200 := by decide
  have m1 : mulF (.int (10 ^ 60)) (.int (10 ^ 60)) = some (.int (10 ^ 60 * 10 ^ 60)) := mulF_int q60 q60
  have m2 : mulF (.int (10 ^ 60 * 10 ^ 60)) (.int (10 ^ 60)) = some (.int (10 ^ 60 * 10 ^ 60 * 10 ^ 60)) := mulF_int q120 q60
  have m3 : mulF (.int 7919) (nI k) = some (.int (7919 * k)) := mulF_int (Nat.lt_of_lt_of_le (show (7919 : Int).natAbs < 10 ^ 10 by decide) (by decide)) (Nat.lt_of_lt_of_le (show (k : Int).natAbs < 10 ^ 10 by omega) (by decide))
  generalize hA : (if c < 0 then -c else c) % (10 ^ 60 * 10 ^ 60 * 10 ^ 60) = A
  have hA' : 0 ≤ A ∧ A < 10 ^ 60 * 10 ^ 60 * 10 ^ 60 := by rw [← hA]; exact natAbs_mod (by decide)
  have s1 : setF 2 (op2 modF (callF absI (consA (callF (nF 2 mC_cell) (consA (nmF 0) (consA (nmF 1) (nilA)))) (nilA))) (op2 mulF (op2 mulF (op2 powF (cst (.int 10)) (cst (.int 60))) (op2 powF (cst (.int 10)) (cst (.int 60)))) (op2 powF (cst (.int 10)) (cst (.int 60))))) [.v (scD ns), .v (nI k), .no, .no, .no] = .nx [.v (scD ns), .v (nI k), .v (.int A), .no, .no] := by
    have m4 : ∀ i : Int, modF (.int i) (.int (10 ^ 60 * 10 ^ 60 * 10 ^ 60)) = some (.int (i % (10 ^ 60 * 10 ^ 60 * 10 ^ 60))) := fun i => modF_int (by decide)
    unfold setF
    have : op2 modF (callF absI (consA (callF (nF 2 mC_cell) (consA (nmF 0) (consA (nmF 1) (nilA)))) (nilA))) (op2 mulF (op2 mulF (op2 powF (cst (.int 10)) (cst (.int 60))) (op2 powF (cst (.int 10)) (cst (.int 60)))) (op2 powF (cst (.int 10)) (cst (.int 60)))) [.v (scD ns), .v (nI k), .no, .no, .no] = some (.int A) := by
      have ec : callF (nF 2 mC_cell) (consA (nmF 0) (consA (nmF 1) nilA)) [.v (scD ns), .v (nI k), .no, .no, .no] = some (.int c) := hc
      simp only [op2, callF, consA, nilA, cst, Option.bind_some, p1, m1, m2, absI]
      have ec' : ((nmF 0 [.v (scD ns), .v (nI k), .no, .no, .no]).bind fun d => ((nmF 1 [.v (scD ns), .v (nI k), .no, .no, .no]).bind fun d => (some []).map fun r => d :: r).map fun r => d :: r).bind (nF 2 mC_cell) = some (.int c) := hc
      rw [ec']
      simp only [Option.bind_some, Option.map_some, m4, absI, hA]
    rw [this]; rfl
  have r0 : rho0 5 [scD ns, nI k] = [.v (scD ns), .v (nI k), .no, .no, .no] := rfl
  unfold mC_bag fnP tC_bag
  rw [r0, seq_at s1]
  have hA180 : A.natAbs < 10 ^ 180 := by
    have : (10 : Int) ^ 60 * 10 ^ 60 * 10 ^ 60 = ((10 ^ 180 : Nat) : Int) := by decide
    rw [this] at hA'
    omega
  by_cases hb : (10 : Int) ^ 18 ≤ A
  · refine ⟨A, 0, ?_, ⟨hA'.1, hA180, by decide, by decide, fun z => absurd rfl z⟩⟩
    simp only [seqS, ifS, toB, op2, nmF, List.getElem?_cons_succ, List.getElem?_cons_zero, Option.bind_some, cst, p2, geF_int, asB, decide_eq_true hb, retF, lstF_ev, consA, nilA, Option.map_some]
    rw [szK_small (by simp)]
  · generalize hx : (A + 7919 * (k : Int) + 17) % 2147483647 = x
    have hx' : 0 ≤ x ∧ x < 2147483647 := by rw [← hx]; exact natAbs_mod (by decide)
    have m4 : modF (.int (A + 7919 * (k : Int) + 17)) (.int 2147483647) = some (.int x) := by rw [modF_int (by decide), hx]
    have hr : rngA1 (consA (callF min2D (consA (callF lenD (consA (nmF 0) (nilA))) (consA (cst (.int 9)) (nilA)))) (nilA)) [.v (scD ns), .v (nI k), .v (.int A), .v (.int x), .no] = some ((List.range (min ns.length 9)).map nI) := by
      rw [rngA1_ev]
      simp only [callF, consA, nilA, nmF, cst, List.getElem?_cons_zero, Option.bind_some, Option.map_some, lenD, min2D, List.length_map]
      have : (if (9 : Int) < (ns.length : Int) then (9 : Int) else (ns.length : Int)) = ((min ns.length 9 : Nat) : Int) := by split <;> omega
      rw [this, rngK_int (by omega), ups_N, Int.toNat_natCast]
    obtain ⟨x', s4', g1, g2, g3⟩ := bag_loop ns (nI k) (.int A) (List.range (min ns.length 9)) (fun i hi => by have := List.mem_range.mp hi; omega) x .no hx'.1 hx'.2
    refine ⟨x', 1, ?_, ⟨g1, Nat.lt_of_lt_of_le (show x'.natAbs < 10 ^ 10 by omega) (by decide), by decide, by decide, fun _ => by omega⟩⟩
    have f1 : forS (puA (rngA1 (consA (callF min2D (consA (callF lenD (consA (nmF 0) (nilA))) (consA (cst (.int 9)) (nilA)))) (nilA)))) (gN 4) (setF 3 (op2 modF (op2 addF (op2 addF (op2 powF (nmF 3) (cst (.int 5))) (op2 modF (op2 ixD (nmF 0) (nmF 4)) (cst (.int 2147483629)))) (op2 mulF (cst (.int 31)) (nmF 4))) (cst (.int 2147483647)))) [.v (scD ns), .v (nI k), .v (.int A), .v (.int x), .no] = .nx [.v (scD ns), .v (nI k), .v (.int A), .v (.int x'), s4'] := by
      unfold forS puA
      rw [hr]
      exact g3
    have i1 : ifS (toB (op2 geF (nmF 2) (op2 powF (cst (.int 10)) (cst (.int 18))))) (retF (lstF (consA (nmF 2) (consA (cst (.int 0)) (nilA))))) (skip) [.v (scD ns), .v (nI k), .v (.int A), .no, .no] = .nx [.v (scD ns), .v (nI k), .v (.int A), .no, .no] := by
      simp only [ifS, toB, op2, nmF, List.getElem?_cons_succ, List.getElem?_cons_zero, Option.bind_some, cst, p2, geF_int, asB, decide_eq_false hb, skip]
    have i2 : setF 3 (op2 modF (op2 addF (op2 addF (nmF 2) (op2 mulF (cst (.int 7919)) (nmF 1))) (cst (.int 17))) (cst (.int 2147483647))) [.v (scD ns), .v (nI k), .v (.int A), .no, .no] = .nx [.v (scD ns), .v (nI k), .v (.int A), .v (.int x), .no] := by
      simp only [setF, op2, nmF, List.getElem?_cons_succ, List.getElem?_cons_zero, Option.bind_some, cst, m3, addF_int, m4, List.set_cons_succ, List.set_cons_zero]
    rw [seq_at i1, seq_at i2, seq_at f1]
    simp only [retF, lstF_ev, consA, nilA, nmF, cst, List.getElem?_cons_succ, List.getElem?_cons_zero, Option.bind_some, Option.map_some]
    rw [szK_small (by simp)]
end L2
set_option Elab.async false
set_option linter.all false
set_option maxRecDepth 100000
set_option maxHeartbeats 1000000
namespace L2
open PySem PySem.Spec PyProof.Rows
theorem callE_at {i n : Nat} {M : List D → List D → Option (D × List D)} {fs : GA} {ρ ρ1 : Rho} {b0 bs ds bs' : List D} {d : D} (h0 : getB i ρ = some b0) (h1 : fs ρ = some (ds, ρ1)) (h2 : getB i ρ1 = some bs) (h3 : ds.length = n) (h4 : M bs ds = some (d, bs')) : callE i n M fs ρ = some (d, setB i bs' ρ1) := by
  unfold callE
  rw [h0]; dsimp only; rw [h1]; dsimp only; rw [h2]; dsimp only; rw [if_pos h3, h4]
theorem consG_at {f : GE} {fs : GA} {ρ ρ1 ρ2 : Rho} {d : D} {ds : List D} (h1 : f ρ = some (d, ρ1)) (h2 : fs ρ1 = some (ds, ρ2)) : consG f fs ρ = some (d :: ds, ρ2) := by
  unfold consG bE; rw [h1]; dsimp only [Option.bind]; rw [h2]; rfl
theorem puA_at {f : FA} {ρ : Rho} {ds : List D} (h : f ρ = some ds) : puA f ρ = some (ds, ρ) := by unfold puA; rw [h]; rfl
theorem pu_at {f : FE} {ρ : Rho} {d : D} (h : f ρ = some d) : pu f ρ = some (d, ρ) := by unfold pu; rw [h]; rfl
theorem erase_map {α β : Type} (f : α → β) : ∀ (l : List α) (j : Nat), (l.map f).eraseIdx j = (l.eraseIdx j).map f
  | [], _ => rfl
  | _ :: _, 0 => rfl
  | x :: l, j + 1 => by simp [erase_map f l j]
theorem erase_perm {α : Type} : ∀ (l : List α) (j : Nat) (h : j < l.length), (l[j] :: l.eraseIdx j).Perm l
  | _ :: _, 0, _ => .refl _
  | x :: l, j + 1, h => by
    have ih := erase_perm l j (by simpa using h)
    exact (List.Perm.swap _ _ _).trans (ih.cons x)
theorem deps_N : ∀ r : List Nat, deps (r.map nI) = 0
  | [] => by simp [deps]
  | a :: r => by
    rw [List.map_cons]
    unfold deps
    rw [deps_N r]
    simp [dep]
theorem dep_lstN (r : List Nat) : dep (.lst (r.map nI)) ≤ 32 := by unfold dep; rw [deps_N]; omega
abbrev whO : FS → Nat → FS := fun b n => whL (toB (op2 neF (nbF 2) (lstF (nilA)))) b n
abbrev bodyO : FS := dropE (callE 3 1 appM (consG (callE 2 1 popM (consG (callE 0 1 mC_take (puA (consA (callF lenD (consA (nbF 2) (nilA))) (nilA)))) (puA (nilA)))) (puA (nilA))))
theorem testO (n : D) (bg : List D) (left found : List Nat) : toB (op2 neF (nbF 2) (lstF (nilA))) [.arg bg, .v n, .own (left.map nI), .own (found.map nI)] = some (!left.isEmpty) := by
  have h0 : lstF nilA [.arg bg, .v n, .own (left.map nI), .own (found.map nI)] = some (.lst []) := by
    rw [lstF_ev]; simp only [nilA, Option.bind_some]; exact szK_small (by simp)
  unfold toB op2
  rw [h0]
  simp only [nbF, List.getElem?_cons_succ, List.getElem?_cons_zero, Option.bind_some]
  rw [neF_ev (dep_lstN left)]
  cases left with
  | nil => simp [asB, eqD, eqDs]
  | cons x r => simp [asB, eqD, eqDs]
theorem bodyO_ev (n : D) {N : Nat} {a b : Int} (B : Bag N a b) (hN : N ≤ 1000000000) (left found : List Nat) (h0 : 0 < left.length) (h1 : left.length ≤ 100) (h2 : found.length ≤ 100) :
    ∃ (j : Nat) (hj : j < left.length) (a' b' : Int), bodyO [.arg (bagD a b), .v n, .own (left.map nI), .own (found.map nI)] = .nx [.arg (bagD a' b'), .v n, .own ((left.eraseIdx j).map nI), .own ((found ++ [left[j]]).map nI)] ∧ Bag (N + 1) a' b' := by
  obtain ⟨d, a', b', e, B', d0, d1⟩ := take_ev (m := left.length) B hN (by omega) (Nat.lt_of_lt_of_le (show (left.length : Int).natAbs < 10 ^ 10 by omega) (by decide))
  obtain ⟨j, rfl⟩ : ∃ j : Nat, d = (j : Int) := ⟨d.toNat, by omega⟩
  have hj : j < left.length := by omega
  refine ⟨j, hj, a', b', ?_, B'⟩
  have e2 : popM (left.map nI) [.int (j : Int)] = some (nI left[j], (left.eraseIdx j).map nI) := by
    rw [popM_ev, szK_small (by simp; omega)]
    simp only [Option.bind_some]
    rw [ixN_nat (by simpa using hj)]
    simp [hj, erase_map]
  have e3 : appM (found.map nI) [nI left[j]] = some (.non, (found ++ [left[j]]).map nI) := by
    rw [appM_ev, szL_small (by simp; omega)]; simp
  have g : callE 0 1 mC_take (puA (consA (callF lenD (consA (nbF 2) (nilA))) (nilA))) [.arg (bagD a b), .v n, .own (left.map nI), .own (found.map nI)] = some (nI j, [.arg (bagD a' b'), .v n, .own (left.map nI), .own (found.map nI)]) := by
    simp [callE, getB, puA, consA, callF, nbF, nilA, lenD, e, setB]
  have g2 : callE 2 1 popM (consG (callE 0 1 mC_take (puA (consA (callF lenD (consA (nbF 2) (nilA))) (nilA)))) (puA (nilA))) [.arg (bagD a b), .v n, .own (left.map nI), .own (found.map nI)] = some (nI left[j], [.arg (bagD a' b'), .v n, .own ((left.eraseIdx j).map nI), .own (found.map nI)]) := by
    refine (callE_at (i := 2) (n := 1) (b0 := left.map nI) (ds := [nI j]) (ρ1 := [.arg (bagD a' b'), .v n, .own (left.map nI), .own (found.map nI)]) rfl (consG_at g rfl) rfl rfl e2).trans rfl
  have g3 : callE 3 1 appM (consG (callE 2 1 popM (consG (callE 0 1 mC_take (puA (consA (callF lenD (consA (nbF 2) (nilA))) (nilA)))) (puA (nilA)))) (puA (nilA))) [.arg (bagD a b), .v n, .own (left.map nI), .own (found.map nI)] = some (.non, [.arg (bagD a' b'), .v n, .own ((left.eraseIdx j).map nI), .own ((found ++ [left[j]]).map nI)]) := by
    refine (callE_at (i := 3) (n := 1) (b0 := found.map nI) (ds := [nI left[j]]) (ρ1 := [.arg (bagD a' b'), .v n, .own ((left.eraseIdx j).map nI), .own (found.map nI)]) rfl (consG_at g2 rfl) rfl rfl e3).trans rfl
  unfold bodyO dropE
  rw [g3]
theorem loopO (n : D) : ∀ (f : Nat) (left found : List Nat) (N : Nat) (a b : Int), left.length < f → left.length ≤ 50 → found.length + left.length ≤ 100 → Bag N a b → N + left.length ≤ 1000000000 →
    ∃ (o : List Nat) (a' b' : Int), whO bodyO f [.arg (bagD a b), .v n, .own (left.map nI), .own (found.map nI)] = .nx [.arg (bagD a' b'), .v n, .own [], .own ((found ++ o).map nI)] ∧ o.Perm left ∧ Bag (N + left.length) a' b'
  | 0, left, found, N, a, b, h, _, _, _, _ => absurd h (Nat.not_lt_zero _)
  | f + 1, left, found, N, a, b, h, h1, h2, B, hN => by
    unfold whO whL
    rw [testO]
    cases e : left.isEmpty with
    | true =>
      have : left = [] := by simpa using e
      subst this
      exact ⟨[], a, b, by simp, .refl _, by simpa using B⟩
    | false =>
      have h0 : 0 < left.length := by cases left with
        | nil => cases e
        | cons x r => simp
      obtain ⟨j, hj, a1, b1, e1, B1⟩ := bodyO_ev n B (by omega) left found h0 (by omega) (by omega)
      have hl : (left.eraseIdx j).length = left.length - 1 := by rw [List.length_eraseIdx]; simp [hj]
      obtain ⟨o, a2, b2, e2, p, B2⟩ := loopO n f (left.eraseIdx j) (found ++ [left[j]]) (N + 1) a1 b1 (by omega) (by omega) (by simp; omega) B1 (by omega)
      refine ⟨left[j] :: o, a2, b2, ?_, ?_, ?_⟩
      · simp only [Bool.not_false]
        rw [e1]
        dsimp only
        have : whL (toB (op2 neF (nbF 2) (lstF nilA))) bodyO f = whO bodyO f := rfl
        rw [this, e2]
        simp
      · exact (p.cons _).trans (erase_perm left j hj)
      · rw [show N + left.length = N + 1 + (left.eraseIdx j).length by omega]; exact B2
structure Ord (n : Nat) (r : List Nat) : Prop where
  perm : r.Perm (List.range n)
theorem Ord.len {n : Nat} {r : List Nat} (o : Ord n r) : r.length = n := by rw [o.perm.length_eq]; simp
theorem lr_ev {n : Nat} (h : n ≤ 1000) (f : FE) (ρ : Rho) (e : f ρ = some (nI n)) : lr1 f ρ = some (.lst ((List.range n).map nI)) := by
  unfold lr1 lrF1
  rw [e]
  simp only [Option.bind_some]
  rw [if_pos (by omega), ups_N]; rfl
theorem order_ev {N : Nat} {a b : Int} (B : Bag N a b) {n : Nat} (hn : n ≤ 12) (hN : N ≤ 900000000) : ∃ (o : List Nat) (a' b' : Int), mC_order (bagD a b) [nI n] = some (.lst (o.map nI), bagD a' b') ∧ Ord n o ∧ Bag (N + n) a' b' := by
  obtain ⟨o, a', b', e, p, B'⟩ := loopO (nI n) 16 (List.range n) [] N a b (by simp; omega) (by simp; omega) (by simp; omega) B (by simp; omega)
  refine ⟨o, a', b', ?_, ⟨p⟩, by simpa using B'⟩
  have r0 : rhoE 4 (bagD a b) [nI n] = [.arg (bagD a b), .v (nI n), .no, .no] := rfl
  have s1 : ownF 2 (lr1 (nmF 1)) [.arg (bagD a b), .v (nI n), .no, .no] = .nx [.arg (bagD a b), .v (nI n), .own ((List.range n).map nI), .no] := by
    unfold ownF
    rw [lr_ev (n := n) (by omega) (nmF 1) _ rfl]
    rfl
  have s2 : ownF 3 (lstF (nilA)) [.arg (bagD a b), .v (nI n), .own ((List.range n).map nI), .no] = .nx [.arg (bagD a b), .v (nI n), .own ((List.range n).map nI), .own []] := by
    unfold ownF
    rw [lstF_ev]
    simp only [nilA, Option.bind_some]
    rw [szK_small (by simp)]
    rfl
  unfold mC_order fnE tC_order
  rw [r0, seq_at s1, seq_at s2]
  have e' : whL (toB (op2 neF (nbF 2) (lstF (nilA)))) bodyO 16 [.arg (bagD a b), .v (nI n), .own ((List.range n).map nI), .own []] = .nx [.arg (bagD a' b'), .v (nI n), .own [], .own (o.map nI)] := e
  rw [seq_at e']
  simp [retO, getO, arg0]
end L2
set_option Elab.async false
set_option linter.all false
set_option maxRecDepth 100000
set_option maxHeartbeats 1000000
namespace L2
open PySem PySem.Spec PyProof.Rows
theorem op2_at {F : D → D → Option D} {f g : FE} {ρ : Rho} {x y : D} (h1 : f ρ = some x) (h2 : g ρ = some y) : op2 F f g ρ = F x y := by unfold op2; rw [h1, Option.bind_some, h2, Option.bind_some]
theorem op2E_at {F : D → D → Option D} {f g : GE} {ρ ρ1 ρ2 : Rho} {x y d : D} (h1 : f ρ = some (x, ρ1)) (h2 : g ρ1 = some (y, ρ2)) (h3 : F x y = some d) : op2E F f g ρ = some (d, ρ2) := by
  unfold op2E bE; rw [h1]; dsimp only [Option.bind]; rw [h2]; dsimp only [Option.bind]; rw [h3]; rfl
theorem setF_at {i : Nat} {f : FE} {ρ : Rho} {d : D} (h : f ρ = some d) : setF i f ρ = .nx (ρ.set i (.v d)) := by unfold setF; rw [h]
theorem setE_at {i : Nat} {f : GE} {ρ ρ1 : Rho} {d : D} (h : f ρ = some (d, ρ1)) : setE i f ρ = .nx (ρ1.set i (.v d)) := by unfold setE; rw [h]
theorem ownF_at {i : Nat} {f : FE} {ρ : Rho} {ds : List D} (h : f ρ = some (.lst ds)) : ownF i f ρ = .nx (ρ.set i (.own ds)) := by unfold ownF; rw [h]; rfl
theorem lstF_at {f : FA} {ρ : Rho} {ds : List D} (h : f ρ = some ds) (h2 : ds.length ≤ 1000) : lstF f ρ = some (.lst ds) := by
  rw [lstF_ev, h, Option.bind_some, szK_small h2]
theorem consA_at {f : FE} {fs : FA} {ρ : Rho} {d : D} {ds : List D} (h1 : f ρ = some d) (h2 : fs ρ = some ds) : consA f fs ρ = some (d :: ds) := by unfold consA; rw [h1, h2]; rfl
theorem callF_at {F : List D → Option D} {f : FA} {ρ : Rho} {ds : List D} (h : f ρ = some ds) : callF F f ρ = F ds := by unfold callF; rw [h]; rfl
theorem compL_map {α : Type} {g : FG} {f : FE} {ρ0 : Rho} {h o : α → D} : ∀ (l : List α), (∀ i ∈ l, ∃ ρ1, g (h i) ρ0 = some ρ1 ∧ f ρ1 = some (o i)) → compL g yesT f ρ0 (l.map h) = some (l.map o)
  | [], _ => rfl
  | a :: l, H => by
    obtain ⟨ρ1, h1, h2⟩ := H a (by simp)
    have ih := compL_map l fun i hi => H i (by simp [hi])
    rw [List.map_cons]
    unfold compL
    rw [h1, Option.bind_some]
    simp only [yesT, Option.bind_some, if_true, h2, ih]
    rfl
theorem compF_at {m : Nat} {gi : FA} {g : FG} {p : FT} {f : FE} {ρ : Rho} {ds ys : List D} (h1 : gi ρ = some ds) (h2 : ds.length ≤ 1000) (h3 : compL g p f (ρ ++ List.replicate m .no) ds = some ys) : compF m gi g p f ρ = some (.lst ys) := by
  rw [compF_ev, h1, Option.bind_some, szK_small h2, Option.bind_some, h3]; rfl
abbrev tupN (r : List Nat) : D := .tup (r.map nI)
theorem rngA1_at {f : FA} {ρ : Rho} {n : Nat} (h : f ρ = some [nI n]) (hn : n ≤ 1000) : rngA1 f ρ = some ((List.range n).map nI) := by
  rw [rngA1_ev, h, Option.bind_some, rngK_int (by omega), ups_N]; rfl
end L2
set_option Elab.async false
set_option linter.all false
set_option maxRecDepth 100000
set_option maxHeartbeats 1000000
namespace L2
open PySem PySem.Spec PyProof.Rows
theorem nF_at {n : Nat} {P : List D → Option D} {ds : List D} (h : ds.length = n) : nF n P ds = P ds := if_pos h
theorem cl_at {n : Nat} {P : List D → Option D} {fs : FA} {ρ : Rho} {ds : List D} (h : fs ρ = some ds) (hl : ds.length = n) : callF (nF n P) fs ρ = P ds := (callF_at h).trans (nF_at hl)
theorem callG_at {F : List D → Option D} {fs : GA} {ρ ρ1 : Rho} {ds : List D} {d : D} (h : fs ρ = some (ds, ρ1)) (h2 : F ds = some d) : callG F fs ρ = some (d, ρ1) := by unfold callG; rw [h]; dsimp only [Option.bind]; rw [h2]; rfl
theorem fnP_ret {kd : Kd} {n : Nat} {t : FS} {ds : List D} {ρ : Rho} {d : D} (h : t (rho0 n ds) = .rt d ρ) : fnP kd n t ds = some d := by unfold fnP; rw [h]
theorem retF_at {f : FE} {ρ : Rho} {d : D} (h : f ρ = some d) : retF f ρ = .rt d ρ := by unfold retF; rw [h]
theorem sortK {ks : List (List Int)} (h : ks.length < 64) (hk : ∀ k ∈ ks, k ≠ []) : sortedF [.lst (ks.map tpI)] = some (.lst ((isortG lexB ks).map tpI)) := by
  show (sortD (ks.map tpI)).map D.lst = _
  unfold sortD
  rw [if_pos (by simpa using h)]
  cases ks with
  | nil => rfl
  | cons k ks =>
    rw [intsD_tup]
    dsimp only
    rw [keysD_of hk]
    rfl
theorem blsD_of : ∀ bs : List Bool, blsD (bs.map D.bl) = some bs
  | [] => rfl
  | b :: r => by show (blsD (r.map D.bl)).map (b :: ·) = _; rw [blsD_of r]; rfl
theorem allD_of (bs : List Bool) : allD [.lst (bs.map D.bl)] = some (.bl (bs.all id)) := by
  show (blsD (bs.map D.bl)).map (fun bs => D.bl (bs.all id)) = _
  rw [blsD_of]; rfl
theorem ifS_f {p : FT} {t u : FS} {ρ : Rho} (h : p ρ = some false) : ifS p t u ρ = u ρ := by unfold ifS; rw [h]
theorem ifS_t {p : FT} {t u : FS} {ρ : Rho} (h : p ρ = some true) : ifS p t u ρ = t ρ := by unfold ifS; rw [h]
theorem or2_at {p q : FT} {ρ : Rho} {b : Bool} (h1 : p ρ = some false) (h2 : q ρ = some b) : or2 p q ρ = some b := by unfold or2; rw [h1]; exact h2
theorem or2_t {p q : FT} {ρ : Rho} (h1 : p ρ = some true) : or2 p q ρ = some true := by unfold or2; rw [h1]; rfl
theorem and2_at {p q : FT} {ρ : Rho} {b : Bool} (h1 : p ρ = some true) (h2 : q ρ = some b) : and2 p q ρ = some b := by unfold and2; rw [h1]; exact h2
theorem asD_at {p : FT} {ρ : Rho} {b : Bool} (h : p ρ = some b) : asD p ρ = some (.bl b) := by unfold asD; rw [h]; rfl
theorem dropE_at {f : GE} {ρ ρ1 : Rho} {d : D} (h : f ρ = some (d, ρ1)) : dropE f ρ = .nx ρ1 := by unfold dropE; rw [h]
theorem toB_at {f : FE} {ρ : Rho} {b : Bool} (h : f ρ = some (.bl b)) : toB f ρ = some b := by unfold toB; rw [h]; rfl
theorem tru_bl {f : FE} {ρ : Rho} {b : Bool} (h : f ρ = some (.bl b)) : tru1 f ρ = some b := by unfold tru1; rw [h]; rfl
theorem not_at {p : FT} {ρ : Rho} {b : Bool} (h : p ρ = some b) : not1 p ρ = some (!b) := by unfold not1; rw [h]; rfl
theorem ne_same {x : D} (h : dep x ≤ 32) : neF x x = some (.bl false) := by rw [neF_ev h, eqD_refl]; rfl
theorem eq_same {x : D} (h : dep x ≤ 32) : eqF x x = some (.bl true) := by rw [eqF_ev h, eqD_refl]
theorem forL_cons {g : FG} {b : FS} {d : D} {r : List D} {ρ ρ1 ρ2 : Rho} (h1 : g d ρ = some ρ1) (h2 : b ρ1 = .nx ρ2) : forL g b (d :: r) ρ = forL g b r ρ2 := by
  show (match g d ρ with
    | none => Out.no
    | some ρ1 => match b ρ1 with
      | .nx ρ2 => forL g b r ρ2
      | .ct ρ2 => forL g b r ρ2
      | .bk ρ2 => .nx ρ2
      | .rt d ρ2 => .rt d ρ2
      | .no => .no) = _
  rw [h1]; dsimp only; rw [h2]
theorem forS_at {f : GA} {g : FG} {b : FS} {ρ ρ1 : Rho} {ds : List D} (h : f ρ = some (ds, ρ1)) : forS f g b ρ = forL g b ds ρ1 := by unfold forS; rw [h]
theorem fnP_ex {kd : Kd} {n : Nat} {t : FS} {ds : List D} {d : D} (h : ∃ ρ, t (rho0 n ds) = .rt d ρ) : fnP kd n t ds = some d := let ⟨_, h⟩ := h; fnP_ret h
theorem seq_ex {t u : FS} {ρ : Rho} {d : D} (P : Rho → Prop) (h : ∃ ρ', t ρ = .nx ρ' ∧ P ρ') (hu : ∀ ρ', P ρ' → ∃ ρ'', u ρ' = .rt d ρ'') : ∃ ρ'', seqS t u ρ = .rt d ρ'' := by
  obtain ⟨ρ', h1, h2⟩ := h
  obtain ⟨ρ'', h3⟩ := hu ρ' h2
  exact ⟨ρ'', (seq_at h1).trans h3⟩
theorem forS_ex {f : GA} {g : FG} {b : FS} {ρ ρ1 : Rho} {ds : List D} {P : Rho → Prop} (h : f ρ = some (ds, ρ1)) (hl : ∃ ρ', forL g b ds ρ1 = .nx ρ' ∧ P ρ') : ∃ ρ', forS f g b ρ = .nx ρ' ∧ P ρ' := by
  obtain ⟨ρ', h1, h2⟩ := hl
  exact ⟨ρ', (forS_at h).trans h1, h2⟩
theorem forL_ex {g : FG} {b : FS} {P : Rho → Prop} : ∀ (l : List D), (∀ d ∈ l, ∀ ρ, P ρ → ∃ ρ1 ρ2, g d ρ = some ρ1 ∧ b ρ1 = .nx ρ2 ∧ P ρ2) → ∀ ρ, P ρ → ∃ ρ', forL g b l ρ = .nx ρ' ∧ P ρ'
  | [], _, ρ, p => ⟨ρ, rfl, p⟩
  | d :: l, h, ρ, p => by
    obtain ⟨ρ1, ρ2, h1, h2, p2⟩ := h d (by simp) ρ p
    obtain ⟨ρ', e, p'⟩ := forL_ex l (fun d' hd => h d' (by simp [hd])) ρ2 p2
    exact ⟨ρ', (forL_cons h1 h2).trans e, p'⟩
theorem app_at {i : Nat} {fs : GA} {ρ ρ1 : Rho} {b0 bs : List D} {d : D} (h0 : getB i ρ = some b0) (h1 : fs ρ = some ([d], ρ1)) (h2 : getB i ρ1 = some bs) (h3 : bs.length ≤ 900) : dropE (callE i 1 appM fs) ρ = .nx (setB i (bs ++ [d]) ρ1) :=
  dropE_at (callE_at h0 h1 h2 rfl (by rw [appM_ev, szL_small (by omega)]))
theorem compL_flt {α : Type} {g : FG} {p : FT} {f : FE} {ρ0 : Rho} {h o : α → D} {q : α → Bool} : ∀ (l : List α), (∀ i ∈ l, ∃ ρ1, g (h i) ρ0 = some ρ1 ∧ p ρ1 = some (q i) ∧ (q i = true → f ρ1 = some (o i))) → compL g p f ρ0 (l.map h) = some ((l.filter q).map o)
  | [], _ => rfl
  | a :: l, H => by
    obtain ⟨ρ1, h1, h2, h3⟩ := H a (by simp)
    have ih := compL_flt l fun i hi => H i (by simp [hi])
    rw [List.map_cons]
    unfold compL
    rw [h1, Option.bind_some, h2, Option.bind_some]
    cases e : q a with
    | true => rw [if_pos rfl, h3 e, Option.bind_some, ih]; simp [e]
    | false => rw [if_neg (by simp), ih]; simp [e]
end L2
set_option Elab.async false
set_option linter.all false
set_option maxRecDepth 100000
set_option maxHeartbeats 1000000
namespace L2
open PySem PySem.Spec PyProof.Rows
end L2
set_option Elab.async false
set_option linter.all false
set_option maxRecDepth 100000
set_option maxHeartbeats 1000000
namespace L2
open PySem PySem.Spec PyProof.Rows
theorem deps_I : ∀ k : List Int, deps (k.map D.int) = 0
  | [] => by simp [deps]
  | a :: k => by rw [List.map_cons]; unfold deps; rw [deps_I k]; simp [dep]
theorem dep_tpI (k : List Int) : dep (tpI k) = 1 := by unfold tpI dep; rw [deps_I]
theorem deps_K : ∀ ks : List (List Int), deps (ks.map tpI) ≤ 1
  | [] => by simp [deps]
  | k :: ks => by
    rw [List.map_cons]
    unfold deps
    have := deps_K ks
    rw [dep_tpI]; omega
theorem dep_K (ks : List (List Int)) : dep (.lst (ks.map tpI)) ≤ 32 := by unfold dep; have := deps_K ks; omega
theorem eqDs_I : ∀ k l : List Int, eqDs (k.map D.int) (l.map D.int) = decide (k = l)
  | [], [] => by simp [eqDs]
  | [], _ :: _ => by simp [eqDs]
  | _ :: _, [] => by simp [eqDs]
  | a :: k, b :: l => by
    rw [List.map_cons, List.map_cons]
    unfold eqDs
    rw [eqDs_I k l, eqD_int, Bool.eq_iff_iff]
    simp
theorem eqD_tpI (k l : List Int) : eqD (tpI k) (tpI l) = decide (k = l) := by
  unfold tpI eqD
  exact eqDs_I k l
theorem any_K (K : List (List Int)) (k : List Int) : (K.map tpI).any (fun d => eqD d (tpI k)) = decide (k ∈ K) := by
  induction K with
  | nil => simp
  | cons a K ih =>
    rw [List.map_cons, List.any_cons, ih, eqD_tpI, Bool.eq_iff_iff]
    simp only [Bool.or_eq_true, decide_eq_true_eq, List.mem_cons]
    exact or_congr_left eq_comm
theorem inK (K : List (List Int)) (k : List Int) : inF false (tpI k) (.lst (K.map tpI)) = some (.bl (decide (k ∈ K))) := by
  unfold inF itemsD
  dsimp only
  have := deps_K K
  rw [if_pos (by omega), any_K]
  rfl
end L2
set_option Elab.async false
set_option linter.all false
set_option maxRecDepth 100000
set_option maxHeartbeats 1000000
namespace L2
open PySem PySem.Spec PyProof.Rows
end L2
set_option Elab.async false
set_option linter.all false
set_option maxRecDepth 100000
set_option maxHeartbeats 1000000
namespace L2
open PySem PySem.Spec PyProof.Rows
end L2
set_option Elab.async false
set_option linter.all false
set_option maxRecDepth 100000
namespace L2
open PySem PySem.Spec PyProof.Rows
end L2
set_option Elab.async false
set_option linter.all false
set_option maxRecDepth 100000
namespace L2
open PySem PySem.W PySem.Spec PyProof.Rows
end L2
set_option Elab.async false
set_option linter.all false
set_option maxRecDepth 100000
namespace L2
open PySem PySem.Spec PyProof.Rows
def tPar3 (i j l : Nat) (ta : TA) : TS := fun D σ H => ta σ H fun vs H1 => ∃ v w u, vs = [v, w, u] ∧ D.nx (((σ.set i (some v)).set j (some w)).set l (some u)) H1
theorem ps_par3 {X : Cx} {pos : Pos} {i j l : Nat} {x y z : Str} {a b c : Expr} {ta : TA} {px py pz pt : Pos} {kt k2 pt2} (hc : X.calm = true) (hN : X.N.Nodup) (hi : X.N[i]? = some x) (hj : X.N[j]? = some y) (hl : X.N[l]? = some z) (hij : i ≠ j) (hil : i ≠ l) (hjl : j ≠ l)
    (hx : X.env.scope.names.lookup x = some .local) (hy : X.env.scope.names.lookup y = some .local) (hz : X.env.scope.names.lookup z = some .local) (ha : PA X [a, b, c] ta)
    (hw : swappedStores [.Tuple [.Name x px, .Name y py, .Name z pz] kt pt] (.Tuple [a, b, c] k2 pt2) X.env = pure (some [x, y, z]))
    (hs : swapsWithSole [.Tuple [.Name x px, .Name y py, .Name z pz] kt pt] (.Tuple [a, b, c] k2 pt2) pos.line X.env = pure false := by rfl) :
    PS X (.Assign [.Tuple [.Name x px, .Name y py, .Name z pz] kt pt] (.Tuple [a, b, c] k2 pt2) pos) (tPar3 i j l ta) := by
  intro pins s σ H D I h
  rw [exec_Assign_arm]
  refine wpAny_bind (wpAny_standAt ?_)
  rw [hs]
  refine wpAny_bind (wpAny_pure ?_)
  rw [if_neg (by decide)]
  refine wpAny_bind (Tuple_ (thn (ha _ pins s σ H _ I h) fun us s1 hq_ => ?_))
  obtain ⟨vs, H1, I1, r1, q1⟩ := hq_
  obtain ⟨v, w, u, e1, q1⟩ := q1
  subst e1
  obtain ⟨u1, u2, u3, rfl, rv, rw', ru⟩ : ∃ u1 u2 u3, us = [u1, u2, u3] ∧ RelV v u1 ∧ RelV w u2 ∧ RelV u u3 := by
    cases r1 with
    | cons p q =>
      cases q with
      | cons p' q' =>
        cases q' with
        | cons p'' q'' =>
          cases q''
          exact ⟨_, _, _, rfl, p, p', p''⟩
  refine wpAny_newObj_type ?_ (by show 3 ≤ sizeLine; decide)
  have I2 : Inv X pins σ H1 { s1 with heap := s1.heap.push { cls := .type "tuple", data := .seq [u1, u2, u3].toArray } } := I1.kept (t' := s1.toks) fun b o e => Heap.get?_push_of_some _ e
  rw [hw]
  refine wpAny_bind (wpAny_pure ?_)
  show wpAny (model X.prog X.w) X.A (do rule "assign.swapped-stores"; let items ← unpackItems (.ref s1.heap.objs.size) 3 none; assignInOrder [fun v => bindName X.env z v, fun v => bindName X.env y v, fun v => bindName X.env x v] items.reverse; pure Flow.next) _ _ _
  refine wpAny_bind (wpAny_rule (wpAny_bind (unpackItems_tuple (items := #[u1, u2, u3]) (I.ok.hd hc) (IsTup.new s1.heap _) fun h' hx' => ?_)))
  have I3 := I2.kept (h' := h') (t' := s1.toks) fun b o e => hx' b o (Nat.ne_of_lt (Heap.lt_size e)) e
  show wpAny _ _ (assignInOrder [fun v => bindName X.env z v, fun v => bindName X.env y v, fun v => bindName X.env x v] [u3, u2, u1] >>= fun _ => pure Flow.next) _ _ _
  refine wpAny_bind (assignInOrder_cons (wpAny_bindName (store_ok I3 hN hl (.inl hz) ru (fun s2 I4 => ?_) (.inr hz))))
  refine assignInOrder_cons (wpAny_bindName (store_ok I4 hN hj (.inl hy) rw' (fun s3 I5 => ?_) (.inr hy)))
  refine assignInOrder_cons (wpAny_bindName (store_ok I5 hN hi (.inl hx) rv (fun s4 I6 => assignInOrder_nil (wpAny_pure ?_)) (.inr hx)))
  rw [List.set_comm _ _ (Ne.symm hjl), List.set_comm _ _ (Ne.symm hil), List.set_comm _ _ (Ne.symm hij)] at I6
  exact ⟨_, H1, I6, q1⟩
end L2
set_option Elab.async false
set_option linter.all false
set_option maxRecDepth 100000
set_option maxHeartbeats 1000000
namespace L2
open PySem PySem.Spec PyProof.Rows
section
variable {X : Cx} {c : Ct} {a b e : Expr} {f g : FE} {pos p p2 p3 : Pos} {k : Kd}
def rCatL (K : PySem.W.Frag) : R2 := fun x y H Q => ∃ l b xs zs, x = .ref l ∧ y = .ref b ∧ SqL K H l xs ∧ SqL K H b zs ∧ xs.length + zs.length ≤ sizeLine ∧ ∀ p, H p = none → Q (.ref p) (upd H p (.lst (xs ++ zs)))
theorem op_catL : OpR X (binaryOp .Add) (rCatL X.K) := by
  intro pins s σ H x y v u Q I rx ry h
  obtain ⟨l, b, xs, zs, rfl, rfl, hL, hB, hz, q⟩ := h
  cases rx
  cases ry
  obtain ⟨its, r, ⟨o, n, e, c1, d1, t1⟩, z1⟩ := I.list hL
  obtain ⟨its2, r2, ⟨o2, n2, e2, c2, d2, t2⟩, z2⟩ := I.list hB
  obtain ⟨oc, od, ot, sl⟩ := o
  obtain ⟨oc2, od2, ot2, sl2⟩ := o2
  dsimp only at c1 d1 t1 c2 d2 t2
  subst c1 d1 t1 c2 d2 t2
  have hl := r.length
  have hl2 := r2.length
  refine concat_meets ⟨_, e, rfl⟩ ⟨_, e2, rfl⟩ noFill_list_add seq_list_add PySem.F.slot_list_add PySem.F.entry_list_add (PySem.F.args_list_add_2 _ _) (list_addW l b its.toArray its2.toArray n n2 none none sl sl2 (by rw [List.size_toArray, List.size_toArray]; omega)) ⟨e, e2, ?_⟩
  have ea : its.toArray ++ its2.toArray = (its ++ its2).toArray := by simp
  rw [ea]
  exact ⟨.ref _, _, I.lnew (t' := s.toks) (r.append r2) (by rw [List.length_append]; omega), rfl, q _ I.fresh⟩
def catLF : D → D → Option D
  | .lst xs, .lst ys => if xs.length + ys.length ≤ sizeLine then some (.lst (xs ++ ys)) else none
  | _, _ => none
theorem od_catL {K : PySem.W.Frag} : OpD K .n (rCatL K) catLF := by
  intro H hid v u x y d Q hf h r1 r2 q
  unfold catLF at h
  split at h
  · split at h
    · rename_i hz
      cases h
      obtain ⟨a, xs, rfl, h1, h2⟩ := r1.lst
      obtain ⟨b, ys, rfl, h3, h4⟩ := r2.lst
      exact ⟨a, b, xs, ys, rfl, rfl, h1, h3, by rw [h2.length, h4.length]; exact hz, fun p hp => q _ _ (same_new hp _) (rn_new hp (Same.refl _) (h2.append h4))⟩
    · cases h
  · cases h
theorem dp_catL {k1 k2 : Kd} (ha : DP X c k1 a f) (hb : DP X c k2 b g) : DP X c .n (.BinOp a .Add b pos) (op2 catLF f g) := dp_op op_catL od_catL ha hb
end
end L2
set_option Elab.async false
set_option linter.all false
set_option maxRecDepth 100000
set_option maxHeartbeats 1000000
namespace L2
open PySem PySem.Spec PyProof.Rows
end L2
set_option Elab.async false
set_option linter.all false
set_option maxRecDepth 100000
set_option maxHeartbeats 1000000
namespace L2
open PySem PySem.Spec PyProof.Rows
end L2
set_option Elab.async false
set_option linter.all false
set_option maxRecDepth 100000
set_option maxHeartbeats 1000000
namespace L2
open PySem PySem.Spec PyProof.Rows
end L2
set_option Elab.async false
set_option linter.all false
set_option maxRecDepth 100000
set_option maxHeartbeats 1000000
namespace L2
open PySem PySem.Spec PyProof.Rows
end L2
set_option Elab.async false
set_option linter.all false
set_option maxRecDepth 100000
set_option maxHeartbeats 1000000
namespace L2
open PySem PySem.Spec PyProof.Rows
end L2
set_option Elab.async false
set_option linter.all false
set_option maxRecDepth 100000
set_option maxHeartbeats 1000000
namespace L2
open PySem PySem.Spec PyProof.Rows
end L2
set_option Elab.async false
set_option linter.all false
set_option maxRecDepth 100000
set_option maxHeartbeats 1000000
namespace L2
open PySem PySem.Spec PyProof.Rows
end L2
set_option Elab.async false
set_option linter.all false
set_option maxRecDepth 100000
set_option maxHeartbeats 1000000
namespace L2
open PySem PySem.Spec PyProof.Rows
end L2
set_option Elab.async false
set_option linter.all false
set_option maxRecDepth 100000
set_option maxHeartbeats 1000000
namespace L2
open PySem PySem.Spec PyProof.Rows
end L2
set_option Elab.async false
set_option linter.all false
set_option maxRecDepth 100000
set_option maxHeartbeats 1000000
namespace L2
open PySem PySem.Spec PyProof.Rows
end L2
set_option Elab.async false
set_option linter.all false
set_option maxRecDepth 100000
set_option maxHeartbeats 1000000
namespace L2
open PySem PySem.Spec PyProof.Rows
end L2
set_option Elab.async false
set_option linter.all false
set_option maxRecDepth 100000
set_option maxHeartbeats 1000000
namespace L2
open PySem PySem.Spec PyProof.Rows
section
variable {X : Cx} {c : Ct} {e : Expr} {es : List Expr} {k : Kd} {pos p : Pos} {x : Str} {ps : List Str} {j n : Nat}
def seqA (f : FE) : FA := fun ρ => (f ρ).bind fun d => match d with
  | .lst ds => some ds
  | .tup ds => some ds
  | _ => none
theorem dip_seq {tg iter : Expr} {f : FE} (h : DP X c .s iter f) : DIp X c tg iter (seqA f) := fun hid ρ pins s σ H R I hq_ => by
  obtain ⟨sr, ds, e1, q⟩ := hq_
  unfold seqA at e1
  cases e2 : f ρ with
  | none => rw [e2] at e1; cases e1
  | some d =>
    rw [e2, Option.bind_some] at e1
    cases d with
    | lst xs => cases e1; exact dip_list h hid ρ pins s σ H R I ⟨sr, ds, by unfold lstA; rw [e2]; rfl, q⟩
    | tup xs => cases e1; exact dip_tup h hid ρ pins s σ H R I ⟨sr, ds, by unfold tupA; rw [e2]; rfl, q⟩
    | _ => cases e1
end
end L2
set_option Elab.async false
set_option linter.all false
namespace L2
open PySem PySem.Spec PyProof.Rows
@[elab_as_elim] theorem ar0 {motive : List Value → Prop} (us : List Value) (hl : us.length = 0) (h : motive []) : motive us := by
  cases us with
  | nil => exact h
  | cons a r => exact absurd hl (Nat.succ_ne_zero _)
@[elab_as_elim] theorem ar1 {motive : List Value → Prop} (us : List Value) (hl : us.length = 1) (h : ∀ a0, motive [a0]) : motive us := by
  cases us with
  | nil => exact absurd hl (by decide)
  | cons a0 r => exact ar0 (motive := fun r => motive (a0 :: r)) r (Nat.succ.inj hl) (h a0)
@[elab_as_elim] theorem ar2 {motive : List Value → Prop} (us : List Value) (hl : us.length = 2) (h : ∀ a0 a1, motive [a0, a1]) : motive us := by
  cases us with
  | nil => exact absurd hl (by decide)
  | cons a0 r => exact ar1 (motive := fun r => motive (a0 :: r)) r (Nat.succ.inj hl) (h a0)
@[elab_as_elim] theorem ar3 {motive : List Value → Prop} (us : List Value) (hl : us.length = 3) (h : ∀ a0 a1 a2, motive [a0, a1, a2]) : motive us := by
  cases us with
  | nil => exact absurd hl (by decide)
  | cons a0 r => exact ar2 (motive := fun r => motive (a0 :: r)) r (Nat.succ.inj hl) (h a0)
@[elab_as_elim] theorem ar4 {motive : List Value → Prop} (us : List Value) (hl : us.length = 4) (h : ∀ a0 a1 a2 a3, motive [a0, a1, a2, a3]) : motive us := by
  cases us with
  | nil => exact absurd hl (by decide)
  | cons a0 r => exact ar3 (motive := fun r => motive (a0 :: r)) r (Nat.succ.inj hl) (h a0)
@[elab_as_elim] theorem ar5 {motive : List Value → Prop} (us : List Value) (hl : us.length = 5) (h : ∀ a0 a1 a2 a3 a4, motive [a0, a1, a2, a3, a4]) : motive us := by
  cases us with
  | nil => exact absurd hl (by decide)
  | cons a0 r => exact ar4 (motive := fun r => motive (a0 :: r)) r (Nat.succ.inj hl) (h a0)
@[elab_as_elim] theorem ar6 {motive : List Value → Prop} (us : List Value) (hl : us.length = 6) (h : ∀ a0 a1 a2 a3 a4 a5, motive [a0, a1, a2, a3, a4, a5]) : motive us := by
  cases us with
  | nil => exact absurd hl (by decide)
  | cons a0 r => exact ar5 (motive := fun r => motive (a0 :: r)) r (Nat.succ.inj hl) (h a0)
end L2
set_option Elab.async false
set_option linter.all false
set_option maxRecDepth 100000
namespace L2
open PySem PySem.Spec PyProof.Rows
end L2
set_option Elab.async false
set_option linter.all false
set_option maxRecDepth 100000
namespace L2
open PySem PySem.Spec PyProof.Rows
end L2
set_option Elab.async false
set_option linter.all false
set_option maxRecDepth 100000
namespace L2
open PySem PySem.Spec PyProof.Rows
end L2
set_option Elab.async false
set_option linter.all false
set_option maxRecDepth 100000
namespace L2
open PySem PySem.Spec PyProof.Rows
end L2
set_option Elab.async false
set_option linter.all false
set_option maxRecDepth 100000
namespace L2
open PySem PySem.Spec PyProof.Rows
end L2
set_option Elab.async false
set_option linter.all false
set_option maxRecDepth 100000
namespace PySem
open Sem (wp)
end PySem
set_option Elab.async false
set_option linter.all false
set_option maxRecDepth 100000
namespace L2
open PySem PySem.Spec PyProof.Rows
end L2
set_option Elab.async false
set_option linter.all false
set_option maxRecDepth 100000
namespace PySem
end PySem
namespace L2
open PySem PySem.Spec PyProof.Rows
end L2
set_option Elab.async false
set_option linter.all false
set_option maxRecDepth 100000
namespace L2
open PySem PySem.Spec PyProof.Rows
end L2
set_option Elab.async false
set_option linter.all false
set_option maxRecDepth 100000
namespace L2
open PySem PySem.Spec PyProof.Rows
end L2
set_option Elab.async false
set_option linter.all false
set_option maxRecDepth 100000
namespace L2
open PySem PySem.Spec PyProof.Rows
end L2
set_option Elab.async false
set_option linter.all false
set_option maxRecDepth 100000
namespace L2
open PySem PySem.W PySem.Spec PyProof.Rows
section
variable {prog : Program} {w : World} {A : Around} {E : Value → Shared → Prop} {s : Shared}
theorem gather_src {T : String} {r d : Addr} {n : Nat} {P : Nat → Value → Prop} {OK : Heap → Prop} {R : List Value → Shared → Prop} (src : KdlSrc prog w T r d n P OK) (calm : A.handled = none) (good : OK s.heap) (few : n ≤ sizeLine)
    (q : ∀ (g : Heap) (tk : Nat) (us : Array Value), (∀ b o, s.heap.get? b = some o → g.get? b = some o) → s.heap.objs.size < g.objs.size → ItemsOf P us n → R us.toList { s with heap := g, toks := tk }) : wpAny (model prog w) A (collect (.ref r)) R E s := by
  obtain ⟨rl, dl⟩ := src.there _ good
  unfold collect
  refine wpAny_bind (wpAny_runValue (codeAny_builtin F.entry_proto_collect ?_))
  rw [Around.under_plainId F.plain_proto_collect _]
  show wpAny _ A.in1 (newList [] >>= fun z => again (.builtin "list.__iadd__" ⟨[z, .ref r], []⟩)) _ _ s
  refine wpAny_bind (wpAny_newObj_type (wpAny_pure ⟨plainId_quiet F.plain_list_iadd _, codeAny_builtin F.entry_list_iadd ?_⟩))
  rw [Around.under_plainId F.plain_list_iadd _]
  show wpAny _ A.in1 (Builtin.List.listExtendWith (.ref s.heap.objs.size) (.ref r) (.ref s.heap.objs.size)) _ _ _
  have last : ∀ (g : Heap) (tk : Nat) (us : Array Value) (m : Nat), (∀ b o, s.heap.get? b = some o → g.get? b = some o) → g.get? s.heap.objs.size = some { cls := .type "list", dict := none, data := .seq us m, slots := #[] } → ItemsOf P us n →
      wpAny (model prog w) A (do
        match (← load s.heap.objs.size).data with
          | Data.seq xs _ => pure xs.toList
          | _ => unsupported "internal:collect") R E { s with heap := g, toks := tk } := fun g tk us m kg hg hi => wpAny_bind (wpAny_load hg (wpAny_pure (q g tk us kg (Heap.lt_size hg) hi)))
  have ext := kdl_extend (A := A) (s := { s with heap := s.heap.push { cls := .type "list", data := .seq ([] : List Value).toArray } })
    (R := fun z t => ∃ (g : Heap) (tk : Nat) (us : Array Value) (m : Nat), z = .ok (.ret (.ref s.heap.objs.size)) ∧ t = { s with heap := g, toks := tk } ∧ (∀ b o, s.heap.get? b = some o → g.get? b = some o) ∧ g.get? s.heap.objs.size = some { cls := .type "list", dict := none, data := .seq us m, slots := #[] } ∧ ItemsOf P us n)
    src calm (src.keep _ _ good fun b _ o e => Heap.get?_push_of_some _ e) s.heap.objs.size (Nat.ne_of_gt rl) (Nat.ne_of_gt dl) (.ref s.heap.objs.size) 0 (Heap.get?_push_size _ rfl)
    (fun g tk us m kg hg hi => ⟨g, tk, us, m, rfl, rfl, fun b o e => kg b o (Nat.ne_of_lt (Heap.lt_size e)) (Heap.get?_push_of_some _ e), hg, hi⟩) few
  refine wpAny_mono ext (fun z t h => ?_) fun z t h => by obtain ⟨_, _, _, _, e, _⟩ := h; cases e
  cases z with
  | done f => obtain ⟨g, tk, us, m, e, rfl, kg, hg, hi⟩ := h; cases e; exact last g tk us m kg hg hi
  | again c => exact ⟨h.1, codeAny_mono h.2 fun z t' hr => by obtain ⟨g, tk, us, m, rfl, rfl, kg, hg, hi⟩ := hr; exact last g tk us m kg hg hi⟩
end
end L2
set_option Elab.async false
set_option linter.all false
set_option maxRecDepth 100000
namespace L2
open PySem PySem.Spec PyProof.Rows
end L2
set_option Elab.async false
set_option linter.all false
set_option maxRecDepth 100000
namespace L2
open PySem PySem.Spec PyProof.Rows
end L2
set_option Elab.async false
set_option linter.all false
set_option maxRecDepth 100000
namespace L2
open PySem PySem.Spec PyProof.Rows
end L2
set_option Elab.async false
set_option linter.all false
set_option maxRecDepth 100000
namespace L2
open PySem PySem.Spec PyProof.Rows
end L2
set_option Elab.async false
set_option linter.all false
set_option maxRecDepth 100000
namespace L2
open PySem PySem.Spec PyProof.Rows
end L2
set_option Elab.async false
set_option linter.all false
set_option maxRecDepth 100000
namespace L2
open PySem PySem.Spec PyProof.Rows
end L2
set_option Elab.async false
set_option linter.all false
set_option maxRecDepth 100000
namespace L2
open PySem PySem.Spec PyProof.Rows
end L2
set_option Elab.async false
set_option linter.all false
set_option maxRecDepth 100000
namespace L2
open PySem PySem.Spec PyProof.Rows
end L2
set_option Elab.async false
set_option linter.all false
set_option maxRecDepth 100000
namespace L2
open PySem PySem.Spec PyProof.Rows
end L2
set_option Elab.async false
set_option linter.all false
set_option maxRecDepth 100000
namespace L2
open PySem PySem.Spec PyProof.Rows
end L2
set_option Elab.async false
set_option linter.all false
set_option maxRecDepth 100000
namespace L2
open PySem PySem.Spec PyProof.Rows
theorem repsI_eq {K : PySem.W.Frag} {F : Hp} : ∀ {xs : List V} {ns : List Int}, Reps K F xs (ns.map D.int) → xs = (ns.map Sum.inl).map kV
  | _, [], h => by cases h; rfl
  | _, n :: ns, h => by
    cases h with
    | cons r rs => cases r; rw [repsI_eq rs]; rfl
end L2
set_option Elab.async false
set_option linter.all false
set_option maxRecDepth 100000
namespace L2
open PySem PySem.W PySem.Spec PyProof.Rows
section
variable {prog : Program} {w : World} {A : Around} {E : Value → Shared → Prop} {s : Shared} {d it : Addr} {es : Array DictEntry} {ep i : Nat}
theorem sorted_src {T : String} {r : Addr} {us : List Value} {P : Nat → Value → Prop} {OK : Heap → Prop} {Q : Value → Shared → Prop} {G : List Nat → Prop} (src : KdlSrc prog w T r d us.length P OK) (hP : ∀ i v, i < us.length → P i v → us[i]? = some v) (calm : A.handled = none) (good : OK s.heap) (hz : us.length < 64)
    (few : us.length < 2 → G (List.range us.length))
    (many : 2 ≤ us.length → ∀ (g : Heap) (tk : Nat), (∀ c o, s.heap.get? c = some o → g.get? c = some o) → wpAny (model prog w) A.in1.in1 (keyKind' us.toArray) (fun κ t => t = { s with heap := g, toks := tk } ∧
      (kas_sort us.length).kasWp (kas_ask prog w A.in1.in1 κ us) (fun p t' => t' = t ∧ G p.toList) t) (fun _ _ => False) { s with heap := g, toks := tk })
    (fin : ∀ (g : Heap) (tk a e : Nat) (ix : List Nat), (∀ c o, s.heap.get? c = some o → g.get? c = some o) → s.heap.objs.size ≤ a → G ix → g.get? a = some (seqObj "list" (List.toArray (ix.map fun i => us.getD i Value.none)) e) → Q (.ref a) { s with heap := g, toks := tk }) :
    wpAny (model prog w) A (call (.builtin "sorted") [.ref r]) Q E s := by
  refine Calls.call_function_entry kind_sorted plain_sorted entry_sorted (args_sorted1 _) ?_
  unfold Builtin.«sorted»
  refine wpAny_bind (m := checkCount "sorted" 1 1 _) (wpAny_pure (wpAny_bind (gather_src (A := A.in1) src calm good (by rw [sizeLine_eq]; omega) fun g tk acc kg sg0 hacc => ?_)))
  have hus : acc.toList = us := List.ext_getElem? fun i => by
    by_cases hi : i < us.length
    · have h1 : i < acc.size := by rw [hacc.1]; exact hi
      have e3 : acc[i]? = some acc[i] := Array.getElem?_eq_getElem h1
      rw [Array.getElem?_toList, e3, hP i _ hi (hacc.2 i _ e3)]
    · have h1 : ¬ i < acc.toList.length := by rw [Array.length_toList, hacc.1]; exact hi
      rw [List.getElem?_eq_none (by omega), List.getElem?_eq_none (by omega)]
  rw [hus]
  have sg : s.heap.objs.size ≤ g.objs.size := Nat.le_of_lt sg0
  refine wpAny_bind (wpAny_newList ?_ (by rw [sizeLine_eq]; omega))
  have hL : (g.push (seqObj "list" us.toArray 0)).get? g.objs.size = some (seqObj "list" us.toArray 0) := Heap.get?_push_size _ rfl
  show wpAny _ _ _ _ _ { s with heap := g.push (seqObj "list" us.toArray 0), toks := tk }
  have end_ : ∀ ix : List Nat, G ix → Q (.ref g.objs.size) { s with heap := sortedHeap (g.push (seqObj "list" us.toArray 0)) g.objs.size us (List.toArray (ix.map fun i => us.getD i Value.none)), toks := tk } := fun ix hG => by
    obtain ⟨e, he⟩ := sortedHeap_at (out := List.toArray (ix.map fun i => us.getD i Value.none)) hL
    refine fin _ tk g.objs.size e ix (fun c u hu => ?_) sg hG he
    have lt := Heap.lt_size (kg c u hu)
    rw [sortedHeap_old (Nat.ne_of_lt lt) (by rw [size_push']; exact Nat.lt_succ_of_lt lt)]
    exact Heap.get?_push_of_some _ (kg c u hu)
  refine wpAny_bind (wpAny_holding (wpAny_call_entry slot_list_sort ⟨_, hL, rfl⟩ entry_list_sort (sort_asked (P := fun f t => ∃ v, f = .done (.ret v) ∧ wpAny (model prog w) A.in1 (pure (PySem.Fin.done (.ret (Value.ref g.objs.size)))) (fun f t => ∃ v, f = .done (.ret v) ∧ Q v t) E t) hL (by omega) (fun h => ?_) (fun h g' kg' => ?_)) (args_list_sort _)))
  · have e := end_ (List.range us.length) (few h)
    rw [show (List.range us.length).map (fun i => us.getD i Value.none) = us from List.ext_getElem? fun i => by
      by_cases hi : i < us.length
      · simp [hi]
      · simp [hi]] at e
    exact ⟨_, rfl, wpAny_pure ⟨_, rfl, e⟩⟩
  · refine wpAny_mono (many h g' tk fun c u hu => kg' c u (Nat.ne_of_lt (Heap.lt_size (kg c u hu))) (Heap.get?_push_of_some _ (kg c u hu))) (fun κ t ⟨et, ht⟩ => ⟨et, ?_⟩) fun _ _ x => x
    rw [kat_ask_eq rfl] at ht ⊢
    exact kas_wp_mono ht fun p t' ⟨e1, hG⟩ => ⟨e1, _, rfl, wpAny_pure ⟨_, rfl, end_ _ hG⟩⟩
end
theorem intVv : ∀ {ns : List Int} {us : List Value}, Vals (ns.map V.int) us → IntV us ns
  | [], _, h => by cases h; exact .nil
  | _ :: _, _, h => by cases h with | cons h1 h2 => exact .cons h1 (intVv h2)
end L2
set_option Elab.async false
set_option linter.all false
set_option maxRecDepth 100000
namespace L2
open PySem PySem.Spec PyProof.Rows
end L2
set_option Elab.async false
set_option linter.all false
set_option maxRecDepth 100000
set_option maxHeartbeats 1000000
namespace L2
open PySem PySem.W PySem.Spec PyProof.Rows
theorem pick_go {α : Type} (next : Nat → Nat) : ∀ (fuel k : Nat) (left : List α) (out : Array α), fuel = left.length → (pickOrder.go next fuel k left out).toList.Perm (out.toList ++ left)
  | 0, k, left, out, h => by
    obtain rfl : left = [] := List.eq_nil_of_length_eq_zero h.symm
    rw [List.append_nil]; exact List.Perm.refl _
  | fuel + 1, k, left, out, h => by
    have lt : next k % left.length < left.length := Nat.mod_lt _ (by omega)
    have e : left[next k % left.length]? = some left[next k % left.length] := List.getElem?_eq_getElem lt
    unfold pickOrder.go
    rw [e]
    dsimp only
    refine (pick_go next fuel (k + 1) _ _ (by rw [List.length_eraseIdx, if_pos lt]; omega)).trans ?_
    rw [Array.toList_push, List.append_assoc]
    refine List.Perm.append_left _ ?_
    have e2 : left = left.take (next k % left.length) ++ left[next k % left.length] :: left.drop (next k % left.length + 1) := by
      conv => lhs; rw [← List.take_append_drop (next k % left.length) left, List.drop_eq_getElem_cons lt]
    rw [List.eraseIdx_eq_take_drop_succ]
    conv => rhs; rw [e2]
    exact (List.perm_middle (l₁ := left.take (next k % left.length))).symm
theorem pick_order {α : Type} (next : Nat → Nat) (xs : Array α) : (pickOrder next xs).toList.Perm xs.toList := by
  have := pick_go next xs.size 0 xs.toList #[] (by simp)
  unfold pickOrder
  simpa using this
theorem bel_uniq {xs : Array Nat} (r : Ris xs) {j p : Nat} (b : Bel xs j p) : SetTable.below xs j = p := by
  have b' := bel r j
  rcases Nat.lt_trichotomy (SetTable.below xs j) p with c | c | c
  · have lt : SetTable.below xs j < xs.size := by have := b.le; omega
    have e : xs[SetTable.below xs j]? = some xs[SetTable.below xs j] := Array.getElem?_eq_getElem lt
    have h1 := b.lo _ _ c e
    have h2 := b'.hi _ _ (Nat.le_refl _) e
    omega
  · exact c
  · have lt : p < xs.size := by have := b'.le; omega
    have e : xs[p]? = some xs[p] := Array.getElem?_eq_getElem lt
    have h1 := b'.lo _ _ c e
    have h2 := b.hi _ _ (Nat.le_refl _) e
    omega
theorem bel_from {xs : Array Nat} (r : Ris xs) {i : Nat} (hi : i ≤ xs.size) : SetTable.below xs (if i = 0 then 0 else xs.getD (i - 1) 0 + 1) = i := by
  refine bel_uniq r ⟨hi, fun x a hx ha => ?_, fun x a hx ha => ?_⟩
  · rw [if_neg (by omega)]
    have lt : i - 1 < xs.size := by omega
    have e : xs[i - 1]? = some xs[i - 1] := Array.getElem?_eq_getElem lt
    have eg : xs.getD (i - 1) 0 = xs[i - 1] := by simp [Array.getD, lt]
    rw [eg]
    by_cases c : x = i - 1
    · subst c; rw [e] at ha; cases ha; omega
    · have := r.lt (show x < i - 1 by omega) ha e; omega
  · by_cases c : i = 0
    · rw [if_pos c]; omega
    · rw [if_neg c]
      have lt : i - 1 < xs.size := by omega
      have e : xs[i - 1]? = some xs[i - 1] := Array.getElem?_eq_getElem lt
      have eg : xs.getD (i - 1) 0 = xs[i - 1] := by simp [Array.getD, lt]
      rw [eg]
      exact r.lt (show i - 1 < x by omega) e ha
def byTxt (w : World) : Bool := w.params.followText "set-order"
def walkA (w : World) (a : Addr) (ep : Nat) (es : Array (Int × Value)) : Array (Int × Value) := if byTxt w = true then pickOrder (w.params.setOrder a ep) es else es
theorem walk_perm (w : World) (a : Addr) (ep : Nat) (es : Array (Int × Value)) : (walkA w a ep es).toList.Perm es.toList := by
  unfold walkA
  split
  · exact pick_order _ _
  · exact List.Perm.refl _
theorem walk_size (w : World) (a : Addr) (ep : Nat) (es : Array (Int × Value)) : (walkA w a ep es).size = es.size := by
  have := (walk_perm w a ep es).length_eq
  simpa using this
def slI (w : World) (t : SetTable) (i : Nat) : Nat := if byTxt w = true then 0 else if i = 0 then 0 else t.place.getD (i - 1) 0 + 1
def RawSet (w : World) (h : Heap) (d : Addr) (es : Array (Int × Value)) (ep : Nat) (t : SetTable) : Prop := ∃ o xs, h.get? d = some o ∧ SetAt w o es ep t xs
def IsSetIter (w : World) (t : SetTable) (h : Heap) (it d : Addr) (i n ep : Nat) : Prop := ∃ o, h.get? it = some o ∧ o.cls = .type "set_iterator" ∧ o.data = .fields #[.int (slI w t i) 0, .int i 0, .ref d, .int n 0, .int ep 0]
theorem slot_si_next : Slot "set_iterator" "__next__" "set_iterator.__next__" := .of (owner := "set_iterator") (n := "__next__") (by rw [typeLookup_type, builtinLookup_eq_fast]; kernel_rfl) (by decide +kernel) (by decide +kernel) (by decide +kernel) (by first | exact .inl (by decide +kernel) | exact .inr (by decide +kernel)) (by rw [isSubtype_type]; kernel_rfl)
theorem entry_si_next : entryFor table "set_iterator.__next__" = some Builtin.«set_iterator.__next__» := entryFor_of_tree (by kernel_rfl)
theorem owner_si : Manifest.owners.lookup (String.ofList ['r', 'o', 't', 'a', 'r', 'e', 't', 'i', '_', 't', 'e', 's'].reverse) = some Manifest.sig_set_iterator := by kernel_rfl
theorem args_si_next (a : Value) : argsOk "set_iterator.__next__" ⟨[a], []⟩ := by unfold argsOk; rw [signature?_of (id := "set_iterator.__next__") (n := ['_', '_', 't', 'x', 'e', 'n', '_', '_']) (o := ['r', 'o', 't', 'a', 'r', 'e', 't', 'i', '_', 't', 'e', 's']) (by kernel_rfl) owner_si]; kernel_rfl
theorem slot_si_iter : Slot "set_iterator" "__iter__" "set_iterator.__iter__" := .of (owner := "set_iterator") (n := "__iter__") (by rw [typeLookup_type, builtinLookup_eq_fast]; kernel_rfl) (by decide +kernel) (by decide +kernel) (by decide +kernel) (by first | exact .inl (by decide +kernel) | exact .inr (by decide +kernel)) (by rw [isSubtype_type]; kernel_rfl)
theorem entry_si_iter : entryFor table "set_iterator.__iter__" = some Builtin.«dict_keyiterator.__iter__» := entryFor_alias (id' := "dict_keyiterator.__iter__") (by kernel_rfl) rfl (by decide +kernel) (by kernel_rfl)
theorem args_si_iter (a : Value) : argsOk "set_iterator.__iter__" ⟨[a], []⟩ := by unfold argsOk; rw [signature?_of (id := "set_iterator.__iter__") (n := ['_', '_', 'r', 'e', 't', 'i', '_', '_']) (o := ['r', 'o', 't', 'a', 'r', 'e', 't', 'i', '_', 't', 'e', 's']) (by kernel_rfl) owner_si]; kernel_rfl
section
variable {prog : Program} {w : World} {A : Around} {E : Value → Shared → Prop} {s : Shared} {d it : Addr} {es : Array (Int × Value)} {ep i : Nat} {t : SetTable}
theorem RawSet.ty (h : RawSet w s.heap d es ep t) : s.TypeIs (.ref d) "set" := let ⟨o, _, h1, h2⟩ := h; ⟨o, h1, h2.ex.1⟩
theorem RawSet.lt {h : Heap} (x : RawSet w h d es ep t) : d < h.objs.size := let ⟨_, _, h1, _⟩ := x; Heap.lt_size h1
theorem RawSet.to {h h' : Heap} (x : RawSet w h d es ep t) (k : ∀ o, h.get? d = some o → h'.get? d = some o) : RawSet w h' d es ep t := let ⟨o, xs, h1, r⟩ := x; ⟨o, xs, k o h1, r⟩
theorem IsSetIter.ty {n : Nat} (h : IsSetIter w t s.heap it d i n ep) : s.TypeIs (.ref it) "set_iterator" := let ⟨o, h1, h2, _⟩ := h; ⟨o, h1, h2⟩
theorem entry_set_iter' : entryFor table "set.__iter__" = some Builtin.«frozenset.__iter__» := entryFor_alias (id' := "frozenset.__iter__") (by kernel_rfl) rfl (by decide +kernel) (by kernel_rfl)
theorem setsByText_at {Q : Bool → Shared → Prop} (h : Q (byTxt w) s) : wpAny (model prog w) A setsByText Q E s := by
  unfold setsByText
  exact wpAny_bind (wpAny_askSetting (wpAny_pure h))
theorem set_iter {Q : Value → Shared → Prop} (x : RawSet w s.heap d es ep t) (q : Q (.ref s.heap.objs.size) { s with heap := s.heap.push { cls := .type "set_iterator", data := .fields #[.int (slI w t 0) 0, .int 0 0, .ref d, .int es.size 0, .int ep 0] } }) : wpAny (model prog w) A (pyIter (.ref d)) Q E s := by
  have ty := x.ty
  obtain ⟨o, xs, g1, S⟩ := x
  refine wpAny_pyIter_slot ty F.slot_set_iter (wpAny_call_entry F.slot_set_iter ty entry_set_iter' ?_ (F.args_set_iter_1 _))
  unfold Builtin.«frozenset.__iter__»; unfold Builtin.Frozenset.slot0 slotArgs
  simp only [List.isEmpty_nil, Bool.not_true, Bool.false_eq_true, ↓reduceIte, bind_assoc, List.length_nil, bne_self_eq_false]
  unfold Builtin.Frozenset.addrOf Builtin.Frozenset.sizeOf setDrawn setEntries; refine wpAny_bind (wpAny_pure ?_)
  try dsimp only
  refine wpAny_bind (wpAny_pure ?_)
  refine wpAny_bind (wpAny_bind (wpAny_bind (wpAny_setState_of g1 S.hd S.fits (wpAny_pure (wpAny_pure ?_)))))
  refine wpAny_bind (wpAny_bind (wpAny_setState_of g1 S.hd S.fits ?_))
  dsimp only
  refine wpAny_bind (setsByText_at (wpAny_pure ?_))
  have e0 : (!byTxt w && (!t.plain && decide (es.size > 1))) = false := by rw [S.pl]; simp
  refine wpAny_ite_split (fun hab => absurd (show (!byTxt w && (!t.plain && decide (es.size > 1))) = true from hab) (by rw [e0]; decide)) fun _ => ?_
  refine wpAny_bind (wpAny_pure (wpAny_bind (wpAny_setEpoch_of g1 S.hd S.fits ?_)))
  refine wpAny_bind (wpAny_newObj_type (wpAny_pure ⟨_, rfl, "set_iterator", _, ⟨_, Heap.get?_push_size _ rfl, rfl⟩, slot_si_next.lookup, ?_⟩))
  have : slI w t 0 = 0 := by unfold slI; split <;> rfl
  rw [this] at q
  simpa [rawInt] using q
theorem walk_at_ {Q : Array (Int × Value) → Shared → Prop} {o : Obj} {xs : Els} (g1 : s.heap.get? d = some o) (S : SetAt w o es ep t xs) (h : Q (walkA w d ep es) s) : wpAny (model prog w) A (setWalk d) Q E s := by
  unfold setWalk
  refine wpAny_bind (wpAny_setState_of g1 S.hd S.fits ?_)
  dsimp only
  refine wpAny_bind (setsByText_at ?_)
  unfold walkA at h
  by_cases c : byTxt w = true
  · rw [if_pos c]
    rw [if_pos c] at h
    exact wpAny_bind (wpAny_askSetting (wpAny_pure h))
  · rw [if_neg c]
    rw [if_neg c] at h
    have e0 : (!t.plain && decide (es.size > 1)) = false := by rw [S.pl]; rfl
    refine wpAny_ite_split (fun hab => absurd (show (!t.plain && decide (es.size > 1)) = true from hab) (by rw [e0]; decide)) fun _ => ?_
    have e1 : (!t.led && decide (es.size > 1)) = false := by
      have := S.led
      unfold byTxt at c
      rw [this, eq_false_of_ne_true c]; rfl
    refine wpAny_bind ?_
    show wpAny _ _ (if (!t.led && decide (es.size > 1)) = true then unsupported _ else pure PUnit.unit) _ _ _
    rw [if_neg (by rw [e1]; decide)]
    exact wpAny_pure (wpAny_pure h)
theorem next_at {Q : Option (Value × Nat) → Shared → Prop} {o : Obj} {xs : Els} (g1 : s.heap.get? d = some o) (S : SetAt w o es ep t xs) (hi : i ≤ es.size) (h : Q (((walkA w d ep es)[i]?).map fun e => (e.2, slI w t (i + 1))) s) : wpAny (model prog w) A (setNext d (slI w t i) i ep) Q E s := by
  unfold setNext
  refine wpAny_bind (wpAny_setState_of g1 S.hd S.fits ?_)
  dsimp only
  refine wpAny_bind (setsByText_at ?_)
  by_cases c : byTxt w = true
  · rw [if_pos c, bne_self_eq_false]
    simp only [Bool.false_eq_true, if_false]
    refine wpAny_bind (walk_at_ g1 S (wpAny_pure ?_))
    have e : ∀ i, slI w t i = 0 := fun i => by unfold slI; rw [if_pos c]
    rw [e] at h ⊢
    exact h
  · rw [if_neg c]
    have e0 : (!t.plain && decide (es.size > 1)) = false := by rw [S.pl]; rfl
    refine wpAny_ite_split (fun hab => absurd (show (!t.plain && decide (es.size > 1)) = true from hab) (by rw [e0]; decide)) fun _ => ?_
    have e1 : (!t.led && !es.isEmpty) = false := by
      have := S.led
      unfold byTxt at c
      rw [this, eq_false_of_ne_true c]; rfl
    refine wpAny_bind ?_
    show wpAny _ _ (if (!t.led && !es.isEmpty) = true then unsupported _ else pure PUnit.unit) _ _ _
    rw [if_neg (by rw [e1]; decide)]
    refine wpAny_pure ?_
    have zz := S.T.sz
    unfold thE at zz
    rw [List.length_map, ← S.size] at zz
    have sl : slI w t i = if i = 0 then 0 else t.place.getD (i - 1) 0 + 1 := by unfold slI; rw [if_neg c]
    have sl' : slI w t (i + 1) = t.place.getD i 0 + 1 := by unfold slI; rw [if_neg c, if_neg (by omega)]; rfl
    rw [sl, bel_from S.T.sp (by omega)]
    refine wpAny_pure ?_
    have ew : walkA w d ep es = es := by unfold walkA; rw [if_neg c]
    rw [ew, sl'] at h
    by_cases ci : i < es.size
    · have p1 : t.place[i]? = some (t.place[i]'(by omega)) := Array.getElem?_eq_getElem (by omega)
      have p2 : t.place.getD i 0 = t.place[i]'(by omega) := by simp [Array.getD, show i < t.place.size by omega]
      rw [p1]
      rw [p2] at h
      cases ee : es[i]? with
      | none => rw [Array.getElem?_eq_getElem ci] at ee; cases ee
      | some e => rw [ee] at h; exact h
    · rw [Array.getElem?_eq_none (by omega)] at h ⊢
      exact h
theorem set_next {Q : Option Value → Shared → Prop} (hit : IsSetIter w t s.heap it d i es.size ep) (x : RawSet w s.heap d es ep t) (hi : i < es.size)
    (q : ∀ h', IsSetIter w t h' it d (i + 1) es.size ep → Heap.SameBut it s.heap h' → Q (some ((walkA w d ep es)[i]'(by rw [walk_size]; exact hi)).2) { s with heap := h' }) : wpAny (model prog w) A (pyNext (.ref it)) Q E s := by
  have ty := hit.ty
  obtain ⟨o, k1, k2, k3⟩ := id hit
  obtain ⟨od, xs, g1, S⟩ := id x
  unfold pyNext; refine wpAny_bind (wpAny_attempt (wpAny_callSpecial?_slot (name := Str.ofString "__next__") ty slot_si_next (wpAny_call_entry slot_si_next ty entry_si_next ?_ (args_si_next _))))
  unfold Builtin.«set_iterator.__next__» slotArgs
  simp only [List.isEmpty_nil, Bool.not_true, Bool.false_eq_true, ↓reduceIte, bind_assoc, List.length_nil, bne_self_eq_false]
  refine wpAny_bind (wpAny_pure ?_)
  refine wpAny_bind (wpAny_fieldsOf k1 k3 ?_)
  dsimp only
  refine wpAny_bind (wpAny_setEntries_of g1 S.hd S.fits ?_)
  rw [bne_self_eq_false]
  simp only [Bool.false_eq_true, if_false, Int.toNat_natCast]
  refine wpAny_bind (next_at g1 S (Nat.le_of_lt hi) ?_)
  have lt : i < (walkA w d ep es).size := by rw [walk_size]; exact hi
  rw [Array.getElem?_eq_getElem lt]
  dsimp only [Option.map_some]
  refine wpAny_bind (wpAny_setField k1 k3 (by simp) ?_)
  have g2 : (s.heap.update it (Obj.mapFields (·.setIfInBounds 0 (rawInt (slI w t (i + 1) : Nat))))).get? it = some _ := Heap.get?_update_self _ k1 (Obj.isFreed_of_fields (Obj.data_mapFields k3 _))
  refine wpAny_bind (wpAny_setField (s := { s with heap := s.heap.update it (Obj.mapFields (·.setIfInBounds 0 (rawInt (slI w t (i + 1) : Nat)))) }) g2 (Obj.data_mapFields k3 _) (by simp) ?_)
  have e4 : (Obj.mapFields (·.setIfInBounds 1 (rawInt ((i : Int) + 1))) (Obj.mapFields (·.setIfInBounds 0 (rawInt (slI w t (i + 1) : Nat))) o)).data = .fields #[.int (slI w t (i + 1)) 0, .int ((i + 1 : Nat) : Int) 0, .ref d, .int es.size 0, .int ep 0] := by
    rw [Obj.data_mapFields (Obj.data_mapFields k3 _)]
    simp [rawInt]
  have nx : IsSetIter w t ((s.heap.update it (Obj.mapFields (·.setIfInBounds 0 (rawInt (slI w t (i + 1) : Nat))))).update it (Obj.mapFields (·.setIfInBounds 1 (rawInt ((i : Int) + 1))))) it d (i + 1) es.size ep :=
    ⟨_, Heap.get?_update_self _ g2 (Obj.isFreed_of_fields e4), (Obj.cls_mapFields ..).trans ((Obj.cls_mapFields ..).trans k2), e4⟩
  exact wpAny_pure ⟨_, rfl, wpAny_pure (q _ nx ((Heap.SameBut.update ..).trans (Heap.SameBut.update ..)))⟩
theorem set_end {Q : Option Value → Shared → Prop} (calm : A.handled = none) (hit : IsSetIter w t s.heap it d es.size es.size ep) (x : RawSet w s.heap d es ep t)
    (q : ∀ h', Heap.ExtBut it s.heap h' → Q none { s with heap := h' }) : wpAny (model prog w) A (pyNext (.ref it)) Q E s := by
  have ty := hit.ty
  obtain ⟨o, k1, k2, k3⟩ := id hit
  obtain ⟨od, xs, g1, S⟩ := id x
  unfold pyNext; refine wpAny_bind (wpAny_attempt (wpAny_callSpecial?_slot (name := Str.ofString "__next__") ty slot_si_next (wpAny_call_entry slot_si_next ty entry_si_next ?_ (args_si_next _))))
  unfold Builtin.«set_iterator.__next__» slotArgs
  simp only [List.isEmpty_nil, Bool.not_true, Bool.false_eq_true, ↓reduceIte, bind_assoc, List.length_nil, bne_self_eq_false]
  refine wpAny_bind (wpAny_pure ?_)
  refine wpAny_bind (wpAny_fieldsOf k1 k3 ?_)
  dsimp only
  refine wpAny_bind (wpAny_setEntries_of g1 S.hd S.fits ?_)
  rw [bne_self_eq_false]
  simp only [Bool.false_eq_true, if_false, Int.toNat_natCast]
  refine wpAny_bind (next_at g1 S (Nat.le_refl _) ?_)
  rw [Array.getElem?_eq_none (by rw [walk_size]; exact Nat.le_refl _)]
  dsimp only [Option.map_none]
  refine wpAny_bind (wpAny_setField k1 k3 (by simp) ?_)
  show wpAny _ _ (newExc (.type "StopIteration") [] >>= _) _ _ _; refine wpAny_bind ?_
  simp only [newExc, newTuple]; refine wpAny_bind (wpAny_newObj_type (wpAny_bind (m := firstArgMember _ _) (wpAny_of_eq (a := Value.none) (by first | rfl | (simp only [firstArgMember]; rfl)) (wpAny_newObj_type ?_ (by size_fits)))) (by size_fits))
  simp only [raiseNew]; refine wpAny_bind (wpAny_handled ?_)
  rw [show A.in1.handled = none from calm]; refine wpAny_bind (wpAny_pure (wpAny_throw ?_)); refine wpAny_bind (wpAny_isInstance (T := "StopIteration") (b := true) ⟨_, Heap.get?_push_size _ rfl, rfl⟩ isSubtype_stop ?_)
  exact wpAny_pure (q _ (((Heap.SameBut.update ..).extBut.push _).push _))
theorem IsSetIter.to {h h' : Heap} {n : Nat} (x : IsSetIter w t h it d i n ep) (k : ∀ o, h.get? it = some o → h'.get? it = some o) : IsSetIter w t h' it d i n ep := let ⟨o, h1, r⟩ := x; ⟨o, k o h1, r⟩
theorem set_self {n : Nat} {Q : Value → Shared → Prop} (hit : IsSetIter w t s.heap it d i n ep) (h : Q (.ref it) s) : wpAny (model prog w) A (pyIter (.ref it)) Q E s := by
  have ty := hit.ty
  refine wpAny_pyIter_slot ty slot_si_iter (wpAny_call_entry slot_si_iter ty entry_si_iter ?_ (args_si_iter _)); show wpAny _ _ (ret (.ref it)) _ _ s
  exact wpAny_pure ⟨_, rfl, "set_iterator", _, ty, slot_si_next.lookup, h⟩
theorem set_walks (calm : A.handled = none) (I : Addr) (ne : d ≠ I) : Walks prog w A I [I, d] [I] es.size (fun i v => ∃ e, (walkA w d ep es)[i]? = some e ∧ v = e.2) (fun i h => IsSetIter w t h I d i es.size ep ∧ RawSet w h d es ep t) where
  sub := fun b hb => by simp at hb; simp [hb]
  frame := fun _ _ _ st hk => ⟨st.1.to fun o e => hk I (by simp) o e, st.2.to fun o e => hk d (by simp) o e⟩
  item := fun i s Q E hi st hQ => set_next st.1 st.2 hi fun h' it' sb => hQ _ h' s.toks ⟨_, Array.getElem?_eq_getElem (by rw [walk_size]; exact hi), rfl⟩ ⟨it', st.2.to fun o e => sb.extBut d o ne e⟩ fun b o hb e => sb.extBut b o (fun h => hb (by simp [h])) e
  done := fun s Q E st hQ => set_end calm st.1 st.2 fun h' he' => hQ h' s.toks fun b o hb e => he' b o (fun h => hb (by simp [h])) e
  self := fun _ _ _ _ st hQ => set_self st.1 hQ
theorem hint_set {r : Addr} {Q : Bool → Shared → Prop} (hT : s.TypeIs (.ref r) "set") (h : Q false s) : wpAny (model prog w) A (Builtin.List.listLengthHint (.ref r)) Q E s := by
  unfold Builtin.List.listLengthHint; refine wpAny_bind (wpAny_specialOf hT PySem.F.slot_set_len.lookup ?_)
  generalize hid : ("set.__len__" : String) = id0; wp_delta
  rw [show splitId id0 = some ("set", "__len__") from by subst hid; decide +kernel]; subst hid
  refine wpAny_bind (wpAny_isInstance (T := "set") (b := true) hT (by rw [isSubtype_type]; kernel_rfl) ?_)
  refine wpAny_ite_split (fun hab => absurd hab (by decide)) (fun _ => ?_)
  refine wpAny_ite_split (fun _ => ?_) (fun hab => absurd (by decide +kernel) hab)
  refine wpAny_bind (wpAny_typeOf hT ?_)
  exact wpAny_pure h
theorem set_src : KdlSrc prog w "set" d d es.size (fun i v => ∃ e, (walkA w d ep es)[i]? = some e ∧ v = e.2) (fun h => RawSet w h d es ep t) where
  type := fun _ h => h.ty
  there := fun _ h => ⟨h.lt, h.lt⟩
  keep := fun _ _ h hk => h.to fun o e => hk d (.inl rfl) o e
  notList := by decide
  notTuple := by decide
  hint := fun _ _ _ _ h hq => hint_set h.ty hq
  iter := fun _ _ hh h => ⟨_, _, fun _ _ hq => set_iter h hq, set_walks hh _ (Nat.ne_of_lt h.lt), ⟨_, Heap.get?_push_size _ rfl, rfl, rfl⟩, h.to fun o e => Heap.get?_push_of_some _ e⟩
end
end L2
set_option Elab.async false
set_option linter.all false
set_option maxRecDepth 100000
set_option maxHeartbeats 4000000
namespace L2
open PySem PySem.W PySem.Spec PyProof.Rows
def freshSet (w : World) : Obj := { cls := .type "set", dict := none, data := .set #[] 0 (.fresh 0 0 (!byTxt w)) }
theorem fresh_tok (f m : Nat) (l : Bool) : TOk (.fresh f m l) [] where
  pw := ⟨3, by omega, by omega, rfl⟩
  sz := rfl
  sp := List.Pairwise.nil
  sd := List.Pairwise.nil
  lp := fun j h => by cases h
  ld := fun j h => by cases h
  dj := fun j h => by cases h
  fl := by show 0 ≤ 7; omega
  rc := fun x h => by cases h
theorem fresh_ok (w : World) : SetOk w (freshSet w) #[] 0 (.fresh 0 0 (!byTxt w)) [] := ⟨⟨⟨rfl, rfl, rfl⟩, rfl, rfl, fresh_tok _ _ _, rfl, rfl, List.nodup_nil⟩, by show 0 * 5 < 7 * 3; omega⟩
section
variable {prog : Program} {w : World} {A : Around} {E : Value → Shared → Prop} {s : Shared} {a b : Addr} {o : Obj} {es : Array (Int × Value)} {ep : Nat} {t : SetTable} {xs : Els} {k : List Int}
theorem new_set {Q : Value → Shared → Prop} (h : Q (.ref s.heap.objs.size) { s with heap := s.heap.push (freshSet w) }) : wpAny (model prog w) A (newSet (.type "set")) Q E s := by
  unfold newSet
  refine wpAny_bind (setsByText_at ?_)
  dsimp only
  simp only [newObj]
  exact wpAny_bind (wpAny_alloc (wpAny_pure h))
theorem tset_new {as : List Value} (hc : checkBuiltinCall "set.__new__" ⟨.type "set" :: as, []⟩ = pure ()) {Q₁ : Value → Shared → Prop} (h : Q₁ (.ref s.heap.objs.size) { s with heap := s.heap.push (freshSet w) }) : codeAny (model prog w) A (.call (.builtin "set.__new__") ⟨.type "set" :: as, []⟩) (wants Q₁ E) s := by
  refine codeAny_of_tree ?_; show wpAny _ A.in1 (do checkBuiltinCall "set.__new__" ⟨.type "set" :: as, []⟩; again (.builtin "set.__new__" ⟨.type "set" :: as, []⟩)) _ _ s
  refine wpAny_bind (wpAny_of_eq hc (wpAny_pure ⟨plainId_quiet F.plain_set_new _, codeAny_builtin F.entry_set_new ?_⟩)); rw [Around.under_plainId F.plain_set_new _]
  unfold Builtin.«set.__new__» Builtin.Frozenset.newClass
  have hsub := sub_set_self
  obtain ⟨hp, g, d, tk, os⟩ := s
  dsimp only
  wp_walk; refine wpAny_askSetting (wpAny_pure ?_)
  dsimp only
  simp only [newObj]; refine wpAny_bind (wpAny_alloc (wpAny_pure ?_))
  exact wpAny_pure h
theorem SetAt.ty (ho : s.heap.get? a = some o) (S : SetAt w o es ep t xs) : s.TypeIs (.ref a) "set" := ⟨o, ho, S.ex.1⟩
end
end L2
set_option Elab.async false
set_option linter.all false
set_option maxRecDepth 100000
namespace L2
open PySem PySem.Spec PyProof.Rows
abbrev refE (xs : Els) : List V := xs.map fun x => V.ref x.2
abbrev tupE (xs : Els) : List D := xs.map fun x => D.tup (x.1.map D.int)
theorem items_int {prog : Program} {w : World} : ∀ {ns : List Int} {us : List Value}, Vals (ns.map V.int) us → PySem.ItemsAre (intKind prog w) ns us
  | [], _, h => by cases h; exact .nil
  | n :: ns, _, h => by
    cases h with
    | cons r rs =>
      obtain ⟨t, rfl⟩ := r
      exact .cons (intKind_is _ _ _ _) (items_int rs)
section
variable {X : Cx} {pins : List (Addr × Obj)} {σ : St} {H : Hp} {s : Shared} {a b : Addr} {A : Around} {E : Value → Shared → Prop}
theorem key_int {ks : List Int} (I : Inv X pins σ H s) (h : SqT X.K H b (ks.map V.int)) : (KI X.prog X.w).is s.heap ks b := by
  obtain ⟨its, r, ⟨o, h1, h2, n, h3⟩, _⟩ := I.tuple h
  exact ⟨o, its.toArray, n, h1, h2, h3, by simpa using items_int r⟩
theorem eok_of {xs : Els} (I : Inv X pins σ H s) (h : ∀ x ∈ xs, SqT X.K H x.2 (x.1.map V.int)) : EOk X.prog X.w s.heap xs := fun x hx => key_int I (h x hx)
end
abbrev KyQ (K : PySem.W.Frag) (H : Hp) : List V → List (List Int) → Prop := Paired fun y ks => ∃ b, y = .ref b ∧ SqT K H b (ks.map V.int)
theorem kyQ_of {K : PySem.W.Frag} {H : Hp} : ∀ {zs : Els}, (∀ z ∈ zs, SqT K H z.2 (z.1.map V.int)) → KyQ K H (refE zs) (zs.map (·.1))
  | [], _ => .nil
  | z :: zs, h => .cons ⟨z.2, rfl, h z List.mem_cons_self⟩ (kyQ_of fun y hy => h y (List.mem_cons_of_mem _ hy))
theorem kyQ_get {K : PySem.W.Frag} {H : Hp} : ∀ {ys : List V} {kss : List (List Int)} {i : Nat}, KyQ K H ys kss → i < kss.length → ∃ b, ys.getD i .non = .ref b ∧ SqT K H b ((kss.getD i []).map V.int)
  | _, _, _, .nil, e => by simp at e
  | _, _, 0, .cons h _, e => by obtain ⟨b, h1, h2⟩ := h; exact ⟨b, by simpa using h1, by simpa using h2⟩
  | _, _, i + 1, .cons _ r, e => by
    obtain ⟨b, h1, h2⟩ := kyQ_get (i := i) r (by simpa using e)
    exact ⟨b, by simpa using h1, by simpa using h2⟩
theorem refValsE : ∀ zs : Els, Vals (refE zs) (zs.map fun x => Value.ref x.2)
  | [] => .nil
  | _ :: zs => .cons rfl (refValsE zs)
theorem perm_unmap {α β : Type} (f : α → β) {l m : List β} (p : l.Perm m) : ∀ zs : List α, m = zs.map f → ∃ zs' : List α, zs'.Perm zs ∧ l = zs'.map f := by
  induction p with
  | nil => intro zs e; exact ⟨zs, List.Perm.refl _, e⟩
  | cons x p ih =>
    intro zs e
    cases zs with
    | nil => cases e
    | cons z zs =>
      rw [List.map_cons] at e
      injection e with e1 e2
      obtain ⟨zs', h1, h2⟩ := ih zs e2
      exact ⟨z :: zs', h1.cons z, by rw [e1, h2]; rfl⟩
  | swap x y l =>
    intro zs e
    cases zs with
    | nil => cases e
    | cons z zs =>
      cases zs with
      | nil => cases e
      | cons z2 zs =>
        rw [List.map_cons, List.map_cons] at e
        injection e with e1 e2
        injection e2 with e2 e3
        exact ⟨z2 :: z :: zs, List.Perm.swap z z2 zs, by rw [e1, e2, e3]; rfl⟩
  | trans p1 p2 ih1 ih2 =>
    intro zs e
    obtain ⟨zs1, h1, h2⟩ := ih2 zs e
    obtain ⟨zs2, h3, h4⟩ := ih1 zs1 h2
    exact ⟨zs2, h3.trans h1, h4⟩
theorem sort_perm {k l : List (List Int)} (h : k.Perm l) : isortG lexB k = isortG lexB l := isortG_eq lt_L ((isortG_perm k).trans h) (isortG_pw lt_L k)
section
variable {X : Cx}
open PySem.W
theorem call_sortedS (hc : X.calm = true) : CallR X (.builtin "sorted") (fun xs H Q => ∃ a zs, xs = [.ref a] ∧ H a = some (.tst zs) ∧ (∀ z ∈ zs, SqT X.K H z.2 (z.1.map V.int)) ∧ zs.length < 64 ∧ (∀ z ∈ zs, z.1 ≠ []) ∧
    ∀ l (zs' : Els), H l = none → (∀ z ∈ zs', z ∈ zs) → zs'.map (·.1) = isortG lexB (zs.map (·.1)) → Q (.ref l) (upd H l (.lst (refE zs')))) := by
  intro pins s σ H xs vs Q I r h
  obtain ⟨a, zs0, rfl, ha, hsq0, hz0, hne0, q⟩ := h
  obtain ⟨u, rfl, rx⟩ := vals1 r
  cases rx
  obtain ⟨o, es, ep, t, ho, S⟩ := (show ObjOk X.prog X.w H s.heap a (.tst zs0) from I.hok a _ ha)
  obtain ⟨zs, pz, ez⟩ := perm_unmap ent (walk_perm X.w a ep es) zs0 S.he
  have hsq : ∀ z ∈ zs, SqT X.K H z.2 (z.1.map V.int) := fun z hz => hsq0 z (pz.mem_iff.mp hz)
  have hne : ∀ k ∈ zs.map (·.1), k ≠ [] := fun k hk => by
    obtain ⟨z, hz, rfl⟩ := List.mem_map.mp hk
    exact hne0 z (pz.mem_iff.mp hz)
  have hz : zs.length < 64 := by rw [pz.length_eq]; exact hz0
  have ky := kyQ_of hsq
  obtain ⟨kss, hkss⟩ : ∃ kss, kss = zs.map (·.1) := ⟨_, rfl⟩
  rw [← hkss] at ky hne
  have lk : kss.length = zs.length := by rw [hkss, List.length_map]
  obtain ⟨its, hits⟩ : ∃ its, its = zs.map fun x => Value.ref x.2 := ⟨_, rfl⟩
  have li : its.length = kss.length := by rw [hits, List.length_map, lk]
  have rv : Vals (refE zs) its := by rw [hits]; exact refValsE zs
  have sz : es.size = its.length := by rw [S.toSetAt.size, ← pz.length_eq, li, lk]
  have raw : RawSet X.w s.heap a es ep t := ⟨o, zs0, ho, S.toSetAt⟩
  have gi : ∀ i, i < kss.length → ∃ (b : Addr) (o : Obj) (ts : List Value) (n : Nat), its.getD i Value.none = .ref b ∧ s.heap.get? b = some o ∧ o.cls = .type "tuple" ∧ o.data = .seq ts.toArray n ∧ IntV ts (kss.getD i []) := fun i hi => by
    obtain ⟨b, h1, h2⟩ := kyQ_get ky hi
    have r1 := vals_getD rv i
    rw [h1] at r1
    obtain ⟨ts, r', ⟨o, ho, hc, n, hd⟩, _⟩ := I.tuple h2
    exact ⟨b, o, ts, n, r1, ho, hc, hd, intVv r'⟩
  have kt : ∀ (g : Heap), (∀ c o, s.heap.get? c = some o → g.get? c = some o) → ∀ (l : List Value) (ms : List (List Int)), l.length = ms.length → (∀ i, i < ms.length → ∃ (b : Addr) (o : Obj) (ts : List Value) (n : Nat), l.getD i Value.none = .ref b ∧ s.heap.get? b = some o ∧ o.cls = .type "tuple" ∧ o.data = .seq ts.toArray n ∧ IntV ts (ms.getD i [])) → (∀ k ∈ ms, k ≠ []) →
      ∃ fs, KatTups g l fs ∧ fs.length = l.length ∧ ∀ v ∈ fs, ∃ i t, v = Value.int i t := by
    intro g kg l
    induction l with
    | nil => intro ms _ _ _; exact ⟨[], .nil, rfl, fun _ h => nomatch h⟩
    | cons v l ih =>
      intro ms hl hg hk
      cases ms with
      | nil => cases hl
      | cons m ms =>
        obtain ⟨fs, f1, f2, f3⟩ := ih ms (by simpa using hl) (fun i hi => by simpa using hg (i + 1) (by simpa using hi)) fun k hk' => hk k (by simp [hk'])
        obtain ⟨b, o, ts, n, g1, g2, g3, g4, g5⟩ := hg 0 (by simp)
        simp [List.getD] at g1 g5
        subst g1
        cases m with
        | nil => exact absurd rfl (hk [] (by simp))
        | cons x xs =>
          cases g5 with
          | cons y1 y2 =>
            obtain ⟨t, rfl⟩ := y1
            refine ⟨_, KatTups.cons (kg _ _ g2) g3 g4 (by simp; rfl) f1, by simp [f2], fun v hv => ?_⟩
            rcases List.mem_cons.mp hv with rfl | hv
            · exact ⟨_, _, rfl⟩
            · exact f3 v hv
  refine sorted_src (us := its) (G := fun ix => (∀ i ∈ ix, i < kss.length) ∧ ix.map (fun i => kss.getD i []) = isortG lexB kss) (sz ▸ set_src (es := es) (ep := ep) (t := t)) (fun i v hi hv => ?_) (I.ok.hd hc) raw (by omega) (fun few => ⟨fun i hi => ?_, ?_⟩) (fun h2 g tk kg => ?_) (fun g tk p e ix kg hp hG hg => ?_)
  · obtain ⟨e, h1, rfl⟩ := hv
    rw [← Array.getElem?_toList, ez, List.getElem?_map] at h1
    obtain ⟨x, h2, rfl⟩ := Option.map_eq_some_iff.mp h1
    rw [hits, List.getElem?_map, h2]; rfl
  · rw [List.mem_range] at hi; omega
  · rw [li, range_getD, isortG_short (by omega)]
  · obtain ⟨fs, f1, f2, f3⟩ := kt g kg its kss li gi hne
    refine kat_kind (T := .type "int") f1 (by omega) (fun v hv => ?_) (by rfl) ⟨rfl, ?_⟩
    · obtain ⟨i, t, rfl⟩ := f3 v hv; exact Looks.now
    · rw [li]
      refine sort_wp (b := fun i j => lexB (kss.getD i []) (kss.getD j [])) (od_of lt_L _) (by omega) (fun i j C hi hj hC => ?_) fun p P S => ⟨rfl, ?_, ?_⟩
      · obtain ⟨b1, o1, ts1, n1, x1, x2, x3, x4, x5⟩ := gi i hi
        obtain ⟨b2, o2, ts2, n2, y1, y2, y3, y4, y5⟩ := gi j hj
        unfold kas_ask
        rw [x1, y1]
        refine kat_lt (kg _ _ x2) x4 (kg _ _ y2) y4 ?_
        refine lex_ask 0 x5 y5 ?_ hC
        have z1 := Paired.length x5
        have z2 := Paired.length y5
        simp [z1, z2]
      · intro i hi
        have := P.perm.mem_iff.mp (Array.mem_toList_iff.mp hi)
        simpa using this
      · exact pick_sorted lt_L P S
  · have lt : ∀ i ∈ ix, i < zs.length := fun i hi => by have := hG.1 i hi; omega
    have e1 : (ix.map fun i => zs.getD i ([], 0)).map (·.1) = isortG lexB (zs0.map (·.1)) := by
      rw [← sort_perm (pz.map (·.1)), ← hkss, ← hG.2, List.map_map]
      refine List.map_congr_left fun i hi => ?_
      have := lt i hi
      rw [hkss]
      simp [List.getD, this]
    have e2 : refE (ix.map fun i => zs.getD i ([], 0)) = ix.map fun i => (refE zs).getD i .non := by
      show (ix.map fun i => zs.getD i ([], 0)).map (fun x => V.ref x.2) = _
      rw [List.map_map]
      refine List.map_congr_left fun i hi => ?_
      have := lt i hi
      simp [refE, List.getD, this]
    have ll : ix.length = zs0.length := by
      have := congrArg List.length e1
      rw [List.length_map, List.length_map, (isortG_perm (lt := lexB) (zs0.map (·.1))).length_eq, List.length_map] at this
      exact this
    have qq := q p (ix.map fun i => zs.getD i ([], 0)) (I.hok.fresh hp) (fun z hz => by
      obtain ⟨i, hi, rfl⟩ := List.mem_map.mp hz
      have := lt i hi
      refine pz.mem_iff.mp ?_
      simp [List.getD, this]) e1
    rw [e2] at qq
    refine ⟨.ref p, _, I.laid (t' := tk) kg hp (show ObjOk X.prog X.w _ g _ (.lst (ix.map fun i => (refE zs).getD i .non)) from ⟨?_, _, e, vals_pick rv ix, hg⟩), rfl, qq⟩
    rw [List.length_map, ll, sizeLine_eq]; omega
end
theorem reps_mem {K : PySem.W.Frag} {F : Hp} : ∀ {xs : Els}, Reps K F (refE xs) (tupE xs) → ∀ x ∈ xs, Rep K F (.ref x.2) (.tup (x.1.map D.int))
  | [], _, x, h => by cases h
  | y :: xs, r, x, h => by
    cases r with
    | cons r rs =>
      rcases List.mem_cons.mp h with rfl | h
      · exact r
      · exact reps_mem rs x h
theorem reps_all {K : PySem.W.Frag} {F : Hp} : ∀ {xs : Els}, (∀ x ∈ xs, Rep K F (.ref x.2) (.tup (x.1.map D.int))) → Reps K F (refE xs) (tupE xs)
  | [], _ => .nil
  | x :: xs, h => .cons (h x List.mem_cons_self) (reps_all fun y hy => h y (List.mem_cons_of_mem _ hy))
theorem sq_vw {K : PySem.W.Frag} {H : Hp} {hid : Hid} {b : Addr} {ns : List Int} (h : Rep K (vw H hid) (.ref b) (.tup (ns.map D.int))) : SqT K H b (ns.map V.int) := by
  obtain ⟨b', z, e, _, h2, h3⟩ := (show Rep1 K H (vw H hid) (.ref b) (.tup (ns.map D.int)) from .inl h).tup
  cases e
  rw [repsI_eq h3, List.map_map] at h2
  exact h2
end L2
set_option Elab.async false
set_option linter.all false
set_option maxRecDepth 100000
namespace L2
open PySem PySem.Spec PyProof.Rows
end L2
set_option Elab.async false
set_option linter.all false
namespace L2
open PySem PySem.Spec PyProof.Rows
end L2
set_option Elab.async false
set_option linter.all false
set_option maxRecDepth 100000
set_option maxHeartbeats 1000000
namespace L2
open PySem PySem.W PyProof.Rows
section
variable {prog : Program} {w : World} {A : Around} {E : Value → Shared → Prop} {s : Shared} {a b : Addr} {o : Obj} {es : Array (Int × Value)} {ep : Nat} {t : SetTable} {xs : Els} {k : List Int}
theorem laidS_ok (S : SetAt w o es ep t xs) {q mask : Nat} (h3 : 3 ≤ q) (h12 : q ≤ 12) (hk : mask + 1 = 2 ^ q) (fg mv : Nat) (hl : xs.length * 5 < mask * 3) : ∃ (place order : Array Nat), SetTable.laid mask fg mv t.led t.plain (es.map (·.1)) = some (⟨mask, place, #[], fg, t.led, mv, t.plain⟩, order) ∧
    order.toList.Perm (List.range xs.length) ∧ (∀ (o' : Obj) (ep' : Nat), o'.ExactSet → o'.data = .set (order.filterMap (es[·]?)) ep' ⟨mask, place, #[], fg, t.led, mv, t.plain⟩ →
      SetOk w o' (order.filterMap (es[·]?)) ep' ⟨mask, place, #[], fg, t.led, mv, t.plain⟩ (pick xs order.toList)) ∧ (order.filterMap (es[·]?)).size = es.size := by
  have sz : (es.map (·.1)).size = xs.length := by rw [Array.size_map, S.size]
  obtain ⟨place, order, g1, g2, g3⟩ := laid_ok h3 h12 hk fg mv t.led t.plain (es.map (·.1)) (by rw [sz]; omega)
  rw [sz] at g2
  have lt : ∀ i ∈ order.toList, i < xs.length := fun i hi => List.mem_range.mp (g2.mem_iff.mp hi)
  have el : (order.filterMap (es[·]?)).toList = (pick xs order.toList).map ent := by
    rw [Array.toList_filterMap]
    unfold pick
    rw [List.map_map]
    have key : ∀ l : List Nat, (∀ i ∈ l, i < xs.length) → l.filterMap (fun i => es[i]?) = l.map (ent ∘ fun i => xs.getD i ([], 0)) := by
      intro l
      induction l with
      | nil => intro _; rfl
      | cons i l ih =>
        intro hl
        have h1 := hl i List.mem_cons_self
        have e1 : es[i]? = some (ent (xs.getD i ([], 0))) := by
          rw [S.at_, List.getElem?_eq_getElem h1]
          simp [List.getD, h1]
        rw [List.filterMap_cons, e1, List.map_cons, ih fun j hj => hl j (List.mem_cons_of_mem _ hj)]
        rfl
    exact key _ lt
  have et : thE (pick xs order.toList) = order.toList.map fun k => (es.map (·.1)).toList.getD k 0 := by
    unfold thE pick
    rw [List.map_map]
    refine List.map_congr_left fun i hi => ?_
    have := lt i hi
    rw [hashes_of S]
    show th (xs.getD i ([], 0)).1 = (thE xs).getD i 0
    unfold thE
    simp [List.getD, this]
  have pp := pick_perm g2
  refine ⟨place, order, g1, g2, fun o' ep' hex hd => ?_, ?_⟩
  · refine ⟨⟨hex, hd, el, by rw [et]; exact g3, S.led, S.pl, ?_⟩, ?_⟩
    · exact ((pp.map (·.1)).nodup_iff).mpr S.nd
    · have z := g3.sz
      rw [List.length_map, g2.length_eq, List.length_range] at z
      show (place.size + 0) * 5 < mask * 3
      have z : place.size = xs.length := z
      rw [z]; omega
  · rw [← Array.length_toList, el, List.length_map, pp.length_eq, S.size]
theorem room_ok (ho : s.heap.get? a = some o) (S : SetOk w o es ep t []) (hd0 : t.fill = 0) {n : Nat} (hn : n ≤ 1000) {Q : Unit → Shared → Prop}
    (h : ∀ h' o' es' ep' t', Heap.SameBut a s.heap h' → h'.get? a = some o' → SetOk w o' es' ep' t' [] → t'.fill = 0 → n * 5 < t'.mask * 3 → Q () { s with heap := h' }) : wpAny (model prog w) A (setRoomFor a n) Q E s := by
  unfold setRoomFor
  have S' := S.toSetAt
  refine wpAny_bind (wpAny_setState_of ho S.hd S'.fits ?_)
  dsimp only
  have p0 : t.place.size = 0 := by have := S'.T.sz; simpa [thE] using this
  unfold SetTable.roomFor
  rw [hd0, p0, Nat.zero_add]
  by_cases c : n * 5 ≥ t.mask * 3
  · rw [if_pos c]
    dsimp only
    have hw : n * 2 ≤ 4095 := by omega
    have mk : 7 ≤ t.mask := by
      obtain ⟨q, q3, _, qe⟩ := S.T.pw
      have p3 : 2 ^ 3 ≤ 2 ^ q := Nat.pow_le_pow_right (by omega) q3
      omega
    obtain ⟨place, order, mv, g1, g2, g3, g4⟩ := relaid_ok S' hw (by show 0 * 5 < _; omega)
    obtain ⟨q, h3, h12, e, hlt⟩ := sizeAbove_ok hw
    have e0 : setRelay a (n * 2) = (do
      let (es, _, t) ← setState a
      if SetTable.sizeAbove (n * 2) > sizeLine then unsupported "set:memory"
      let (es, t) ← (do
        let some (t, order) := t.relaid (es.map (·.1)) (n * 2) | unsupported "internal:set-table-without-room"
        let es' := order.filterMap (es[·]?)
        if es'.size != es.size then unsupported "internal:set-table-lost-an-element"
        pure (es', t) : Sem (Array (Int × Value) × SetTable))
      storeSet a es t) := rfl
    rw [e0]
    refine wpAny_bind (wpAny_setState_of ho S.hd S'.fits ?_)
    dsimp only
    have p12 : 2 ^ q ≤ 2 ^ 12 := Nat.pow_le_pow_right (by omega) h12
    have t12 : (2 : Nat) ^ 12 = 4096 := by decide
    rw [if_neg (by rw [e, sizeLine_eq]; omega), g1]
    dsimp only
    rw [g4, bne_self_eq_false]
    simp only [Bool.false_eq_true, if_false]
    refine wpAny_bind (wpAny_pure ?_)
    dsimp only
    have sl : (order.filterMap (es[·]?)).size ≤ sizeLine := by
      rw [g4, S'.size, sizeLine_eq]; simp
    refine wpAny_storeSet_of ho S.hd ?_ sl
    have hg := Heap.get?_update_self (Obj.putSet (order.filterMap (es[·]?)) ⟨SetTable.sizeAbove (n * 2) - 1, place, #[], t.finger, t.led, mv, t.plain⟩) ho (by rw [putSet_of _ _ S.hd]; rfl)
    rw [putSet_of _ _ S.hd] at hg
    have ord : order.toList = [] := by
      have := g2.length_eq
      simp at this
      simpa using this
    have pn : pick ([] : Els) order.toList = [] := by rw [ord]; rfl
    have key : ∀ (o' : Obj) (ep' : Nat), o'.ExactSet → o'.data = .set (order.filterMap (es[·]?)) ep' ⟨SetTable.sizeAbove (n * 2) - 1, place, #[], t.finger, t.led, mv, t.plain⟩ → SetOk w o' (order.filterMap (es[·]?)) ep' ⟨SetTable.sizeAbove (n * 2) - 1, place, #[], t.finger, t.led, mv, t.plain⟩ [] := fun o' ep' h1 h2 => by
      have := g3 o' ep' h1 h2
      rw [pn] at this
      exact this
    have G := key { cls := .type "set", dict := none, data := .set (order.filterMap (es[·]?)) 0 ⟨SetTable.sizeAbove (n * 2) - 1, place, #[], t.finger, t.led, mv, t.plain⟩ } 0 ⟨rfl, rfl, rfl⟩ rfl
    refine h _ _ _ _ _ (Heap.SameBut.update s.heap a _) hg (key _ _ S.ex rfl) ?_ ?_
    · have := G.T.sz
      have z : place.size = 0 := by simpa [thE] using this
      show place.size + 0 = 0
      omega
    · show n * 5 < (SetTable.sizeAbove (n * 2) - 1) * 3
      omega
  · rw [if_neg c]
    dsimp only
    exact wpAny_pure (h s.heap o es ep t (Heap.SameBut.refl a s.heap) ho S hd0 (by omega))
theorem setMerge_eq (s o : Addr) (each : Sem Unit) : setMerge s o each = (do
  if s == o then return
  let (eo, epoch, to) ← setState o
  if eo.isEmpty then return
  setRoomFor s eo.size
  let (_, _, ts) ← setState s
  match ts.road to with
  | .slotForSlot => storeSet s eo { to with finger := ts.finger, led := ts.led && to.led, moves := ts.moves, plain := ts.plain && to.plain }
  | .clean =>
    let (es, t) ← (do
      let some (t, order) := (SetTable.laid ts.mask ts.finger ts.moves (led := ts.led && to.led) (plain := ts.plain && to.plain) (eo.map (·.1))) | unsupported "internal:set-table-without-room"
      let es' := order.filterMap (eo[·]?)
      if es'.size != eo.size then unsupported "internal:set-table-lost-an-element"
      pure (es', t) : Sem (Array (Int × Value) × SetTable))
    storeSet s es t
  | .oneByOne =>
    for (h, x) in ← setWalkUnseen o [s] (some s) do
      let _ ← holding [x] (setAddHashed s x h)
      each
      if (← setState o).2.1 != epoch then unsupported "set.changed-during-merge") := rfl
theorem merge_ok {l : Addr} {ol : Obj} {esl : Array (Int × Value)} {epl : Nat} {tl : SetTable} (ne : a ≠ l) (ho : s.heap.get? a = some o) (S : SetOk w o es ep t []) (hd0 : t.fill = 0) (hl : s.heap.get? l = some ol) (Sl : SetOk w ol esl epl tl xs) (hn : xs.length ≤ 1000) {each : Sem Unit} {Q : Unit → Shared → Prop}
    (h : ∀ h' o' es' ep' t' xs', Heap.SameBut a s.heap h' → h'.get? a = some o' → SetOk w o' es' ep' t' xs' → xs'.Perm xs → Q () { s with heap := h' }) : wpAny (model prog w) A (setMerge a l each) Q E s := by
  rw [setMerge_eq, if_neg (by simpa using ne)]
  have Sl' := Sl.toSetAt
  refine wpAny_bind (wpAny_setState_of hl Sl.hd Sl'.fits ?_)
  dsimp only
  by_cases e1 : esl.isEmpty = true
  · rw [if_pos e1]
    have : xs = [] := by
      have := Sl'.size
      rw [Array.isEmpty_iff] at e1
      rw [e1] at this
      exact List.length_eq_zero_iff.mp this.symm
    subst this
    exact wpAny_pure (h s.heap o es ep t [] (Heap.SameBut.refl a s.heap) ho S (.refl _))
  · rw [if_neg e1]
    refine wpAny_bind (room_ok ho S hd0 (by rw [Sl'.size]; exact hn) fun h1 o1 es1 ep1 t1 b1 g1 S1 f1 r1 => ?_)
    have S1' := S1.toSetAt
    have hl1 : h1.get? l = some ol := (b1.2 l (Ne.symm ne)).trans hl
    refine wpAny_bind (wpAny_setState_of g1 S1.hd S1'.fits ?_)
    dsimp only
    rw [Sl'.size] at r1
    have ld : (t1.led && tl.led) = tl.led := by rw [S1.led, Sl.led, Bool.and_self]
    have pl : (t1.plain && tl.plain) = tl.plain := by rw [S1.pl, Sl.pl, Bool.and_self]
    have z : esl.size ≤ sizeLine := by rw [Sl'.size, sizeLine_eq]; omega
    unfold SetTable.road
    rw [if_neg (by rw [f1]; decide)]
    by_cases c : (t1.mask == tl.mask && tl.dummies.isEmpty) = true
    · rw [if_pos c]
      dsimp only
      refine wpAny_storeSet_of g1 S1.hd ?_ z
      have hg := Heap.get?_update_self (Obj.putSet esl { tl with finger := t1.finger, led := t1.led && tl.led, moves := t1.moves, plain := t1.plain && tl.plain }) g1 (by rw [putSet_of _ _ S1.hd]; rfl)
      rw [putSet_of _ _ S1.hd] at hg
      have T := Sl.T
      exact h _ _ _ _ _ xs (b1.trans (Heap.SameBut.update h1 a _)) hg ⟨⟨S1.ex, rfl, Sl.he, ⟨T.pw, T.sz, T.sp, T.sd, T.lp, T.ld, T.dj, T.fl, T.rc⟩, ld.trans Sl.led, pl.trans Sl.pl, Sl.nd⟩, Sl.f5⟩ (.refl _)
    · rw [if_neg c]
      dsimp only
      obtain ⟨q, q3, q12, qe⟩ := S1.T.pw
      obtain ⟨place, order, k1, k2, k3, k4⟩ := laidS_ok Sl' q3 q12 qe t1.finger t1.moves r1
      rw [ld, pl, k1]
      dsimp only
      rw [k4, bne_self_eq_false]
      simp only [Bool.false_eq_true, if_false]
      refine wpAny_bind (wpAny_pure ?_)
      dsimp only
      refine wpAny_storeSet_of g1 S1.hd ?_ (by rw [k4]; exact z)
      have hg := Heap.get?_update_self (Obj.putSet (order.filterMap (esl[·]?)) ⟨t1.mask, place, #[], t1.finger, tl.led, t1.moves, tl.plain⟩) g1 (by rw [putSet_of _ _ S1.hd]; rfl)
      rw [putSet_of _ _ S1.hd] at hg
      exact h _ _ _ _ _ _ (b1.trans (Heap.SameBut.update h1 a _)) hg (k3 _ _ S1.ex rfl) (pick_perm k2)
end
end L2
set_option Elab.async false
set_option linter.all false
set_option maxRecDepth 100000
set_option maxHeartbeats 1000000
namespace L2
open PySem PySem.W PyProof.Rows PySem.Builtin
section
variable {prog : Program} {w : World} {A : Around} {E : Value → Shared → Prop} {s : Shared} {a b : Addr} {o : Obj} {es : Array (Int × Value)} {ep : Nat} {t : SetTable} {xs : Els} {k : List Int}
theorem key_to {h h' : Heap} (x : (KI prog w).is h k b) (e : ∀ o, h.get? b = some o → h'.get? b = some o) : (KI prog w).is h' k b := by
  obtain ⟨o, items, n, ho, r⟩ := x
  exact ⟨o, items, n, e o ho, r⟩
theorem key_ne {h : Heap} (x : (KI prog w).is h k b) (ho : h.get? a = some o) (hc : o.cls = .type "set") : b ≠ a := fun e => by
  obtain ⟨o', items, n, h1, h2, _⟩ := x
  subst e
  rw [ho] at h1
  cases h1
  rw [hc] at h2
  exact absurd h2 (by decide)
theorem eok_but {h h' : Heap} (x : EOk prog w h xs) (ho : h.get? a = some o) (hc : o.cls = .type "set") (hs : Heap.SameBut a h h') : EOk prog w h' xs := fun z hz => key_to (x z hz) fun o' e => (hs.2 _ (key_ne (x z hz) ho hc)).trans e
theorem any_set {T : Value} (hT : s.TypeIs T "set") {Q : Bool → Shared → Prop} (h : Q true s) : wpAny (model prog w) A (Frozenset.isAnySet T) Q E s := by
  unfold Frozenset.isAnySet
  refine wpAny_bind (wpAny_isInstance hT sub_set_self ?_)
  exact wpAny_pure h
theorem nd_at {α : Type} {l : List α} (h : l.Nodup) {i j : Nat} (hi : i < l.length) (hj : j < l.length) (e : l[i] = l[j]) : i = j := by
  rcases Nat.lt_trichotomy i j with q | q | q
  · exact absurd e (List.pairwise_iff_getElem.mp h i j hi hj q)
  · exact q
  · exact absurd e.symm (List.pairwise_iff_getElem.mp h j i hj hi q)
structure Tog (K0 P : List (List Int)) (zs : Els) : Prop where
  nd : (zs.map (·.1)).Nodup
  mem : ∀ k, k ∈ zs.map (·.1) ↔ (k ∈ K0 ∧ k ∉ P) ∨ (k ∈ P ∧ k ∉ K0)
theorem Tog.out {K0 P : List (List Int)} {zs : Els} (T : Tog K0 P zs) {k : List Int} (hk : k ∉ P) {i : Nat} {c : Addr} (hi : zs[i]? = some (k, c)) : Tog K0 (P ++ [k]) (zs.eraseIdx i) := by
  have hkm : k ∈ zs.map (·.1) := List.mem_map.mpr ⟨_, List.mem_of_getElem? hi, rfl⟩
  have hk0 : k ∈ K0 := by
    rcases (T.mem k).mp hkm with h | h
    · exact h.1
    · exact absurd h.1 hk
  have em : (zs.eraseIdx i).map (·.1) = (zs.map (·.1)).eraseIdx i := (er_map _ _ _).symm
  have hi' : (zs.map (·.1))[i]? = some k := by rw [List.getElem?_map, hi]; rfl
  have hlt : i < (zs.map (·.1)).length := by
    rcases Nat.lt_or_ge i (zs.map (·.1)).length with h | h
    · exact h
    · rw [List.getElem?_eq_none h] at hi'; cases hi'
  refine ⟨by rw [em]; exact List.Nodup.sublist (List.eraseIdx_sublist _ _) T.nd, fun k' => ?_⟩
  rw [em]
  have er : ∀ k', k' ∈ (zs.map (·.1)).eraseIdx i ↔ k' ∈ zs.map (·.1) ∧ k' ≠ k := fun k' => by
    rw [List.mem_eraseIdx_iff_getElem]
    have gi : (zs.map (·.1))[i] = k := by rw [List.getElem?_eq_getElem hlt] at hi'; exact Option.some.inj hi'
    constructor
    · rintro ⟨j, hj, hne, rfl⟩
      refine ⟨List.getElem_mem _, fun e => hne ?_⟩
      exact nd_at T.nd hj hlt (e.trans gi.symm)
    · rintro ⟨h1, h2⟩
      obtain ⟨j, hj, rfl⟩ := List.getElem_of_mem h1
      exact ⟨j, hj, fun e => h2 (by subst e; exact gi), rfl⟩
  rw [er, T.mem, List.mem_append, List.mem_singleton]
  by_cases e : k' = k
  · subst e; simp [hk0, hk]
  · simp [e]
theorem Tog.inn {K0 P : List (List Int)} {zs zs' : Els} (T : Tog K0 P zs) {k : List Int} {c : Addr} (hk : k ∉ P) (hn : k ∉ zs.map (·.1)) (p : zs'.Perm (zs ++ [(k, c)])) : Tog K0 (P ++ [k]) zs' := by
  have pm : (zs'.map (·.1)).Perm (zs.map (·.1) ++ [k]) := by have := p.map (·.1); rwa [List.map_append] at this
  have hk0 : k ∉ K0 := fun h => hn ((T.mem k).mpr (.inl ⟨h, hk⟩))
  refine ⟨pm.nodup_iff.mpr ?_, fun k' => ?_⟩
  · rw [List.nodup_append]
    exact ⟨T.nd, by simp, fun x hx y hy => by
      rw [List.mem_singleton] at hy; subst hy
      exact fun e => hn (e ▸ hx)⟩
  · rw [pm.mem_iff, List.mem_append, List.mem_singleton, T.mem, List.mem_append, List.mem_singleton]
    by_cases e : k' = k
    · subst e; simp [hk0, hk]
    · simp [e]
theorem sym_upd (id : String) {l : Addr} {ol : Obj} {esl : Array (Int × Value)} {epl : Nat} {tl : SetTable} {ys : Els} (ne : a ≠ l) (ho : s.heap.get? a = some o) (S : SetOk w o es ep t xs) (hE : EOk prog w s.heap xs) (hl : s.heap.get? l = some ol) (Sl : SetOk w ol esl epl tl ys) (hEl : EOk prog w s.heap ys)
    (hu : A.units < cLine) (hn : xs.length + ys.length ≤ 1000) {Q : Unit → Shared → Prop}
    (h : ∀ h' o' es' ep' t' zs, Heap.SameBut a s.heap h' → h'.get? a = some o' → SetOk w o' es' ep' t' zs → Tog (xs.map (·.1)) (ys.map (·.1)) zs → (∀ z ∈ zs, z ∈ xs ∨ z ∈ ys) → Q () { s with heap := h' }) : wpAny (model prog w) A (Frozenset.symmetricDifferenceUpdate id a (.ref l)) Q E s := by
  have Sl' := Sl.toSetAt
  have hTl := SetAt.ty hl Sl'
  unfold Frozenset.symmetricDifferenceUpdate
  rw [if_neg (by simpa using Ne.symm ne)]
  dsimp only
  refine wpAny_bind (wpAny_typeOf hTl ?_)
  rw [if_neg (by decide)]
  refine wpAny_bind (any_set hTl ?_)
  rw [if_pos rfl]
  refine wpAny_bind (wpAny_pure ?_)
  unfold Frozenset.addrOf
  refine wpAny_bind (wpAny_pure ?_)
  refine wpAny_bind (wpAny_setEpoch_of hl Sl.hd Sl'.fits ?_)
  refine wpAny_holding ?_
  refine wpAny_bind ?_
  unfold setWalkUnseen
  refine wpAny_bind (wpAny_setState_of hl Sl.hd Sl'.fits ?_)
  dsimp only
  refine wpAny_bind (setsByText_at ?_)
  rw [if_pos (by rw [Sl.led, Sl.pl]; show (byTxt w || _ || _) = true; unfold byTxt; cases w.params.followText "set-order" <;> rfl)]
  refine walk_at_ hl Sl' ?_
  have wp := walk_perm w l epl esl
  rw [Sl.he] at wp
  obtain ⟨us, pu, eu⟩ : ∃ us : Els, us.Perm ys ∧ (walkA w l epl esl).toList = us.map ent := by
    have key : ∀ (m : List (Int × Value)) (zs : Els), m.Perm (zs.map ent) → ∃ us : Els, us.Perm zs ∧ m = us.map ent := fun m zs hp => by
      generalize hq : zs.map ent = q at hp
      induction hp generalizing zs with
      | nil => cases zs with
        | nil => exact ⟨[], .refl _, rfl⟩
        | cons z zs => cases hq
      | cons x _ ih =>
        cases zs with
        | nil => cases hq
        | cons z zs =>
          rw [List.map_cons] at hq
          obtain ⟨h1, h2⟩ := List.cons.inj hq
          obtain ⟨us, u1, u2⟩ := ih zs h2
          exact ⟨z :: us, u1.cons z, by rw [List.map_cons, h1, u2]⟩
      | swap x y l =>
        cases zs with
        | nil => cases hq
        | cons z zs => cases zs with
          | nil => cases hq
          | cons z2 zs =>
            rw [List.map_cons, List.map_cons] at hq
            obtain ⟨h1, h2⟩ := List.cons.inj hq
            obtain ⟨h3, h4⟩ := List.cons.inj h2
            exact ⟨z2 :: z :: zs, .swap z z2 zs, by rw [List.map_cons, List.map_cons, h1, h3, h4]⟩
      | trans _ _ ih1 ih2 =>
        obtain ⟨us, u1, u2⟩ := ih2 zs hq
        obtain ⟨vs, v1, v2⟩ := ih1 us u2.symm
        exact ⟨vs, v1.trans u1, v2⟩
    exact key _ _ wp
  have ndu : (us.map (·.1)).Nodup := (pu.map (·.1)).nodup_iff.mpr Sl.nd
  have hset : o.cls = .type "set" := S.ex.1
  refine wpAny_bind (PySem.MeetsSeq2.wpAny_forIn_array _ (fun rest _ st => ∃ (P rs : Els) (h' : Heap) (o' : Obj) (es' : Array (Int × Value)) (ep' : Nat) (t' : SetTable) (zs : Els), rest = rs.map ent ∧ us = P ++ rs ∧ st = { s with heap := h' } ∧ Heap.SameBut a s.heap h' ∧ h'.get? a = some o' ∧ SetOk w o' es' ep' t' zs ∧ Tog (xs.map (·.1)) (P.map (·.1)) zs ∧ (∀ z ∈ zs, z ∈ xs ∨ z ∈ P) ∧ zs.length ≤ xs.length + P.length) (fun _ st => wpAny (model prog w) A (pure ()) Q E st) ?turn ?fin _ _ ⟨[], us, s.heap, o, es, ep, t, xs, eu, rfl, rfl, Heap.SameBut.refl a s.heap, ho, S, ⟨S.nd, fun k => by simp⟩, fun z hz => .inl hz, by simp⟩)
  case fin =>
    rintro _ st ⟨P, rs, h', o', es', ep', t', zs, e1, e2, rfl, sb, g, S2, T, hm, _⟩
    have : rs = [] := List.map_eq_nil_iff.mp e1.symm
    subst this
    rw [List.append_nil] at e2
    subst e2
    refine wpAny_pure (h _ _ _ _ _ zs sb g S2 ⟨T.nd, fun k => by rw [T.mem, (pu.map (·.1)).mem_iff]⟩ fun z hz => ?_)
    rcases hm z hz with q | q
    · exact .inl q
    · exact .inr (pu.mem_iff.mp q)
  case turn =>
    rintro x rest _ st ⟨P, rs, h', o', es', ep', t', zs, e1, e2, rfl, sb, g, S2, T, hm, hlen⟩
    cases rs with
    | nil => cases e1
    | cons y rs =>
      rw [List.map_cons] at e1
      obtain ⟨hx, hr⟩ := List.cons.inj e1
      subst hx
      have ylen : us.length = ys.length := pu.length_eq
      have lP : P.length + 1 ≤ ys.length := by
        have := congrArg List.length e2
        rw [List.length_append, List.length_cons] at this
        omega
      have hyl : y ∈ ys := pu.mem_iff.mp (by rw [e2]; simp)
      have hyP : y.1 ∉ P.map (·.1) := fun hq => by
        rw [e2, List.map_append, List.map_cons, List.nodup_append] at ndu
        exact ndu.2.2 _ hq _ List.mem_cons_self rfl
      have kk : (KI prog w).is h' y.1 y.2 := key_to (hEl y hyl) fun o2 e => (sb.2 _ (key_ne (hEl y hyl) ho hset)).trans e
      have E2 : EOk prog w h' zs := fun z hz => by
        rcases hm z hz with q | q
        · exact key_to (hE z q) fun o2 e => (sb.2 _ (key_ne (hE z q) ho hset)).trans e
        · have : z ∈ ys := pu.mem_iff.mp (by rw [e2]; exact List.mem_append_left _ q)
          exact key_to (hEl z this) fun o2 e => (sb.2 _ (key_ne (hEl z this) ho hset)).trans e
      have hl2 : h'.get? l = some ol := (sb.2 l (Ne.symm ne)).trans hl
      show wpAny _ _ (do
        holding [Value.ref y.2] (do
          if !(← setDiscardHashed a (.ref y.2) (th y.1)) then do
            let _ ← setAddHashed a (.ref y.2) (th y.1)
            pure ()
          else pure ())
        Frozenset.unchanged id l epl
        pure (ForInStep.yield PUnit.unit)) _ _ _
      have done : ∀ (h2 : Heap), Heap.SameBut a h' h2 → ∀ R : ForInStep PUnit → Shared → Prop, R (.yield PUnit.unit) { s with heap := h2 } → wpAny (model prog w) A (do
        Frozenset.unchanged id l epl
        pure (ForInStep.yield PUnit.unit)) R E { s with heap := h2 } := fun h2 q1 R hR => by
        have hl3 : h2.get? l = some ol := (q1.2 l (Ne.symm ne)).trans hl2
        unfold Frozenset.unchanged
        refine wpAny_bind ?_
        refine wpAny_bind (wpAny_setEpoch_of hl3 Sl.hd Sl'.fits ?_)
        rw [if_neg (by simp)]
        exact wpAny_pure (wpAny_pure hR)
      refine wpAny_bind (wpAny_holding ?_)
      refine wpAny_bind (set_discard (s := { s with heap := h' }) g S2 E2 hu kk (by omega) (fun nm => ?_) fun hm2 h2 o2 es2 ep2 t2 zs2 q1 q2 q3 q4 => ?_)
      · rw [if_pos (show (!false) = true from rfl)]
        refine wpAny_bind (set_add (s := { s with heap := h' }) g S2 E2 hu kk (by omega) (fun hm2 => absurd hm2 nm) fun nm2 h2 o2 es2 ep2 t2 zs2 q1 q2 q3 q4 => ?_)
        refine wpAny_pure (done h2 q1 _ ⟨P ++ [y], rs, h2, o2, es2, ep2, t2, zs2, hr, by rw [e2, List.append_assoc]; rfl, rfl, sb.trans q1, q2, q3, by rw [List.map_append]; exact T.inn hyP nm q4, fun z hz => ?_, by rw [q4.length_eq, List.length_append, List.length_append, List.length_singleton]; omega⟩)
        rcases List.mem_append.mp (q4.mem_iff.mp hz) with q | q
        · rcases hm z q with q | q
          · exact .inl q
          · exact .inr (List.mem_append_left _ q)
        · exact .inr (List.mem_append_right _ (by rw [List.mem_singleton] at q ⊢; exact q))
      · rw [if_neg (show ¬ (!true) = true by decide)]
        obtain ⟨i, c, hi, rfl⟩ := q4
        refine wpAny_pure (done h2 q1 _ ⟨P ++ [y], rs, h2, o2, es2, ep2, t2, _, hr, by rw [e2, List.append_assoc]; rfl, rfl, sb.trans q1, q2, q3, by rw [List.map_append]; exact T.out hyP hi, fun z hz => ?_, Nat.le_trans (List.length_eraseIdx_le _ _) (by rw [List.length_append]; omega)⟩)
        rcases hm z (List.mem_of_mem_eraseIdx hz) with q | q
        · exact .inl q
        · exact .inr (List.mem_append_left _ q)
end
end L2
set_option Elab.async false
set_option linter.all false
set_option maxRecDepth 100000
set_option maxHeartbeats 3200000
namespace L2
open PySem PySem.W PyProof.Rows PySem.Builtin
theorem slot_set_xor : Slot "set" (dunder Operator.BitXor.info.2) "set.__xor__" := .of (owner := "set") (n := "__xor__") (by rw [typeLookup_type, builtinLookup_eq_fast]; kernel_rfl) (by decide +kernel) (by decide +kernel) (by decide +kernel) (by first | exact .inl (by decide +kernel) | exact .inr (by decide +kernel)) sub_set_self
theorem entry_set_xor : entryFor table "set.__xor__" = some Builtin.«frozenset.__xor__» := entryFor_alias (id' := "frozenset.__xor__") (by kernel_rfl) rfl (by decide +kernel) (by kernel_rfl)
theorem owner_set : Manifest.owners.lookup (String.ofList ['t', 'e', 's'].reverse) = some Manifest.sig_set := by kernel_rfl
theorem args_set_xor (a b : Value) : argsOk "set.__xor__" ⟨[a, b], []⟩ := by unfold argsOk; rw [signature?_of (id := "set.__xor__") (n := ['_', '_', 'r', 'o', 'x', '_', '_']) (o := ['t', 'e', 's']) (by kernel_rfl) owner_set]; kernel_rfl
theorem fill_set_xor : fillsNumberSlot (.type "set") "xor" = pure true := by
  refine fillsNumberSlot_of (id := "set.__xor__") (r := some (.builtin "set.__rxor__")) ?_ (by decide +kernel) ?_
  · show typeLookup (.type "set") "__xor__" = _
    rw [typeLookup_type, builtinLookup_eq_fast]; kernel_rfl
  · show typeLookup (.type "set") "__rxor__" = _
    rw [typeLookup_type, builtinLookup_eq_fast]; kernel_rfl
theorem xor_eq (l r : Value) : Builtin.«frozenset.__xor__» ⟨[l, r], []⟩ = (do
  let (self, other) ← Frozenset.slot1 "__xor__" ⟨[l, r], []⟩
  let (l, r) := if false then (other, self) else (self, other)
  if !(← Frozenset.isAnySet l <&&> Frozenset.isAnySet r) then
    rule s!"frozenset.{"__xor__"}.declined"
    return ← ret .notImplemented
  let la ← Frozenset.addrOf l
  let v ← (do
    let result ← Frozenset.newFrom s!"frozenset.{"__xor__"}" (← Frozenset.baseOf la) r
    let ra ← Frozenset.addrOf result
    holding [result] (Frozenset.symmetricDifferenceUpdate s!"frozenset.{"__xor__"}" ra (.ref la))
    return result : Sem Value)
  ret v) := rfl
section
variable {prog : Program} {w : World} {A : Around} {E : Value → Shared → Prop} {s : Shared} {a b : Addr} {o : Obj} {es : Array (Int × Value)} {ep : Nat} {t : SetTable} {xs ys : Els} {k : List Int}
theorem tset_xor {l r : Addr} {ol or : Obj} {esl esr : Array (Int × Value)} {epl epr : Nat} {tl tr : SetTable} (hl : s.heap.get? l = some ol) (Sl : SetOk w ol esl epl tl xs) (hEl : EOk prog w s.heap xs) (hr : s.heap.get? r = some or) (Sr : SetOk w or esr epr tr ys) (hEr : EOk prog w s.heap ys)
    (hu : A.units + 1 < cLine) (hn : xs.length + ys.length ≤ 1000) {Q : Value → Shared → Prop}
    (h : ∀ h' o' es' ep' t' zs, Heap.SameBut s.heap.objs.size (s.heap.push (freshSet w)) h' → h'.get? s.heap.objs.size = some o' → SetOk w o' es' ep' t' zs → Tog (ys.map (·.1)) (xs.map (·.1)) zs → (∀ z ∈ zs, z ∈ ys ∨ z ∈ xs) → Q (.ref s.heap.objs.size) { s with heap := h' }) :
    wpAny (model prog w) A (binaryOp .BitXor (.ref l) (.ref r)) Q E s := by
  have hTl := SetAt.ty hl Sl.toSetAt
  have hTr := SetAt.ty hr Sr.toSetAt
  refine wpAny_binaryOp_same hTl hTr fill_set_xor slot_set_xor ?_
  refine wpAny_call_entry slot_set_xor hTl entry_set_xor ?_ (args_set_xor _ _)
  rw [xor_eq]
  unfold Frozenset.slot1
  have sa : slotArgs "__xor__" 1 ⟨[Value.ref l, Value.ref r], []⟩ = pure (.ref l, [.ref r]) := rfl
  rw [sa, pure_bind]
  dsimp only
  rw [pure_bind]
  dsimp only
  rw [if_neg (by decide)]
  dsimp only
  refine wpAny_bind ?_
  refine wpAny_bind (any_set hTl ?_)
  refine any_set hTr ?_
  rw [if_neg (by decide)]
  unfold Frozenset.addrOf
  rw [pure_bind]
  refine wpAny_bind ?_
  unfold Frozenset.baseOf
  refine wpAny_bind ?_
  refine wpAny_bind (wpAny_isInstance hTl sub_set_self ?_)
  rw [if_pos rfl]
  refine wpAny_pure ?_
  unfold Frozenset.newFrom
  refine wpAny_bind ?_
  refine wpAny_bind (new_set ?_)
  unfold Frozenset.addrOf
  rw [pure_bind]
  have sz : (s.heap.push (freshSet w)).get? s.heap.objs.size = some (freshSet w) := Heap.get?_push_size _ rfl
  have hr1 : (s.heap.push (freshSet w)).get? r = some or := Heap.get?_push_of_some _ hr
  have hl1 : (s.heap.push (freshSet w)).get? l = some ol := Heap.get?_push_of_some _ hl
  have ner : s.heap.objs.size ≠ r := Nat.ne_of_gt (Heap.lt_size hr)
  have nel : s.heap.objs.size ≠ l := Nat.ne_of_gt (Heap.lt_size hl)
  have hTr1 : Shared.TypeIs { s with heap := s.heap.push (freshSet w) } (.ref r) "set" := SetAt.ty (s := { s with heap := s.heap.push (freshSet w) }) hr1 Sr.toSetAt
  refine wpAny_bind (wpAny_holding ?_)
  unfold Frozenset.updateFrom
  refine wpAny_bind (any_set hTr1 ?_)
  rw [if_pos rfl]
  unfold Frozenset.addrOf Frozenset.merge
  rw [pure_bind]
  refine wpAny_bind (wpAny_setEpoch_of hr1 Sr.hd Sr.toSetAt.fits ?_)
  refine merge_ok (s := { s with heap := s.heap.push (freshSet w) }) ner sz (fresh_ok w) rfl hr1 Sr (by omega) fun h1 o1 es1 ep1 t1 zs1 b1 g1 S1 p1 => ?_
  refine wpAny_pure ?_
  rw [pure_bind]
  have hl2 : h1.get? l = some ol := (b1.2 l nel.symm).trans hl1
  have fc : (freshSet w).cls = .type "set" := rfl
  have E0 : ∀ us : Els, EOk prog w s.heap us → EOk prog w h1 us := fun us hE => eok_but (fun z hz => key_to (hE z hz) fun o' e => Heap.get?_push_of_some _ e) sz fc b1
  have E1 : EOk prog w h1 zs1 := fun z hz => E0 ys hEr z (p1.mem_iff.mp hz)
  refine wpAny_bind (wpAny_holding ?_)
  refine sym_upd (s := { s with heap := h1 }) _ nel g1 S1 E1 hl2 Sl (E0 xs hEl) (show A.in1.units < cLine by have : A.in1.units ≤ A.units + 1 := Nat.le_refl _; omega) (by rw [p1.length_eq]; omega) fun h2 o2 es2 ep2 t2 zs2 b2 g2 S2 T2 m2 => ?_
  refine wpAny_pure (wpAny_pure ⟨_, rfl, (fun e => by cases e), h h2 o2 es2 ep2 t2 zs2 (b1.trans b2) g2 S2 ⟨T2.nd, fun k => by rw [T2.mem, (p1.map (·.1)).mem_iff]⟩ fun z hz => ?_⟩)
  rcases m2 z hz with q | q
  · exact .inl (p1.mem_iff.mp q)
  · exact .inr q
end
end L2
set_option Elab.async false
set_option linter.all false
set_option maxRecDepth 100000
set_option maxHeartbeats 3200000
namespace L2
open PySem PySem.W PyProof.Rows PySem.Builtin
section
variable {prog : Program} {w : World} {A : Around} {R : Result → Shared → Prop} {I : Addr} {fp wr : List Addr} {G : Array GenState → Array GenState → Prop} {n : Nat} {P : Nat → Value → Prop} {St : Nat → Shared → Prop}
theorem upd_loop (W : WalksS prog w A.in1 I fp wr G n P St) (S : Addr) (hSf : S ∉ fp) (ks : List (List Int × Addr)) (hk : ks.length = n) (nd : (ks.map (·.1)).Nodup) (hn : n ≤ 1000) (hu : A.in1.units < cLine)
    (hval : ∀ i v, P i v → v = .ref (ks.getD i ([], 0)).2) (hw : ∀ z ∈ ks, z.2 ∉ wr) :
    ∀ (k i : Nat) (s : Shared), n - i = k → i ≤ n → St i s →
      (∀ z ∈ ks, (KI prog w).is s.heap z.1 z.2) →
      ∀ (o : Obj) (es : Array (Int × Value)) (ep : Nat) (t : SetTable) (xs : Els), s.heap.get? S = some o → SetOk w o es ep t xs → xs.Perm (ks.take i) →
      (∀ s' o' es' ep' t' xs', Moved (S :: wr) G s s' → s'.heap.get? S = some o' → SetOk w o' es' ep' t' xs' → xs'.Perm ks → R (.ok (.ret .none)) s') →
      codeAny (model prog w) A (.builtin "set.update.loop" ⟨[.ref S, .ref I], []⟩) R s := by
  have hSw : S ∉ wr := fun h => hSf (W.sub _ h)
  have hsub : ∀ b ∈ wr, b ∈ S :: wr := fun b hb => List.mem_cons_of_mem _ hb
  intro k
  induction k with
  | zero =>
    intro i s hk0 hi hst hE o es ep t xs ho hS hp hR
    have hin : i = n := by omega
    subst hin
    refine codeAny_builtin F.entry_set_update_loop ?_
    rw [Around.under_plainId F.plain_set_update_loop _]
    show wpAny _ A.in1 (pyNext (.ref I) >>= _) _ _ s
    refine wpAny_bind (W.done s _ _ hst fun s' hm => ?_)
    show wpAny _ A.in1 (ret Value.none) _ _ s'
    exact wpAny_pure (hR s' o es ep t xs (hm.mono hsub) (hm.heap S _ hSw ho) hS (by rw [List.take_of_length_le (by omega)] at hp; exact hp))
  | succ k ih =>
    intro i s hk0 hi hst hE o es ep t xs ho hS hp hR
    have hlt : i < n := by omega
    refine codeAny_builtin F.entry_set_update_loop ?_
    rw [Around.under_plainId F.plain_set_update_loop _]
    show wpAny _ A.in1 (pyNext (.ref I) >>= _) _ _ s
    refine wpAny_bind (W.item i s _ _ hlt hst fun v s' hP hst' hm => ?_)
    have hv := hval i v hP
    subst hv
    have hz : ks.getD i ([], 0) ∈ ks := by
      rw [List.getD_eq_getElem?_getD, List.getElem?_eq_getElem (by omega)]
      exact List.getElem_mem _
    have hgi : ks[i]? = some (ks.getD i ([], 0)) := by rw [List.getD_eq_getElem?_getD, List.getElem?_eq_getElem (by omega)]; rfl
    generalize hzz : ks.getD i ([], 0) = z at hz hgi
    have ho' : s'.heap.get? S = some o := hm.heap S _ hSw ho
    have hE' : ∀ z ∈ ks, (KI prog w).is s'.heap z.1 z.2 := fun y hy => key_to (hE y hy) fun o2 e => hm.heap _ _ (hw y hy) e
    have hEx : EOk prog w s'.heap xs := fun y hy => hE' y (List.mem_of_mem_take (hp.mem_iff.mp hy))
    have hfr : z.1 ∉ xs.map (·.1) := fun hq => by
      have := (hp.map (·.1)).mem_iff.mp hq
      rw [List.map_take] at this
      obtain ⟨j, hj, e⟩ := List.getElem_of_mem this
      rw [List.getElem_take] at e
      have hj2 : j < i := by simp at hj; omega
      have hi2 : i < (ks.map (·.1)).length := by rw [List.length_map]; omega
      have e2 : (ks.map (·.1))[i] = z.1 := by
        have : (ks.map (·.1))[i]? = some z.1 := by rw [List.getElem?_map, hgi]; rfl
        rw [List.getElem?_eq_getElem hi2] at this
        exact Option.some.inj this
      exact absurd (nd_at nd (by omega) hi2 (e.trans e2.symm)) (by omega)
    have hsc : o.cls = .type "set" := hS.ex.1
    show wpAny _ A.in1 (holding [Value.ref z.2] (setAdd S (.ref z.2)) >>= _) _ _ s'
    refine wpAny_bind (wpAny_holding ?_)
    unfold setAdd
    refine wpAny_holding ?_
    refine wpAny_bind ((KI prog w).pyHash (show (KI prog w).room A.in1 from hu) (hE' z hz) ?_)
    rw [th_eq]
    refine set_add (s := { s' with toks := s'.toks + (KI prog w).draws z.1 }) ho' hS hEx hu (hE' z hz) (by rw [hp.length_eq, List.length_take]; omega) (fun hq => absurd hq hfr) fun _ h' o' es' ep' t' xs' g1 g2 g3 g4 => ?_
    refine wpAny_pure ⟨plainId_quiet F.plain_set_update_loop _, ih (i + 1) _ (by omega) hlt (W.frame _ s' _ _ hst' (Nat.le_add_right _ _) fun b hb o2 e => ?_) (fun y hy => ?_) o' es' ep' t' xs' g2 g3 ?_ fun s'' o2 es2 ep2 t2 xs2 hm2 q1 q2 q3 => ?_⟩
    · rw [g1.2 b (fun h : b = S => hSf (by rw [← h]; exact hb))]; exact e
    · exact key_to (hE' y hy) fun o2 e => (g1.2 _ (key_ne (hE' y hy) ho' hsc)).trans e
    · refine g4.trans ?_
      rw [List.take_succ, hgi]
      exact List.Perm.append_right _ hp
    · refine hR s'' o2 es2 ep2 t2 xs2 (Moved.trans W.gtrans ((hm.mono hsub).then_heap (Nat.le_add_right _ _) fun b o3 hb e => ?_) hm2) q1 q2 q3
      rw [g1.2 b (fun h : b = S => hb (by rw [h]; exact List.mem_cons_self))]; exact e
end
section
variable {prog : Program} {w : World} {A : Around} {E : Value → Shared → Prop} {s : Shared}
theorem tset_list {l : Addr} {items : Array Value} {ks : List (List Int × Addr)} {Q : Value → Shared → Prop} (hh : A.handled = none) (hl : s.heap.IsList l items) (hi : items.toList = ks.map fun z => Value.ref z.2) (nd : (ks.map (·.1)).Nodup) (hn : ks.length ≤ 1000) (hu : A.units + 10 < cLine) (hE : ∀ z ∈ ks, (KI prog w).is s.heap z.1 z.2)
    (h : ∀ (h' : Heap) (tk : Nat) (o' : Obj) (es' : Array (Int × Value)) (ep' : Nat) (t' : SetTable) (xs : Els), h'.get? s.heap.objs.size = some o' → SetOk w o' es' ep' t' xs → xs.Perm ks → (∀ b o, b < s.heap.objs.size → s.heap.get? b = some o → h'.get? b = some o) → Q (.ref s.heap.objs.size) { s with heap := h', toks := tk }) :
    wpAny (model prog w) A (call (.type "set") [.ref l]) Q E s := by
  obtain ⟨c, tl, hmro⟩ := F.called_set.mro
  have hmade := F.called_set.made
  have hsub := F.called_set.sub
  refine wpAny_call (codeAny_of_tree ?_)
  show wpAny _ _ (callAny (.type "set") _) _ _ _
  refine wpAny_pure ⟨Code.quiet_builtin _ (by decide +kernel), codeAny_builtin F.entry_type_call ?_⟩
  rw [Around.under_plain (weight_type_call_type "set" [.ref l] []) rfl]
  have h1 := F.called_set.notType
  have h2 := F.called_set.canCreate
  have hct := F.typeCall_set_1 (.ref l)
  repeat (any_goals (first | assumption | wp_step))
  refine codeAny_mono (tset_new (as := [.ref l]) (E := E) (F.newCall_set_1 (.ref l)) (Q₁ := fun obj s₁ => obj = .ref s.heap.objs.size ∧ s₁ = { s with heap := s.heap.push (freshSet w) }) ⟨rfl, rfl⟩) fun r s₁ hr => ?_
  cases r with
  | error e => exact hr
  | ok fl =>
    cases fl with
    | ret obj =>
      obtain ⟨rfl, rfl⟩ := hr
      have hS0 : (s.heap.push (freshSet w)).get? s.heap.objs.size = some (freshSet w) := Heap.get?_push_size _ rfl
      have hS : (s.heap.push (freshSet w)).get? s.heap.objs.size = some { cls := .type "set", dict := none, data := .set #[] 0 (.fresh 0 0 (!byTxt w)) } := hS0
      have hT : Shared.TypeIs { s with heap := s.heap.push (freshSet w) } (.ref s.heap.objs.size) "set" := ⟨_, hS, rfl⟩
      have hli := F.called_set.init.lookup
      have hbi := F.called_set.init.bind (.ref s.heap.objs.size)
      repeat (any_goals (first | assumption | wp_step))
      refine codeAny_mono (codeAny_call_builtin (R := wants (fun r s₂ => r = .none ∧ ∃ h' tk o' es' ep' t' xs, s₂ = { s with heap := h', toks := tk } ∧ h'.get? s.heap.objs.size = some o' ∧ SetOk w o' es' ep' t' xs ∧ xs.Perm ks ∧
          (∀ b o, b < s.heap.objs.size → s.heap.get? b = some o → h'.get? b = some o)) E) F.called_set.init.plain F.entry_set_init (check_set_init_1 hT ?_)) fun r₂ s₂ hr₂ => ?_
      · obtain ⟨ol, hol, hcl, nl, hdl⟩ := hl
        obtain ⟨ocls, odict, odata, oslots⟩ := ol
        simp only at hcl hdl
        subst hcl; subst hdl
        have hol' : (s.heap.push (freshSet w)).get? l = some { cls := .type "list", dict := odict, data := .seq items nl, slots := oslots } := Heap.get?_push_of_some _ hol
        have hsls := F.sub_list_set
        have hslf := F.sub_list_frozenset
        have hne : (Value.type "list" == Value.type "dict") = false := by decide
        have hl1 : (s.heap.push (freshSet w)).IsList l items := ⟨_, hol', rfl, nl, rfl⟩
        unfold Builtin.«set.__init__» noKeywords Builtin.Frozenset.updateFrom
        generalize hPI : pyIter = PI
        wp_walk
        subst hPI
        refine wpAny_pyIter_list hl1 ?_
        refine wpAny_bind (wpAny_runValue ?_)
        have hlS : l < s.heap.objs.size := Heap.lt_size hol
        have hh3 : A.in1.in1.in1.handled = none := by simp [hh]
        have hneI : l ≠ (s.heap.push (freshSet w)).objs.size := by
          rw [Heap.size_push]; exact Nat.ne_of_lt (Nat.lt_succ_of_lt hlS)
        have hSf : s.heap.objs.size ∉ [(s.heap.push (freshSet w)).objs.size, l] := by
          rw [Heap.size_push]; simp only [List.mem_cons, List.mem_singleton, List.not_mem_nil, or_false, not_or]
          exact ⟨Nat.ne_of_lt (Nat.lt_succ_self _), Nat.ne_of_gt hlS⟩
        have zi : ks.length = items.size := by
          have := congrArg List.length hi
          rw [List.length_map, Array.length_toList] at this
          exact this.symm
        have hlt : ∀ z ∈ ks, z.2 < s.heap.objs.size := fun z hz => by
          obtain ⟨o, _, _, e, _⟩ := hE z hz
          exact Heap.lt_size e
        refine upd_loop ((Walks.list hh3 _ l hneI items).toS) s.heap.objs.size hSf ks zi nd (by omega) (show A.in1.in1.in1.units < cLine by
            have a1 : A.in1.in1.in1.units ≤ A.units + 3 := Nat.le_refl _
            omega) (fun i v hv => ?_) (fun z hz => ?_) (items.size - 0) 0 _ (by omega) (Nat.zero_le _)
          ⟨⟨_, Heap.get?_push_size _ rfl, rfl, rfl⟩, (hl1.push _)⟩ (fun z hz => key_to (hE z hz) fun o e => Heap.get?_push_of_some _ (Heap.get?_push_of_some _ e)) _ _ _ _ [] (Heap.get?_push_of_some _ hS0) (fresh_ok w) (.refl _) ?hR
        · have : items.toList[i]? = some v := by rw [Array.getElem?_toList]; exact hv
          rw [hi, List.getElem?_map] at this
          obtain ⟨z, hz, rfl⟩ := Option.map_eq_some_iff.mp this
          rw [List.getD_eq_getElem?_getD, hz]; rfl
        · have := hlt z hz
          simp only [List.mem_cons, List.mem_singleton, List.not_mem_nil, or_false]
          rw [Heap.size_push]
          exact Nat.ne_of_lt (Nat.lt_succ_of_lt this)
        case hR =>
          intro s' o' es' ep' t' xs' hm g1 g2 g3
          obtain ⟨h', g', d', tk', os'⟩ := s'
          have eg : g' = s.gens := hm.gens
          have ed : d' = s.drawn := hm.drawn
          have eo : os' = s.os := hm.os
          subst eg; subst ed; subst eo
          show wpAny _ _ _ _ _ _
          refine wpAny_pure ?_
          show wpAny _ _ (ret Value.none) _ _ _
          refine wpAny_pure ⟨rfl, h', tk', o', es', ep', t', xs', rfl, g1, g2, g3, fun b o hb e => ?_⟩
          have hb1 : b ≠ s.heap.objs.size := Nat.ne_of_lt hb
          have hb2 : b ≠ (s.heap.push (freshSet w)).objs.size := by
            rw [Heap.size_push]; exact Nat.ne_of_lt (Nat.lt_succ_of_lt hb)
          exact hm.heap b o (by simp only [List.mem_cons, List.mem_singleton, List.not_mem_nil, or_false, not_or]; exact ⟨hb1, hb2⟩) (Heap.get?_push_of_some _ (Heap.get?_push_of_some _ e))
      · cases r₂ with
        | error e => exact hr₂
        | ok fl₂ =>
          cases fl₂ with
          | ret r =>
            obtain ⟨rfl, h', tk, o', es', ep', t', xs, rfl, g1, g2, g3, hk'⟩ := hr₂
            repeat (any_goals (first | assumption | wp_step))
            exact h _ _ _ _ _ _ _ g1 g2 g3 hk'
          | _ => exact hr₂.elim
    | _ => exact hr.elim
end
end L2
set_option Elab.async false
set_option linter.all false
set_option maxRecDepth 100000
set_option maxHeartbeats 1000000
namespace L2
open PySem PySem.Spec PyProof.Rows
section
variable {X : Cx}
def rTSetL (K : PySem.W.Frag) : List V → Hp → VK → Prop := fun xs H Q => ∃ l ks, xs = [.ref l] ∧ SqL K H l (refE ks) ∧ (∀ z ∈ ks, SqT K H z.2 (z.1.map V.int)) ∧ (ks.map (·.1)).Nodup ∧ ks.length ≤ 1000 ∧ ∀ a zs, H a = none → zs.Perm ks → Q (.ref a) (upd H a (.tst zs))
theorem call_tsetL (hc : X.calm = true) (hu : X.A.units + 10 < cLine) : CallR X (.type "set") (rTSetL X.K) := by
  intro pins s σ H xs us Q I r h
  obtain ⟨l, ks, rfl, hL, hsq, nd, hn, q⟩ := h
  obtain ⟨u, rfl, rx⟩ := vals1 r
  cases rx
  obtain ⟨its, r, hl, z1⟩ := I.list hL
  have hi : its = ks.map fun z => Value.ref z.2 := by
    have rv := refValsE ks
    have : ∀ (vs : List V) (a b : List Value), (∀ v ∈ vs, ∃ p, v = V.ref p) → Vals vs a → Vals vs b → a = b := fun vs => by
      induction vs with
      | nil => intro a b _ h1 h2; cases h1; cases h2; rfl
      | cons v vs ih =>
        intro a b hv h1 h2
        cases h1 with
        | cons x1 t1 => cases h2 with
          | cons x2 t2 =>
            obtain ⟨p, rfl⟩ := hv v List.mem_cons_self
            cases x1; cases x2
            rw [ih _ _ (fun w hw => hv w (List.mem_cons_of_mem _ hw)) t1 t2]
    exact this _ _ _ (fun v hv => by obtain ⟨z, _, rfl⟩ := List.mem_map.mp hv; exact ⟨_, rfl⟩) r rv
  refine tset_list (ks := ks) (items := its.toArray) (I.ok.hd hc) ?_ (by simpa using hi) nd hn hu (fun z hz => key_int I (hsq z hz)) fun h' tk o' es' ep' t' zs g1 g2 g3 g4 => ?_
  · obtain ⟨o, n, e, c1, d1, t1⟩ := hl
    exact ⟨o, e, c1, n, by first | exact d1 | exact t1⟩
  · exact ⟨.ref s.heap.objs.size, _, I.laid (t' := tk) (fun b o e => g4 b o (Heap.lt_size e) e) (Nat.le_refl _) (show ObjOk X.prog X.w _ _ _ (.tst zs) from ⟨_, _, _, _, g1, g2⟩), rfl, q _ _ (I.hok.fresh (Nat.le_refl _)) g3⟩
def rSXor (K : PySem.W.Frag) : R2 := fun x y H Q => ∃ l r xs ys, x = .ref l ∧ y = .ref r ∧ H l = some (.tst xs) ∧ H r = some (.tst ys) ∧ (∀ z ∈ xs, SqT K H z.2 (z.1.map V.int)) ∧ (∀ z ∈ ys, SqT K H z.2 (z.1.map V.int)) ∧ xs.length + ys.length ≤ 1000 ∧
  ∀ a zs, H a = none → Tog (ys.map (·.1)) (xs.map (·.1)) zs → (∀ z ∈ zs, z ∈ ys ∨ z ∈ xs) → Q (.ref a) (upd H a (.tst zs))
theorem op_sxor (hu : X.A.units + 1 < cLine) : OpR X (binaryOp .BitXor) (rSXor X.K) := by
  intro pins s σ H x y v u Q I rx ry h
  obtain ⟨l, r, xs, ys, rfl, rfl, hl, hr, sl, sr, hn, q⟩ := h
  cases rx
  cases ry
  obtain ⟨ol, esl, epl, tl, hol, Sl⟩ := (show ObjOk X.prog X.w H s.heap l (.tst xs) from I.hok l _ hl)
  obtain ⟨or, esr, epr, tr, hor, Sr⟩ := (show ObjOk X.prog X.w H s.heap r (.tst ys) from I.hok r _ hr)
  refine tset_xor hol Sl (eok_of I sl) hor Sr (eok_of I sr) hu hn fun h' o' es' ep' t' zs b g S T m => ?_
  refine ⟨.ref s.heap.objs.size, _, I.laid (t' := s.toks) (fun c o e => ?_) (Nat.le_refl _) (show ObjOk X.prog X.w _ _ _ (.tst zs) from ⟨_, _, _, _, g, S⟩), rfl, q _ _ (I.hok.fresh (Nat.le_refl _)) T m⟩
  exact (b.2 c (Nat.ne_of_lt (Heap.lt_size e))).trans (Heap.get?_push_of_some _ e)
end
theorem reps_els {K : PySem.W.Frag} {H : Hp} {hid : Hid} : ∀ {vs : List V} {ks : List (List Int)}, Reps K (vw H hid) vs (ks.map tpI) → ∃ xs : Els, vs = refE xs ∧ xs.map (·.1) = ks ∧ Reps K (vw H hid) (refE xs) (tupE xs)
  | vs, [], r => by cases r; exact ⟨[], rfl, rfl, .nil⟩
  | vs, k :: ks, r => by
    rw [List.map_cons] at r
    cases r with
    | cons r rs =>
      obtain ⟨xs, rfl, rfl, r3⟩ := reps_els rs
      obtain ⟨b, z, rfl, _⟩ := (show Rep1 K H (vw H hid) _ (.tup (k.map D.int)) from .inl r).tup
      exact ⟨(k, b) :: xs, rfl, rfl, .cons r r3⟩
def keysT : List D → Option (List (List Int))
  | [] => some []
  | .tup ds :: r => (intsD ds).bind fun k => (keysT r).map (k :: ·)
  | _ => none
theorem keysT_eq : ∀ {ds : List D} {ks : List (List Int)}, keysT ds = some ks → ds = ks.map tpI
  | [], ks, h => by cases h; rfl
  | .tup es :: r, ks, h => by
    obtain ⟨k, e1, h⟩ := Option.bind_eq_some_iff.mp (show (intsD es).bind _ = _ from h)
    obtain ⟨t, e2, rfl⟩ := Option.map_eq_some_iff.mp h
    rw [List.map_cons, ← keysT_eq e2, intsD_eq e1]; rfl
  | .non :: _, _, h | .bl _ :: _, _, h | .int _ :: _, _, h | .str _ :: _, _, h | .lst _ :: _, _, h | .scr _ :: _, _, h => by cases h
theorem hu10_of {A : Around} {k : Nat} (hr : Room k A) : A.units + 10 < cLine := Nat.lt_of_le_of_lt (Nat.add_le_add_left (by decide : 10 ≤ 64) _) hr.units
def symK (a b : List (List Int)) : List (List Int) := a.filter (fun k => decide (k ∉ b)) ++ b.filter (fun k => decide (k ∉ a))
theorem symK_nd {a b : List (List Int)} (ha : a.Nodup) (hb : b.Nodup) : (symK a b).Nodup := by
  unfold symK
  rw [List.nodup_append]
  refine ⟨ha.filter _, hb.filter _, fun x hx y hy e => ?_⟩
  subst e
  have h1 := (List.mem_filter.mp hx).1
  have h2 := (List.mem_filter.mp hy).2
  simp at h2
  exact h2 h1
theorem symK_mem {a b : List (List Int)} {k : List Int} : k ∈ symK a b ↔ (k ∈ a ∧ k ∉ b) ∨ (k ∈ b ∧ k ∉ a) := by
  unfold symK
  simp
theorem tog_perm {a b : List (List Int)} {zs : Els} (T : Tog b a zs) (ha : a.Nodup) (hb : b.Nodup) : (zs.map (·.1)).Perm (symK a b) :=
  (List.perm_ext_iff_of_nodup T.nd (symK_nd ha hb)).mpr fun k => by rw [T.mem, symK_mem]; constructor <;> (rintro (h | h); exact .inr h; exact .inl h)
def addD (i j : Nat) : FE := fun ρ => match ρ[i]?, ρ[j]? with
  | some (.v (.lst d1)), some (.v (.lst d2)) => (keysT d1).bind fun k1 => (keysT d2).bind fun k2 => if (k1.Nodup ∧ k2.Nodup) ∧ k1.length + k2.length < 64 ∧ (∀ k ∈ k1, k ≠ []) ∧ (∀ k ∈ k2, k ≠ []) then some (.lst ((isortG lexB (symK k1 k2)).map tpI)) else none
  | _, _ => none
theorem sql_vw {K : PySem.W.Frag} {H : Hp} {hid : Hid} {v : V} {ds : List D} (h : Rep K (vw H hid) v (.lst ds)) : ∃ l xs, v = .ref l ∧ SqL K H l xs ∧ Reps K (vw H hid) xs ds := by
  obtain ⟨a, xs, rfl, h1, h2⟩ := (show Rep1 K H (vw H hid) v (.lst ds) from .inl h).lst
  exact ⟨a, xs, rfl, h1, h2⟩
section
variable {X : Cx} {c : Ct} {pos p p1 p2 p3 p4 p5 q1 q2 q3 : Pos} {x y : Str}
theorem dp_added (i j : Nat) (hcm : X.calm = true) (hu : X.A.units + 10 < cLine) (hm : X.mg "sorted" = none) (hms : X.mg "set" = none) (hN : X.N[i]? = some x := by rfl) (hN2 : X.N[j]? = some y := by rfl) (hv' : Vis X.env.scope x := by first | exact Or.inl rfl | exact Or.inr (Or.inl rfl) | exact Or.inr (Or.inr rfl)) (hv2 : Vis X.env.scope y := by first | exact Or.inl rfl | exact Or.inr (Or.inl rfl) | exact Or.inr (Or.inr rfl)) (hd : (x == ("__debug__" : Str)) = false := by decide) (hd2 : (y == ("__debug__" : Str)) = false := by decide)
    (hcd : (x == ("__classdict__" : Str)) = false := by decide) (hcd2 : (y == ("__classdict__" : Str)) = false := by decide) (hg : Gl X "sorted" := by rfl) (hgs : Gl X "set" := by rfl) (hv : bootBuiltins "sorted" = some (.builtin "sorted") := by kernel_rfl) (hvs : bootBuiltins "set" = some (.type "set") := by kernel_rfl)
    (he1 : starEach [.Name x p2] X.env = (false, eval (.Name x p2) X.env) :: starEach [] X.env := by rfl) (he2 : starEach [.Name y p4] X.env = (false, eval (.Name y p4) X.env) :: starEach [] X.env := by rfl) (he3 : starEach [.BinOp (.Call (.Name "set" p1) [.Name x p2] [] q1) .BitXor (.Call (.Name "set" p3) [.Name y p4] [] q2) q3] X.env = (false, eval (.BinOp (.Call (.Name "set" p1) [.Name x p2] [] q1) .BitXor (.Call (.Name "set" p3) [.Name y p4] [] q2) q3) X.env) :: starEach [] X.env := by rfl) (hpl : ∀ pos, (backTo pos (starEach [] X.env)).any (·.1) = false := by intro _; rfl) :
    DP X c .n (.Call (.Name "sorted" p) [.BinOp (.Call (.Name "set" p1) [.Name x p2] [] q1) .BitXor (.Call (.Name "set" p3) [.Name y p4] [] q2) q3] [] pos) (addD i j) := fun hid ρ =>
  PE.imp (pe_callB (call_sortedS hcm) hg hm hv (pa_cons (pe_op (op_sxor (by omega)) (pe_callTy (call_tsetL hcm hu) hgs hms hvs (pa_cons (pv i hN hv' hd hcd) pa_nil he1) (by decide) (by decide) he1 (hpl _)) (pe_callTy (call_tsetL hcm hu) hgs hms hvs (pa_cons (pv j hN2 hv2 hd2 hcd2) pa_nil he2) (by decide) (by decide) he2 (hpl _))) pa_nil he3) (by decide) (by decide) he3 (hpl _)) fun σ H Q hq_ => by
    obtain ⟨sr, d, hd, q⟩ := hq_
    unfold addD at hd
    split at hd
    · rename_i d1 d2 e1 e2
      obtain ⟨k1, f1, hd⟩ := Option.bind_eq_some_iff.mp hd
      obtain ⟨k2, f2, hd⟩ := Option.bind_eq_some_iff.mp hd
      split at hd
      · rename_i hc
        cases hd
        obtain ⟨⟨nd1, nd2⟩, hl, ne1, ne2⟩ := hc
        have := keysT_eq f1; subst this
        have := keysT_eq f2; subst this
        obtain ⟨v1, s1, r1⟩ := sr.sl i _ e1
        obtain ⟨v2, s2, r2⟩ := sr.sl j _ e2
        obtain ⟨l1, u1, rfl, g1, w1⟩ := sql_vw r1
        obtain ⟨l2, u2, rfl, g2, w2⟩ := sql_vw r2
        obtain ⟨x1, rfl, rfl, y1⟩ := reps_els w1
        obtain ⟨x2, rfl, rfl, y2⟩ := reps_els w2
        rw [List.length_map, List.length_map] at hl
        have t1 : ∀ z ∈ x1, SqT X.K H z.2 (z.1.map V.int) := fun z hz => sq_vw (reps_mem y1 z hz)
        have t2 : ∀ z ∈ x2, SqT X.K H z.2 (z.1.map V.int) := fun z hz => sq_vw (reps_mem y2 z hz)
        refine ⟨.ref l1, s1, l1, x1, rfl, g1, t1, nd1, by omega, fun a1 z1 n1 pm1 => ?_⟩
        have S1 : Same H (upd H a1 (.tst z1)) := same_new n1 _
        refine ⟨.ref l2, s2, l2, x2, rfl, Same.seq S1 g2, fun z hz => Same.seqT S1 (t2 z hz), nd2, by omega, fun a2 z2 n2 pm2 => ?_⟩
        have S2 : Same (upd H a1 (.tst z1)) (upd (upd H a1 (.tst z1)) a2 (.tst z2)) := same_new n2 _
        have S12 := S1.trans S2
        refine ⟨a1, a2, z1, z2, rfl, rfl, S2 _ _ upd_same, upd_same, fun z hz => Same.seqT S12 (t1 z (pm1.mem_iff.mp hz)), fun z hz => Same.seqT S12 (t2 z (pm2.mem_iff.mp hz)), by rw [pm1.length_eq, pm2.length_eq]; omega, fun a3 z3 n3 T m3 => ?_⟩
        have S3 := same_new n3 (.tst z3)
        have S13 := S12.trans S3
        have m3' : ∀ z ∈ z3, z ∈ x1 ∨ z ∈ x2 := fun z hz => (m3 z hz).elim (fun h => .inr (pm2.mem_iff.mp h)) fun h => .inl (pm1.mem_iff.mp h)
        have T' : Tog (x2.map (·.1)) (x1.map (·.1)) z3 := ⟨T.nd, fun k => by rw [T.mem, (pm1.map (·.1)).mem_iff, (pm2.map (·.1)).mem_iff]⟩
        have P3 := tog_perm T' nd1 nd2
        have l3 : z3.length ≤ x1.length + x2.length := by
          have := P3.length_eq
          rw [List.length_map] at this
          rw [this]
          unfold symK
          rw [List.length_append]
          have a := List.length_filter_le (fun k => decide (k ∉ x2.map (·.1))) (x1.map (·.1))
          have b := List.length_filter_le (fun k => decide (k ∉ x1.map (·.1))) (x2.map (·.1))
          rw [List.length_map] at a b
          omega
        have rp : ∀ z ∈ z3, Rep X.K (vw H hid) (.ref z.2) (.tup (z.1.map D.int)) := fun z hz => (m3' z hz).elim (reps_mem y1 z) (reps_mem y2 z)
        refine ⟨a3, z3, rfl, upd_same, fun z hz => Same.seqT S13 (sq_vw (rp z hz)), by omega, fun z hz => (m3' z hz).elim (fun h => ne1 _ (List.mem_map_of_mem h)) fun h => ne2 _ (List.mem_map_of_mem h), fun l zs' hl hm hk => q _ _ (S13.trans (same_new hl _)) (rn_new hl S13 ?_)⟩
        have : (isortG lexB (symK (x1.map (·.1)) (x2.map (·.1)))).map tpI = tupE zs' := by
          rw [← sort_perm P3, ← hk, List.map_map]; rfl
        rw [this]
        exact reps_all fun z hz => (rp z (hm z hz)).mono (vw_same S13)
      · cases hd
    · cases hd
end
section
variable {X : Cx} {c : Ct} {k : Kd} {pos : Pos}
def par3E (i j l : Nat) (fs : GA) : FS := fun ρ => match fs ρ with
  | some ([d1, d2, d3], ρ1) => .nx (((ρ1.set i (.v d1)).set j (.v d2)).set l (.v d3))
  | _ => .no
theorem ds_par3E (i j l : Nat) {x y z : Str} {a b c' : Expr} {fs : GA} {px py pz pt : Pos} {kt k2 pt2} (hc : X.calm = true) (hN : X.N.Nodup) (ha : DG X c [a, b, c'] fs) (hi : X.N[i]? = some x := by rfl) (hj : X.N[j]? = some y := by rfl) (hl : X.N[l]? = some z := by rfl) (hij : i ≠ j := by decide) (hil : i ≠ l := by decide) (hjl : j ≠ l := by decide)
    (hx : X.env.scope.names.lookup x = some .local := by rfl) (hy : X.env.scope.names.lookup y = some .local := by rfl) (hz : X.env.scope.names.lookup z = some .local := by rfl)
    (hw : swappedStores [.Tuple [.Name x px, .Name y py, .Name z pz] kt pt] (.Tuple [a, b, c'] k2 pt2) X.env = pure (some [x, y, z]) := by rfl)
    (hs : swapsWithSole [.Tuple [.Name x px, .Name y py, .Name z pz] kt pt] (.Tuple [a, b, c'] k2 pt2) pos.line X.env = pure false := by rfl) :
    DS X c k (.Assign [.Tuple [.Name x px, .Name y py, .Name z pz] kt pt] (.Tuple [a, b, c'] k2 pt2) pos) (par3E i j l fs) := fun ρ =>
  PS.imp (ps_par3 hc hN hi hj hl hij hil hjl hx hy hz (exPA fun hid => ha hid ρ) hw hs) fun D σ H hq_ => by
    obtain ⟨hid, sr, q⟩ := hq_
    unfold par3E at q
    cases e1 : fs ρ with
    | none => rw [e1] at q; exact q.elim
    | some ds =>
      rw [e1] at q
      match ds, e1, q with
      | ([], _), _, q => exact q.elim
      | ([_], _), _, q => exact q.elim
      | ([_, _], _), _, q => exact q.elim
      | (_ :: _ :: _ :: _ :: _, _), _, q => exact q.elim
      | ([d1, d2, d3], ρ1), e1, q =>
        refine ⟨hid, sr, [d1, d2, d3], ρ1, e1, fun vs H1 kp s1 r1 => ?_⟩
        cases r1 with
        | cons r1 t =>
          cases t with
          | cons r2 t =>
            cases t with
            | cons r3 t =>
              cases t
              exact ⟨_, _, _, rfl, q _ H1 hid (((s1.setV r1 i).setV r2 j).setV r3 l) kp.vw⟩
theorem par3E_at {i j l : Nat} {fs : GA} {ρ ρ1 : Rho} {d1 d2 d3 : D} (h : fs ρ = some ([d1, d2, d3], ρ1)) : par3E i j l fs ρ = .nx (((ρ1.set i (.v d1)).set j (.v d2)).set l (.v d3)) := by unfold par3E; rw [h]
end
end L2
set_option Elab.async false
set_option linter.all false
set_option maxRecDepth 100000
set_option maxHeartbeats 4000000
namespace L2
open PySem PySem.Spec PyProof.Rows
def top (i : Nat) : Stmt := PySem.Challenge.pw_rookborders_k31_crowds_added.main.body.getD i (.Pass ⟨0, 0, 0, 0⟩)
structure Bt (mg : Str → Option Value) : Prop where
  b_abs : mg "abs" = none
  b_all : mg "all" = none
  b_isinstance : mg "isinstance" = none
  b_len : mg "len" = none
  b_list : mg "list" = none
  b_min : mg "min" = none
  b_range : mg "range" = none
  b_set : mg "set" = none
  b_sorted : mg "sorted" = none
  b_tuple : mg "tuple" = none
theorem nd_0 : (["_law_one", "_law_other", "_law_stand"] : List Str).Nodup := by decide +kernel
theorem nd_1 : (["_law_one", "_law_other", "_law_third", "_law_handed", "_law_due_here", "_law_found", "_law_alone", "_law_again", "_law_stand"] : List Str).Nodup := by decide +kernel
section
variable {P : Program} {w : World} {K : PySem.W.Frag} {mg : Str → Option Value} {base : Heap}
abbrev s_added : Stmt := top 1
abbrev s_law_cell : Stmt := top 3
abbrev s_law_bag : Stmt := top 4
abbrev s_law_take : Stmt := top 5
abbrev s_law_order : Stmt := top 6
abbrev s_law_crowd : Stmt := top 7
abbrev s_law_due : Stmt := top 8
abbrev s_law_right : Stmt := top 9
abbrev s_law : Stmt := top 10
theorem sc_added : FnScope ["one", "other"] ["one", "other"] (defScope s_added) := ⟨rfl, rfl, rfl, by decide +kernel, rfl, by decide +kernel, by decide +kernel⟩
def t_added : FS :=
  retF (addD 0 1)
def m_added : List D → Option D := fnP .n 2 t_added
theorem k_added (B : Bt mg) (F : Df K mg "added" s_added ["one", "other"])  : Cl P w K mg base 1 "added" ["one", "other"] (spP K .n 2 m_added) := by
  refine cl_pure (k := 0) F sc_added (by decide) rfl fun _ cdv A outer s H hid E hr => ?_
  exact (dss_one (ds_ret (dp_added 0 1 rfl (hu10_of hr) B.b_sorted B.b_set)))
theorem sc_law_cell : FnScope ["_law_script", "_law_k"] ["_law_script", "_law_k"] (defScope s_law_cell) := ⟨rfl, rfl, rfl, by decide +kernel, rfl, by decide +kernel, by decide +kernel⟩
def t_law_cell : FS :=
  seqS (ifS (toB (op2 ltF (nmF 1) (callF lenD (consA (nmF 0) (nilA))))) (retF (op2 ixD (nmF 0) (nmF 1))) (skip))
  (retF (cst (.int 0)))
def m_law_cell : List D → Option D := fnP .s 2 t_law_cell
theorem k_law_cell (B : Bt mg) (F : Df K mg "_law_cell" s_law_cell ["_law_script", "_law_k"])  : Cl P w K mg base 1 "_law_cell" ["_law_script", "_law_k"] (spP K .s 2 m_law_cell) := by
  refine cl_pure (k := 0) F sc_law_cell (by decide) rfl fun _ cdv A outer s H hid E hr => ?_
  exact (dss_cons (ds_if (dt_cmp op_lt od_B0 (dp_nm 1) (dp_callB call_len_seq cd_len B.b_len (db_cons (dp_nm 0) db_nil) (hv := by kernel_rfl)) (nomark _)) (dss_one (ds_ret (dp_ix ix_seq od_ix (dp_nm 0) (dp_nm 1) (fun _ _ => rfl)))) dss_nil)
      (dss_one (ds_ret dp_int)))
theorem sc_law_bag : FnScope ["_law_script", "_law_at", "_law_cell_here", "_law_mix", "_law_k"] ["_law_script", "_law_at"] (defScope s_law_bag) := ⟨rfl, rfl, rfl, by decide +kernel, rfl, by decide +kernel, by decide +kernel⟩
def t_law_bag : FS :=
  seqS (setF 2 (op2 modF (callF absI (consA (callF (nF 2 m_law_cell) (consA (nmF 0) (consA (nmF 1) (nilA)))) (nilA))) (op2 mulF (op2 mulF (op2 powF (cst (.int 10)) (cst (.int 60))) (op2 powF (cst (.int 10)) (cst (.int 60)))) (op2 powF (cst (.int 10)) (cst (.int 60))))))
  (seqS (ifS (toB (op2 geF (nmF 2) (op2 powF (cst (.int 10)) (cst (.int 18))))) (retF (lstF (consA (nmF 2) (consA (cst (.int 0)) (nilA))))) (skip))
  (seqS (setF 3 (op2 modF (op2 addF (op2 addF (nmF 2) (op2 mulF (cst (.int 7919)) (nmF 1))) (cst (.int 17))) (cst (.int 2147483647))))
  (seqS (forS (puA (rngA1 (consA (callF min2D (consA (callF lenD (consA (nmF 0) (nilA))) (consA (cst (.int 9)) (nilA)))) (nilA)))) (gN 4) (setF 3 (op2 modF (op2 addF (op2 addF (op2 powF (nmF 3) (cst (.int 5))) (op2 modF (op2 ixD (nmF 0) (nmF 4)) (cst (.int 2147483629)))) (op2 mulF (cst (.int 31)) (nmF 4))) (cst (.int 2147483647)))))
  (retF (lstF (consA (nmF 3) (consA (cst (.int 1)) (nilA))))))))
def m_law_bag : List D → Option D := fnP .n 5 t_law_bag
theorem k_law_bag (B : Bt mg) (F : Df K mg "_law_bag" s_law_bag ["_law_script", "_law_at"]) (c_law_cell : Cl P w K mg base 1 "_law_cell" ["_law_script", "_law_k"] (spP K .s 2 m_law_cell)) : Cl P w K mg base 2 "_law_bag" ["_law_script", "_law_at"] (spP K .n 2 m_law_bag) := by
  refine cl_pure (k := 1) F sc_law_bag (by decide) rfl fun _ cdv A outer s H hid E hr => ?_
  exact (dss_cons (ds_setF 2 sc_law_bag.nd (dp_mod (dp_callB call_abs cd_abs B.b_abs (db_cons (dp_cl c_law_cell (hr.mono (by decide)) (da_cons (dp_nm 0) (da_cons (dp_nm 1) da_nil))) db_nil) (hv := by kernel_rfl)) (dp_mul (dp_mul (dp_pow dp_int dp_int) (dp_pow dp_int dp_int)) (dp_pow dp_int dp_int))))
      (dss_cons (ds_if (dt_cmp op_ge od_B0 (dp_nm 2) (dp_pow dp_int dp_int) (nomark _)) (dss_one (ds_ret (dp_lst (da_cons (dp_nm 2) (da_cons dp_int da_nil))))) dss_nil)
      (dss_cons (ds_setF 3 sc_law_bag.nd (dp_mod (dp_add (dp_add (dp_nm 2) (dp_mul dp_int (dp_nm 1))) dp_int) dp_int))
      (dss_cons (ds_for PassesOwn.never rfl (DIp.e (dip_range1 B.b_range (da_cons (dp_callB (call_min2 rfl) cd_min2 B.b_min (db_cons (dp_callB call_len_seq cd_len B.b_len (db_cons (dp_nm 0) db_nil) (hv := by kernel_rfl)) (db_cons dp_int db_nil)) (hv := by kernel_rfl)) da_nil))) (dgt_name 4 sc_law_bag.nd) (dss_one (ds_setF 3 sc_law_bag.nd (dp_mod (dp_add (dp_add (dp_pow (dp_nm 3) dp_int) (dp_mod (dp_ix ix_seq od_ix (dp_nm 0) (dp_nm 4) (fun _ _ => rfl)) dp_int)) (dp_mul dp_int (dp_nm 4))) dp_int))))
      (dss_one (ds_ret (dp_lst (da_cons (dp_nm 3) (da_cons dp_int da_nil)))))))))
theorem sc_law_take : FnScope ["_law_bag_here", "_law_many", "_law_digit"] ["_law_bag_here", "_law_many"] (defScope s_law_take) := ⟨rfl, rfl, rfl, by decide +kernel, rfl, by decide +kernel, by decide +kernel⟩
def t_law_take : FS :=
  seqS (ifS (toB (op2 eqF (op2 ixD (nbF 0) (cst (.int 1))) (cst (.int 0)))) (seqS (setF 2 (op2 modF (op2 ixD (nbF 0) (cst (.int 0))) (nmF 1)))
  (seqS (asgE (setIx 0 (cst (.int 0))) (pu (op2 fdivF (op2 ixD (nbF 0) (cst (.int 0))) (nmF 1))))
  (retF (nmF 2)))) (skip))
  (seqS (asgE (setIx 0 (cst (.int 0))) (pu (op2 modF (op2 addF (op2 addF (op2 powF (op2 ixD (nbF 0) (cst (.int 0))) (cst (.int 5))) (op2 mulF (cst (.int 48271)) (op2 ixD (nbF 0) (cst (.int 1))))) (cst (.int 11))) (cst (.int 2147483647)))))
  (seqS (asgE (setIx 0 (cst (.int 1))) (pu (op2 addF (op2 ixD (nbF 0) (cst (.int 1))) (cst (.int 1)))))
  (retF (op2 modF (op2 fdivF (op2 modF (op2 mulF (op2 ixD (nbF 0) (cst (.int 0))) (cst (.int 69621))) (cst (.int 2147483629))) (cst (.int 8))) (nmF 1)))))
def m_law_take : List D → List D → Option (D × List D) := fnE .s 3 t_law_take
theorem k_law_take (B : Bt mg) (F : Df K mg "_law_take" s_law_take ["_law_bag_here", "_law_many"])  : Cl P w K mg base 1 "_law_take" ["_law_bag_here", "_law_many"] (spE K .s 1 m_law_take) := by
  refine cl_eff (k := 0) F sc_law_take (by decide) rfl fun _ cdv A outer s H hid a E hr => ?_
  exact (dss_cons (ds_if (dt_cmp (op_eqD hr.units) od_eq (dp_ix ix_seq od_ix (dp_nb 0) dp_int (fun _ _ => rfl)) dp_int (nomark _)) (dss_cons (ds_setF 2 sc_law_take.nd (dp_mod (dp_ix ix_seq od_ix (dp_nb 0) dp_int (fun _ _ => rfl)) (dp_nm 1)))
      (dss_cons (ds_put (DP.ef (dp_fdiv (dp_ix ix_seq od_ix (dp_nb 0) dp_int (fun _ _ => rfl)) (dp_nm 1))) (dht_sub 0 dp_int))
      (dss_one (ds_ret (dp_nm 2))))) dss_nil)
      (dss_cons (ds_put (DP.ef (dp_mod (dp_add (dp_add (dp_pow (dp_ix ix_seq od_ix (dp_nb 0) dp_int (fun _ _ => rfl)) dp_int) (dp_mul dp_int (dp_ix ix_seq od_ix (dp_nb 0) dp_int (fun _ _ => rfl)))) dp_int) dp_int)) (dht_sub 0 dp_int))
      (dss_cons (ds_put (DP.ef (dp_add (dp_ix ix_seq od_ix (dp_nb 0) dp_int (fun _ _ => rfl)) dp_int)) (dht_sub 0 dp_int))
      (dss_one (ds_ret (dp_mod (dp_fdiv (dp_mod (dp_mul (dp_ix ix_seq od_ix (dp_nb 0) dp_int (fun _ _ => rfl)) dp_int) dp_int) dp_int) (dp_nm 1)))))))
theorem sc_law_order : FnScope ["_law_bag_here", "_law_n", "_law_left", "_law_found"] ["_law_bag_here", "_law_n"] (defScope s_law_order) := ⟨rfl, rfl, rfl, by decide +kernel, rfl, by decide +kernel, by decide +kernel⟩
def t_law_order : FS :=
  seqS (ownF 2 (lr1 (nmF 1)))
  (seqS (ownF 3 (lstF (nilA)))
  (seqS (whL (toB (op2 neF (nbF 2) (lstF (nilA)))) (dropE (callE 3 1 appM (consG (callE 2 1 popM (consG (callE 0 1 m_law_take (puA (consA (callF lenD (consA (nbF 2) (nilA))) (nilA)))) (puA (nilA)))) (puA (nilA))))) 16)
  (retO 3)))
def m_law_order : List D → List D → Option (D × List D) := fnE .n 4 t_law_order
theorem k_law_order (B : Bt mg) (F : Df K mg "_law_order" s_law_order ["_law_bag_here", "_law_n"]) (c_law_take : Cl P w K mg base 1 "_law_take" ["_law_bag_here", "_law_many"] (spE K .s 1 m_law_take)) : Cl P w K mg base 2 "_law_order" ["_law_bag_here", "_law_n"] (spE K .n 1 m_law_order) := by
  refine cl_eff (k := 1) F sc_law_order (by decide) rfl fun _ cdv A outer s H hid a E hr => ?_
  exact (dss_cons (ds_ownF 2 sc_law_order.nd (dp_listRange1 rfl B.b_list B.b_range (dp_nm 1)))
      (dss_cons (ds_ownF 3 sc_law_order.nd (dp_lst da_nil))
      (dss_cons (ds_while 16 PassesOwn.never (dt_cmp (op_neD hr.units) od_ne (dp_nb 2) (dp_lst da_nil) (nomark _)) (dss_one (ds_expr (de_meth 3 md_append mt_append PySem.F.slot_list_append PySem.F.type_list_append (dg_cons (de_meth 2 md_pop mt_popAt PySem.F.slot_list_pop PySem.F.type_list_pop (dg_cons (de_cl 0 c_law_take (hr.mono (by decide)) (DA.gf (da_cons (dp_callB call_len_seq cd_len B.b_len (db_cons (dp_nb 2) db_nil) (hv := by kernel_rfl)) da_nil))) (DA.gf da_nil))) (DA.gf da_nil))))))
      (dss_one (ds_retO 3)))))
theorem sc_law_crowd : FnScope ["_law_bag_here", "_law_n", "_law_found", "_law_turn", "_law_stand"] ["_law_bag_here", "_law_n"] (defScope s_law_crowd) := ⟨rfl, rfl, rfl, by decide +kernel, rfl, by decide +kernel, by decide +kernel⟩
def t_law_crowd : FS :=
  seqS (ownF 2 (lstF (nilA)))
  (seqS (forS (rng1 (consG (callE 0 1 m_law_take (puA (consA (cst (.int 13)) (nilA)))) (puA (nilA)))) (gN 3) (seqS (setE 4 (callG tupleD (consG (callE 0 1 m_law_order (puA (consA (nmF 1) (nilA)))) (puA (nilA)))))
  (ifS (toB (op2 (inF true) (nmF 4) (nbF 2))) (dropE (callE 2 1 appM (puA (consA (nmF 4) (nilA))))) (skip))))
  (retF (callF sortedF (consA (nbF 2) (nilA)))))
def m_law_crowd : List D → List D → Option (D × List D) := fnE .n 5 t_law_crowd
theorem k_law_crowd (B : Bt mg) (F : Df K mg "_law_crowd" s_law_crowd ["_law_bag_here", "_law_n"]) (c_law_take : Cl P w K mg base 1 "_law_take" ["_law_bag_here", "_law_many"] (spE K .s 1 m_law_take)) (c_law_order : Cl P w K mg base 2 "_law_order" ["_law_bag_here", "_law_n"] (spE K .n 1 m_law_order)) : Cl P w K mg base 3 "_law_crowd" ["_law_bag_here", "_law_n"] (spE K .n 1 m_law_crowd) := by
  refine cl_eff (k := 2) F sc_law_crowd (by decide) rfl fun _ cdv A outer s H hid a E hr => ?_
  exact (dss_cons (ds_ownF 2 sc_law_crowd.nd (dp_lst da_nil))
      (dss_cons (ds_for PassesOwn.never rfl (di_range1 B.b_range (dg_cons (de_cl 0 c_law_take (hr.mono (by decide)) (DA.gf (da_cons dp_int da_nil))) (DA.gf da_nil))) (dgt_name 3 sc_law_crowd.nd) (dss_cons (ds_setE 4 sc_law_crowd.nd (de_callTy call_tuple_of cd_tuple B.b_tuple (dg_cons (DE.toS (de_cl 0 c_law_order (hr.mono (by decide)) (DA.gf (da_cons (dp_nm 1) da_nil)))) (DA.gf da_nil)) (hv := by kernel_rfl)))
      (dss_one (ds_if (dt_cmp (op_notInD hr.units) (od_in true) (dp_nm 4) (dp_nb 2) (by with_unfolding_all rfl)) (dss_one (ds_expr (de_meth 2 md_append mt_append PySem.F.slot_list_append PySem.F.type_list_append (DA.gf (da_cons (dp_nm 4) da_nil))))) dss_nil))))
      (dss_one (ds_ret (dp_callB call_sorted cd_sorted B.b_sorted (db_cons (dp_nb 2) db_nil) (hv := by kernel_rfl))))))
theorem sc_law_due : FnScope ["_law_one", "_law_other"] ["_law_one", "_law_other"] (defScope s_law_due) := ⟨rfl, rfl, rfl, by decide +kernel, rfl, by decide +kernel, by decide +kernel⟩
def t_law_due : FS :=
  retF (callF sortedF (consA (op2 catLF (compF 1 (seqA (nmF 0)) (gN 2) (toB (op2 (inF true) (nmF 2) (nmF 1))) (nmF 2)) (compF 1 (seqA (nmF 1)) (gN 2) (toB (op2 (inF true) (nmF 2) (nmF 0))) (nmF 2))) (nilA)))
def m_law_due : List D → Option D := fnP .n 2 t_law_due
theorem k_law_due (B : Bt mg) (F : Df K mg "_law_due" s_law_due ["_law_one", "_law_other"])  : Cl P w K mg base 1 "_law_due" ["_law_one", "_law_other"] (spP K .n 2 m_law_due) := by
  refine cl_pure (k := 0) F sc_law_due (by decide) rfl fun _ cdv A outer s H hid E hr => ?_
  exact (dss_one (ds_ret (dp_callB call_sorted cd_sorted B.b_sorted (db_cons (dp_catL (dp_comp (N' := ["_law_one", "_law_other", "_law_stand"]) rfl (tail_n (Nat.le_of_ble_eq_true rfl)) (DIp.b (dip_seq (dp_nm 0))) (fun _ _ _ _ => (dgt_name 2 nd_0)) (fun _ _ _ _ => (dif_one (dt_cmp (op_notInD hr.units) (od_in true) (dp_nm 2) (dp_nm 1) (by with_unfolding_all rfl)))) (fun _ _ _ _ => (dp_nm 2))) (dp_comp (N' := ["_law_one", "_law_other", "_law_stand"]) rfl (tail_n (Nat.le_of_ble_eq_true rfl)) (DIp.b (dip_seq (dp_nm 1))) (fun _ _ _ _ => (dgt_name 2 nd_0)) (fun _ _ _ _ => (dif_one (dt_cmp (op_notInD hr.units) (od_in true) (dp_nm 2) (dp_nm 0) (by with_unfolding_all rfl)))) (fun _ _ _ _ => (dp_nm 2)))) db_nil) (hv := by kernel_rfl))))
theorem sc_law_right : FnScope ["_law_one", "_law_other", "_law_third", "_law_handed", "_law_due_here", "_law_found", "_law_alone", "_law_again"] ["_law_one", "_law_other", "_law_third"] (defScope s_law_right) := ⟨rfl, rfl, rfl, by decide +kernel, rfl, by decide +kernel, by decide +kernel⟩
def t_law_right : FS :=
  seqS (setF 3 (lstF (consA (callF listD (consA (nmF 0) (nilA))) (consA (callF listD (consA (nmF 1) (nilA))) (nilA)))))
  (seqS (setF 4 (callF (nF 2 m_law_due) (consA (nmF 0) (consA (nmF 1) (nilA)))))
  (seqS (ownF 5 (callF (nF 2 m_added) (consA (op2 ixD (nmF 3) (cst (.int 0))) (consA (op2 ixD (nmF 3) (cst (.int 1))) (nilA)))))
  (seqS (ifS (or2 (not1 (tru1 (isiF "list" (nbF 5)))) (or2 (not1 (tru1 (callF allD (consA (compF 1 (lstA (nbF 5)) (gN 8) (yesT) (isiF "tuple" (nmF 8))) (nilA))))) (toB (op2 neF (nbF 5) (nmF 4))))) (retF (cst (.bl false))) (skip))
  (seqS (ifS (or2 (toB (op2 neF (callF (nF 2 m_added) (consA (op2 ixD (nmF 3) (cst (.int 1))) (consA (op2 ixD (nmF 3) (cst (.int 0))) (nilA)))) (nmF 4))) (toB (op2 neF (nmF 3) (lstF (consA (nmF 0) (consA (nmF 1) (nilA))))))) (retF (cst (.bl false))) (skip))
  (seqS (ifS (toB (op2 neF (callF (nF 2 m_added) (consA (callF listD (consA (nbF 5) (nilA))) (consA (callF listD (consA (nmF 2) (nilA))) (nilA)))) (callF (nF 2 m_added) (consA (op2 ixD (nmF 3) (cst (.int 0))) (consA (callF (nF 2 m_added) (consA (op2 ixD (nmF 3) (cst (.int 1))) (consA (callF listD (consA (nmF 2) (nilA))) (nilA)))) (nilA)))))) (retF (cst (.bl false))) (skip))
  (seqS (ownF 6 (callF (nF 2 m_added) (consA (op2 ixD (nmF 3) (cst (.int 0))) (consA (lstF (nilA)) (nilA)))))
  (seqS (ownF 7 (callF (nF 2 m_added) (consA (lstF (nilA)) (consA (op2 ixD (nmF 3) (cst (.int 0))) (nilA)))))
  (seqS (ifS (or2 (toB (op2 neF (nbF 6) (nmF 0))) (or2 (toB (op2 neF (nbF 7) (nmF 0))) (toB (op2 neF (callF (nF 2 m_added) (consA (op2 ixD (nmF 3) (cst (.int 0))) (consA (callF listD (consA (nmF 0) (nilA))) (nilA)))) (lstF (nilA)))))) (retF (cst (.bl false))) (skip))
  (seqS (dropE (callE 6 1 appM (puA (consA (cst .non) (nilA)))))
  (seqS (dropE (callE 7 0 clrM (puA nilA)))
  (seqS (dropE (callE 5 1 appM (puA (consA (cst .non) (nilA)))))
  (retF (asD (and2 (toB (op2 eqF (nmF 3) (lstF (consA (nmF 0) (consA (nmF 1) (nilA)))))) (toB (op2 eqF (callF (nF 2 m_added) (consA (op2 ixD (nmF 3) (cst (.int 0))) (consA (op2 ixD (nmF 3) (cst (.int 1))) (nilA)))) (nmF 4)))))))))))))))))
def m_law_right : List D → Option D := fnP .s 8 t_law_right
theorem k_law_right (B : Bt mg) (F : Df K mg "_law_right" s_law_right ["_law_one", "_law_other", "_law_third"]) (c_law_due : Cl P w K mg base 1 "_law_due" ["_law_one", "_law_other"] (spP K .n 2 m_law_due)) (c_added : Cl P w K mg base 1 "added" ["one", "other"] (spP K .n 2 m_added)) : Cl P w K mg base 2 "_law_right" ["_law_one", "_law_other", "_law_third"] (spP K .s 3 m_law_right) := by
  refine cl_pure (k := 1) F sc_law_right (by decide) rfl fun _ cdv A outer s H hid E hr => ?_
  exact (dss_cons (ds_setF 3 sc_law_right.nd (DP.toS (dp_lst (da_cons (DP.toS (dp_callTy call_list_of cd_list B.b_list (db_cons (dp_nm 0) db_nil) (hv := by kernel_rfl))) (da_cons (DP.toS (dp_callTy call_list_of cd_list B.b_list (db_cons (dp_nm 1) db_nil) (hv := by kernel_rfl))) da_nil)))))
      (dss_cons (ds_setF 4 sc_law_right.nd (DP.toS (dp_cl c_law_due (hr.mono (by decide)) (da_cons (dp_nm 0) (da_cons (dp_nm 1) da_nil)))))
      (dss_cons (ds_ownF 5 sc_law_right.nd (dp_cl c_added (hr.mono (by decide)) (da_cons (dp_ix ix_seq od_ix (dp_nm 3) dp_int (fun _ _ => rfl)) (da_cons (dp_ix ix_seq od_ix (dp_nm 3) dp_int (fun _ _ => rfl)) da_nil))))
      (dss_cons (ds_if (DW.dt (dw_or (dt_not (dt_val (dp_isi "list" kt_list (dp_nb 5) B.b_isinstance B.b_list))) (dw_or (dt_not (dt_val (dp_callB (call_all rfl) cd_all B.b_all (db_cons (dp_comp (N' := ["_law_one", "_law_other", "_law_third", "_law_handed", "_law_due_here", "_law_found", "_law_alone", "_law_again", "_law_stand"]) rfl (tail_n (Nat.le_of_ble_eq_true rfl)) (dib_list (dp_nb 5)) (fun _ _ _ _ => (dgt_name 8 nd_1)) (fun _ _ _ _ => dif_nil) (fun _ _ _ _ => (dp_isi "tuple" kt_tuple (dp_nm 8) B.b_isinstance B.b_tuple))) db_nil) (hv := by kernel_rfl)))) (dw_or1 (dt_cmp (op_neD hr.units) od_ne (dp_nb 5) (dp_nm 4) (nomark _)))))) (dss_one (ds_ret dp_bl)) dss_nil)
      (dss_cons (ds_if (DW.dt (dw_or (dt_cmp (op_neD hr.units) od_ne (dp_cl c_added (hr.mono (by decide)) (da_cons (dp_ix ix_seq od_ix (dp_nm 3) dp_int (fun _ _ => rfl)) (da_cons (dp_ix ix_seq od_ix (dp_nm 3) dp_int (fun _ _ => rfl)) da_nil))) (dp_nm 4) (nomark _)) (dw_or1 (dt_cmp (op_neD hr.units) od_ne (dp_nm 3) (dp_lst (da_cons (dp_nm 0) (da_cons (dp_nm 1) da_nil))) (nomark _))))) (dss_one (ds_ret dp_bl)) dss_nil)
      (dss_cons (ds_if (dt_cmp (op_neD hr.units) od_ne (dp_cl c_added (hr.mono (by decide)) (da_cons (DP.toS (dp_callTy call_list_of cd_list B.b_list (db_cons (dp_nb 5) db_nil) (hv := by kernel_rfl))) (da_cons (DP.toS (dp_callTy call_list_of cd_list B.b_list (db_cons (dp_nm 2) db_nil) (hv := by kernel_rfl))) da_nil))) (dp_cl c_added (hr.mono (by decide)) (da_cons (dp_ix ix_seq od_ix (dp_nm 3) dp_int (fun _ _ => rfl)) (da_cons (DP.toS (dp_cl c_added (hr.mono (by decide)) (da_cons (dp_ix ix_seq od_ix (dp_nm 3) dp_int (fun _ _ => rfl)) (da_cons (DP.toS (dp_callTy call_list_of cd_list B.b_list (db_cons (dp_nm 2) db_nil) (hv := by kernel_rfl))) da_nil)))) da_nil))) (nomark _)) (dss_one (ds_ret dp_bl)) dss_nil)
      (dss_cons (ds_ownF 6 sc_law_right.nd (dp_cl c_added (hr.mono (by decide)) (da_cons (dp_ix ix_seq od_ix (dp_nm 3) dp_int (fun _ _ => rfl)) (da_cons (DP.toS (dp_lst da_nil)) da_nil))))
      (dss_cons (ds_ownF 7 sc_law_right.nd (dp_cl c_added (hr.mono (by decide)) (da_cons (DP.toS (dp_lst da_nil)) (da_cons (dp_ix ix_seq od_ix (dp_nm 3) dp_int (fun _ _ => rfl)) da_nil))))
      (dss_cons (ds_if (DW.dt (dw_or (dt_cmp (op_neD hr.units) od_ne (dp_nb 6) (dp_nm 0) (nomark _)) (dw_or (dt_cmp (op_neD hr.units) od_ne (dp_nb 7) (dp_nm 0) (nomark _)) (dw_or1 (dt_cmp (op_neD hr.units) od_ne (dp_cl c_added (hr.mono (by decide)) (da_cons (dp_ix ix_seq od_ix (dp_nm 3) dp_int (fun _ _ => rfl)) (da_cons (DP.toS (dp_callTy call_list_of cd_list B.b_list (db_cons (dp_nm 0) db_nil) (hv := by kernel_rfl))) da_nil))) (dp_lst da_nil) (nomark _)))))) (dss_one (ds_ret dp_bl)) dss_nil)
      (dss_cons (ds_expr (de_meth 6 md_append mt_append PySem.F.slot_list_append PySem.F.type_list_append (DA.gf (da_cons dp_non da_nil))))
      (dss_cons (ds_expr (de_meth0 7 md_clear mt_clear PySem.F.slot_list_clear PySem.F.type_list_clear))
      (dss_cons (ds_expr (de_meth 5 md_append mt_append PySem.F.slot_list_append PySem.F.type_list_append (DA.gf (da_cons dp_non da_nil))))
      (dss_one (ds_ret (dp_and (dp_cmp (op_eqD hr.units) od_eq (dp_nm 3) (dp_lst (da_cons (dp_nm 0) (da_cons (dp_nm 1) da_nil))) (nomark _)) (dp_one (dp_cmp (op_eqD hr.units) od_eq (dp_cl c_added (hr.mono (by decide)) (da_cons (dp_ix ix_seq od_ix (dp_nm 3) dp_int (fun _ _ => rfl)) (da_cons (dp_ix ix_seq od_ix (dp_nm 3) dp_int (fun _ _ => rfl)) da_nil))) (dp_nm 4) (nomark _))))))))))))))))))
theorem sc_law : FnScope ["_law_script", "_law_k", "_law_bag_here", "_law_n", "_law_same", "_law_one", "_law_other", "_law_third"] ["_law_script"] (defScope s_law) := ⟨rfl, rfl, rfl, by decide +kernel, rfl, by decide +kernel, by decide +kernel⟩
def t_law : FS :=
  seqS (forS (puA (rngA1 (consA (cst (.int 3)) (nilA)))) (gN 1) (seqS (ownF 2 (callF (nF 2 m_law_bag) (consA (nmF 0) (consA (nmF 1) (nilA)))))
  (seqS (setE 3 (op2E addF (pu (cst (.int 2))) (callE 2 1 m_law_take (puA (consA (cst (.int 4)) (nilA))))))
  (seqS (setE 4 (callE 2 1 m_law_take (puA (consA (cst (.int 4)) (nilA)))))
  (seqS (par3E 5 6 7 (consG (callE 2 1 m_law_crowd (puA (consA (nmF 3) (nilA)))) (consG (callE 2 1 m_law_crowd (puA (consA (nmF 3) (nilA)))) (consG (callE 2 1 m_law_crowd (puA (consA (nmF 3) (nilA)))) (puA (nilA))))))
  (seqS (ifS (toB (op2 eqF (nmF 4) (cst (.int 0)))) (setF 7 (callF listD (consA (nmF 6) (nilA)))) (skip))
  (ifS (not1 (tru1 (callF (nF 3 m_law_right) (consA (nmF 5) (consA (nmF 6) (consA (nmF 7) (nilA))))))) (retF (cst (.bl false))) (skip))))))))
  (retF (cst (.bl true)))
def m_law : List D → Option D := fnP .s 8 t_law
theorem kf_law {f : Addr} {fd : FuncData} (B : Bt mg) (F : Fun K "law" "law" s_law f fd) (c_law_bag : Cl P w K mg base 2 "_law_bag" ["_law_script", "_law_at"] (spP K .n 2 m_law_bag)) (c_law_take : Cl P w K mg base 1 "_law_take" ["_law_bag_here", "_law_many"] (spE K .s 1 m_law_take)) (c_law_crowd : Cl P w K mg base 3 "_law_crowd" ["_law_bag_here", "_law_n"] (spE K .n 1 m_law_crowd)) (c_law_right : Cl P w K mg base 2 "_law_right" ["_law_one", "_law_other", "_law_third"] (spP K .s 3 m_law_right)) : FnOk P w K mg base CX0 4 f fd ["_law_script"] (spP K .s 1 m_law) := by
  refine fn_pure (k := 3) F sc_law (by decide) fun cdv A outer s H hid E hr => ?_
  exact (dss_cons (ds_for PassesOwn.never rfl (DIp.e (dip_range1 B.b_range (da_cons dp_int da_nil))) (dgt_name 1 sc_law.nd) (dss_cons (ds_ownF 2 sc_law.nd (dp_cl c_law_bag (hr.mono (by decide)) (da_cons (dp_nm 0) (da_cons (dp_nm 1) da_nil))))
      (dss_cons (ds_setE 3 sc_law.nd (de_add (DP.ef dp_int) (de_cl 2 c_law_take (hr.mono (by decide)) (DA.gf (da_cons dp_int da_nil)))))
      (dss_cons (ds_setE 4 sc_law.nd (de_cl 2 c_law_take (hr.mono (by decide)) (DA.gf (da_cons dp_int da_nil))))
      (dss_cons (ds_par3E 5 6 7 rfl sc_law.nd (dg_cons (DE.toS (de_cl 2 c_law_crowd (hr.mono (by decide)) (DA.gf (da_cons (dp_nm 3) da_nil)))) (dg_cons (DE.toS (de_cl 2 c_law_crowd (hr.mono (by decide)) (DA.gf (da_cons (dp_nm 3) da_nil)))) (dg_cons (DE.toS (de_cl 2 c_law_crowd (hr.mono (by decide)) (DA.gf (da_cons (dp_nm 3) da_nil)))) (DA.gf da_nil)))))
      (dss_cons (ds_if (dt_cmp (op_eqD hr.units) od_eq (dp_nm 4) dp_int (nomark _)) (dss_one (ds_setF 7 sc_law.nd (DP.toS (dp_callTy call_list_of cd_list B.b_list (db_cons (dp_nm 6) db_nil) (hv := by kernel_rfl))))) dss_nil)
      (dss_one (ds_if (dt_not (dt_val (dp_cl c_law_right (hr.mono (by decide)) (da_cons (dp_nm 5) (da_cons (dp_nm 6) (da_cons (dp_nm 7) da_nil)))))) (dss_one (ds_ret dp_bl)) dss_nil))))))))
      (dss_one (ds_ret dp_bl)))
end
end L2
set_option Elab.async false
set_option linter.all false
set_option maxRecDepth 100000
set_option maxHeartbeats 1000000
namespace L2
open PySem PySem.Spec PyProof.Rows
theorem fnE_rt {kd : Kd} {n : Nat} {t : FS} {bs ds b' : List D} {d : D} {ρ : Rho} (h : t (rhoE n bs ds) = .rt d ρ) (h2 : arg0 ρ = some b') : fnE kd n t bs ds = some (d, b') := by unfold fnE; rw [h]; dsimp only; rw [h2]; rfl
theorem forL_cnt {g : FG} {b : FS} {P : Nat → Rho → Prop} : ∀ (l : List D) (j : Nat), (∀ d ∈ l, ∀ i ρ, i < j + l.length → P i ρ → ∃ ρ1 ρ2, g d ρ = some ρ1 ∧ b ρ1 = .nx ρ2 ∧ P (i + 1) ρ2) → ∀ ρ, P j ρ → ∃ ρ', forL g b l ρ = .nx ρ' ∧ P (j + l.length) ρ'
  | [], j, _, ρ, p => ⟨ρ, rfl, p⟩
  | d :: l, j, h, ρ, p => by
    obtain ⟨ρ1, ρ2, h1, h2, p2⟩ := h d (List.mem_cons_self ..) j ρ (by rw [List.length_cons]; omega) p
    obtain ⟨ρ', e, p'⟩ := forL_cnt l (j + 1) (fun d' hd i ρ hi => h d' (List.mem_cons_of_mem _ hd) i ρ (by rw [List.length_cons]; omega)) ρ2 p2
    exact ⟨ρ', (forL_cons h1 h2).trans e, by rw [List.length_cons, Nat.add_comm l.length 1, ← Nat.add_assoc]; exact p'⟩
end L2
set_option Elab.async false
set_option linter.all false
set_option maxRecDepth 100000
set_option maxHeartbeats 4000000
namespace L2
open PySem PySem.Spec PyProof.Rows
theorem ifS_sk {p : FT} {t : FS} {ρ : Rho} (h : p ρ = some false) : ifS p t skip ρ = .nx ρ := (ifS_f h).trans rfl
theorem or2_bb {p q : FT} {ρ : Rho} {a b : Bool} (h1 : p ρ = some a) (h2 : q ρ = some b) : or2 p q ρ = some (a || b) := by
  cases a with
  | true => exact or2_t h1
  | false => exact or2_at h1 h2
theorem seqA_l {f : FE} {ρ : Rho} {ds : List D} (h : f ρ = some (.lst ds)) : seqA f ρ = some ds := by unfold seqA; rw [h]; rfl
def zs (l : List Nat) : List Int := l.map Int.ofNat
theorem tup_zs (l : List Nat) : tupN l = tpI (zs l) := by unfold tupN tpI zs; rw [List.map_map]; rfl
theorem map_zs (L : List (List Nat)) : L.map tupN = (L.map zs).map tpI := by rw [List.map_map]; exact List.map_congr_left fun l _ => tup_zs l
theorem notInK (K : List (List Int)) (k : List Int) : inF true (tpI k) (.lst (K.map tpI)) = some (.bl (!decide (k ∈ K))) := by
  have q := inK K k
  have d := deps_K K
  unfold inF itemsD at q ⊢
  dsimp only at q ⊢
  rw [if_pos (by omega)] at q ⊢
  injection q with q
  injection q with q
  rw [← q]; rfl
abbrev srt (K : List (List Int)) : List (List Int) := isortG lexB K
abbrev kD (K : List (List Int)) : D := .lst (K.map tpI)
structure Cw (N : Nat) (K : List (List Int)) : Prop where
  nd : K.Nodup
  len : K.length ≤ N
  ne : ∀ k ∈ K, k ≠ []
theorem Cw.srt {N : Nat} {K : List (List Int)} (h : Cw N K) : Cw N (srt K) := ⟨(isortG_perm (lt := lexB) K).nodup_iff.mpr h.nd, by rw [(isortG_perm (lt := lexB) K).length_eq]; exact h.len, fun k hk => h.ne k ((isortG_perm (lt := lexB) K).mem_iff.mp hk)⟩
theorem Cw.sym {N M : Nat} {A B : List (List Int)} (h : Cw N A) (h' : Cw M B) : Cw (N + M) (symK A B) := by
  refine ⟨symK_nd h.nd h'.nd, ?_, fun k hk => ?_⟩
  · unfold symK
    rw [List.length_append]
    have a := List.length_filter_le (fun k => decide (k ∉ B)) A
    have b := List.length_filter_le (fun k => decide (k ∉ A)) B
    have := h.len; have := h'.len
    omega
  · rcases symK_mem.mp hk with q | q
    · exact h.ne k q.1
    · exact h'.ne k q.1
theorem keysT_of : ∀ K : List (List Int), keysT (K.map tpI) = some K
  | [] => rfl
  | k :: K => by
    rw [List.map_cons]
    show (intsD (k.map D.int)).bind (fun k => (keysT (K.map tpI)).map (k :: ·)) = _
    rw [intsD_of, Option.bind_some, keysT_of K]; rfl
theorem added_ev {N M : Nat} {A B : List (List Int)} (h : Cw N A) (h' : Cw M B) (hl : N + M < 64) : m_added [kD A, kD B] = some (kD (srt (symK A B))) := by
  apply fnP_ret (kd := .n) (n := 2) (t := t_added) (ρ := [.v (kD A), .v (kD B)])
  unfold t_added
  refine retF_at ?_
  show ((keysT (A.map tpI)).bind fun k1 => (keysT (B.map tpI)).bind fun k2 => if (k1.Nodup ∧ k2.Nodup) ∧ k1.length + k2.length < 64 ∧ (∀ k ∈ k1, k ≠ []) ∧ (∀ k ∈ k2, k ≠ []) then some (D.lst ((isortG lexB (symK k1 k2)).map tpI)) else none) = _
  rw [keysT_of, keysT_of, Option.bind_some, Option.bind_some, if_pos ⟨⟨h.nd, h'.nd⟩, by have := h.len; have := h'.len; omega, h.ne, h'.ne⟩]
theorem due_evK {N M : Nat} {A B : List (List Int)} (h : Cw N A) (h' : Cw M B) (hl : N + M < 64) : m_law_due [kD A, kD B] = some (kD (srt (symK A B))) := by
  apply fnP_ret (kd := .n) (n := 2) (t := t_law_due) (ρ := [.v (kD A), .v (kD B)])
  unfold t_law_due
  have cs := h.sym h'
  have hA := h.len; have hB := h'.len
  have c1 : compF 1 (seqA (nmF 0)) (gN 2) (toB (op2 (inF true) (nmF 2) (nmF 1))) (nmF 2) [.v (kD A), .v (kD B)] = some (kD (A.filter fun k => decide (k ∉ B))) :=
    (compF_at (ds := A.map tpI) (seqA_l rfl) (by rw [List.length_map]; omega) (compL_flt (h := tpI) (o := tpI) (q := fun k => decide (k ∉ B)) A fun k _ => ⟨[.v (kD A), .v (kD B), .v (tpI k)], rfl, toB_at ((op2_at (x := tpI k) (y := kD B) rfl rfl).trans ((notInK B k).trans (by simp))), fun _ => rfl⟩))
  have c2 : compF 1 (seqA (nmF 1)) (gN 2) (toB (op2 (inF true) (nmF 2) (nmF 0))) (nmF 2) [.v (kD A), .v (kD B)] = some (kD (B.filter fun k => decide (k ∉ A))) :=
    (compF_at (ds := B.map tpI) (seqA_l rfl) (by rw [List.length_map]; omega) (compL_flt (h := tpI) (o := tpI) (q := fun k => decide (k ∉ A)) B fun k _ => ⟨[.v (kD A), .v (kD B), .v (tpI k)], rfl, toB_at ((op2_at (x := tpI k) (y := kD A) rfl rfl).trans ((notInK A k).trans (by simp))), fun _ => rfl⟩))
  have cat : op2 catLF (compF 1 (seqA (nmF 0)) (gN 2) (toB (op2 (inF true) (nmF 2) (nmF 1))) (nmF 2)) (compF 1 (seqA (nmF 1)) (gN 2) (toB (op2 (inF true) (nmF 2) (nmF 0))) (nmF 2)) [.v (kD A), .v (kD B)] = some (kD (symK A B)) := by
    refine (op2_at c1 c2).trans ?_
    have la := List.length_filter_le (fun k => decide (k ∉ B)) A
    have lb := List.length_filter_le (fun k => decide (k ∉ A)) B
    show (if _ ≤ sizeLine then _ else _) = _
    rw [if_pos (Nat.le_of_lt (small1000 (by rw [List.length_map, List.length_map]; omega))), ← List.map_append]
    rfl
  exact retF_at ((callF_at (ds := [kD (symK A B)]) (consA_at cat rfl)).trans (sortK (Nat.lt_of_le_of_lt cs.len hl) cs.ne))
theorem srt_ext {A B : List (List Int)} (ha : A.Nodup) (hb : B.Nodup) (e : ∀ k, k ∈ A ↔ k ∈ B) : srt A = srt B := sort_perm ((List.perm_ext_iff_of_nodup ha hb).mpr e)
theorem srt_srt (K : List (List Int)) : srt (srt K) = srt K := sort_perm (isortG_perm (lt := lexB) K)
theorem mem_srt {K : List (List Int)} {k : List Int} : k ∈ srt K ↔ k ∈ K := (isortG_perm (lt := lexB) K).mem_iff
theorem right_evK {A B C : List (List Int)} (hA : Cw 12 A) (hB : Cw 12 B) (hC : Cw 12 C) (sA : srt A = A) : m_law_right [kD A, kD B, kD C] = some (.bl true) := by
  apply fnP_ex (kd := .s) (n := 8) (t := t_law_right)
  unfold t_law_right
  let F := srt (symK A B)
  have hF : Cw 24 F := (hA.sym hB).srt
  have h0 : Cw 0 [] := ⟨List.nodup_nil, Nat.le_refl _, fun k h => nomatch h⟩
  have dK : ∀ K : List (List Int), dep (kD K) ≤ 32 := dep_K
  have d2 : dep (.lst [kD A, kD B]) ≤ 32 := by
    unfold dep deps deps deps
    have h1 : dep (kD A) ≤ 2 := by show dep (.lst (A.map tpI)) ≤ 2; unfold dep; have := deps_K A; omega
    have h2 : dep (kD B) ≤ 2 := by show dep (.lst (B.map tpI)) ≤ 2; unfold dep; have := deps_K B; omega
    omega
  have eF : m_added [kD A, kD B] = some (kD F) := added_ev hA hB (by omega)
  have eD : m_law_due [kD A, kD B] = some (kD F) := due_evK hA hB (by omega)
  have eF2 : m_added [kD B, kD A] = some (kD F) := by
    rw [added_ev hB hA (by omega)]
    have : srt (symK B A) = F := srt_ext (symK_nd hB.nd hA.nd) (symK_nd hA.nd hB.nd) fun k => by rw [symK_mem, symK_mem]; constructor <;> (rintro (h | h); exact .inr h; exact .inl h)
    rw [this]
  have eL : m_added [kD F, kD C] = some (kD (srt (symK F C))) := added_ev hF hC (by omega)
  have eBC : m_added [kD B, kD C] = some (kD (srt (symK B C))) := added_ev hB hC (by omega)
  have hG : Cw 24 (srt (symK B C)) := (hB.sym hC).srt
  have eR : m_added [kD A, kD (srt (symK B C))] = some (kD (srt (symK F C))) := by
    rw [added_ev hA hG (by omega)]
    have : srt (symK A (srt (symK B C))) = srt (symK F C) := srt_ext (symK_nd hA.nd hG.nd) (symK_nd hF.nd hC.nd) fun k => by
      rw [symK_mem, symK_mem, mem_srt, mem_srt, symK_mem, symK_mem]
      by_cases a : k ∈ A <;> by_cases b : k ∈ B <;> by_cases c : k ∈ C <;> simp [a, b, c]
    rw [this]
  have s1 : symK A [] = A := by unfold symK; simp
  have s2 : symK [] A = A := by unfold symK; simp
  have s3 : symK A A = [] := by
    cases e : symK A A with
    | nil => rfl
    | cons k r =>
      have := symK_mem.mp (show k ∈ symK A A by rw [e]; exact List.mem_cons_self)
      rcases this with h | h <;> exact absurd h.1 h.2
  have e1 : m_added [kD A, kD []] = some (kD A) := by rw [added_ev hA h0 (by omega), s1, sA]
  have e2 : m_added [kD [], kD A] = some (kD A) := by rw [added_ev h0 hA (by omega), s2, sA]
  have e3 : m_added [kD A, kD A] = some (kD []) := by rw [added_ev hA hA (by omega), s3]; rfl
  have q1 : setF 3 (lstF (consA (callF listD (consA (nmF 0) (nilA))) (consA (callF listD (consA (nmF 1) (nilA))) (nilA)))) (rho0 8 [kD A, kD B, kD C]) = .nx [.v (kD A), .v (kD B), .v (kD C), .v (.lst [kD A, kD B]), .no, .no, .no, .no] := (setF_at (lstF_at (ds := [kD A, kD B]) rfl (by simp))).trans rfl
  have q2 : setF 4 (callF (nF 2 m_law_due) (consA (nmF 0) (consA (nmF 1) (nilA)))) [.v (kD A), .v (kD B), .v (kD C), .v (.lst [kD A, kD B]), .no, .no, .no, .no] = .nx [.v (kD A), .v (kD B), .v (kD C), .v (.lst [kD A, kD B]), .v (kD F), .no, .no, .no] := (setF_at ((cl_at (ds := [kD A, kD B]) rfl rfl).trans eD)).trans rfl
  have q3 : ownF 5 (callF (nF 2 m_added) (consA (op2 ixD (nmF 3) (cst (.int 0))) (consA (op2 ixD (nmF 3) (cst (.int 1))) (nilA)))) [.v (kD A), .v (kD B), .v (kD C), .v (.lst [kD A, kD B]), .v (kD F), .no, .no, .no] = .nx [.v (kD A), .v (kD B), .v (kD C), .v (.lst [kD A, kD B]), .v (kD F), .own (F.map tpI), .no, .no] := (ownF_at ((cl_at (ds := [kD A, kD B]) rfl rfl).trans eF)).trans rfl
  rw [seq_at q1, seq_at q2, seq_at q3]
  have lF := hF.len
  have c1 : or2 (not1 (tru1 (isiF "list" (nbF 5)))) (or2 (not1 (tru1 (callF allD (consA (compF 1 (lstA (nbF 5)) (gN 8) (yesT) (isiF "tuple" (nmF 8))) (nilA))))) (toB (op2 neF (nbF 5) (nmF 4)))) [.v (kD A), .v (kD B), .v (kD C), .v (.lst [kD A, kD B]), .v (kD F), .own (F.map tpI), .no, .no] = some false := by
    refine or2_bb (a := false) (b := false) (not_at (b := true) (tru_bl rfl)) (or2_bb (a := false) (b := false) (not_at (b := true) (tru_bl ?_)) (toB_at ((op2_at (x := kD F) (y := kD F) rfl rfl).trans (ne_same (dK F)))))
    refine (callF_at (ds := [.lst ((F.map fun _ => true).map D.bl)]) (consA_at (compF_at (ds := F.map tpI) rfl (by rw [List.length_map]; omega) ?_) rfl)).trans ((allD_of _).trans (by simp))
    exact (compL_map (h := tpI) (o := fun _ => .bl true) F fun k hk => ⟨_, rfl, rfl⟩).trans (by rw [List.map_map]; rfl)
  rw [seq_at (ifS_sk c1)]
  have lst2 : ∀ s2 s3 s4 s5 s6 s7 : Sl, lstF (consA (nmF 0) (consA (nmF 1) (nilA))) [.v (kD A), .v (kD B), s2, s3, s4, s5, s6, s7] = some (.lst [kD A, kD B]) := fun _ _ _ _ _ _ => lstF_at rfl (by simp)
  have c2 : or2 (toB (op2 neF (callF (nF 2 m_added) (consA (op2 ixD (nmF 3) (cst (.int 1))) (consA (op2 ixD (nmF 3) (cst (.int 0))) (nilA)))) (nmF 4))) (toB (op2 neF (nmF 3) (lstF (consA (nmF 0) (consA (nmF 1) (nilA)))))) [.v (kD A), .v (kD B), .v (kD C), .v (.lst [kD A, kD B]), .v (kD F), .own (F.map tpI), .no, .no] = some false :=
    or2_bb (a := false) (b := false) (toB_at ((op2_at (y := kD F) ((cl_at (ds := [kD B, kD A]) rfl rfl).trans eF2) rfl).trans (ne_same (dK F)))) (toB_at ((op2_at (x := .lst [kD A, kD B]) rfl (lst2 _ _ _ _ _ _)).trans (ne_same d2)))
  rw [seq_at (ifS_sk c2)]
  have c3 : toB (op2 neF (callF (nF 2 m_added) (consA (callF listD (consA (nbF 5) (nilA))) (consA (callF listD (consA (nmF 2) (nilA))) (nilA)))) (callF (nF 2 m_added) (consA (op2 ixD (nmF 3) (cst (.int 0))) (consA (callF (nF 2 m_added) (consA (op2 ixD (nmF 3) (cst (.int 1))) (consA (callF listD (consA (nmF 2) (nilA))) (nilA)))) (nilA))))) [.v (kD A), .v (kD B), .v (kD C), .v (.lst [kD A, kD B]), .v (kD F), .own (F.map tpI), .no, .no] = some false :=
    toB_at ((op2_at ((cl_at (ds := [kD F, kD C]) rfl rfl).trans eL) ((cl_at (ds := [kD A, kD (srt (symK B C))]) (consA_at rfl (consA_at ((cl_at (ds := [kD B, kD C]) rfl rfl).trans eBC) rfl)) rfl).trans eR)).trans (ne_same (dK _)))
  rw [seq_at (ifS_sk c3)]
  have q6 : ownF 6 (callF (nF 2 m_added) (consA (op2 ixD (nmF 3) (cst (.int 0))) (consA (lstF (nilA)) (nilA)))) [.v (kD A), .v (kD B), .v (kD C), .v (.lst [kD A, kD B]), .v (kD F), .own (F.map tpI), .no, .no] = .nx [.v (kD A), .v (kD B), .v (kD C), .v (.lst [kD A, kD B]), .v (kD F), .own (F.map tpI), .own (A.map tpI), .no] := (ownF_at ((cl_at (ds := [kD A, kD []]) (consA_at rfl (consA_at (lstF_at rfl (by simp)) rfl)) rfl).trans e1)).trans rfl
  have q7 : ownF 7 (callF (nF 2 m_added) (consA (lstF (nilA)) (consA (op2 ixD (nmF 3) (cst (.int 0))) (nilA)))) [.v (kD A), .v (kD B), .v (kD C), .v (.lst [kD A, kD B]), .v (kD F), .own (F.map tpI), .own (A.map tpI), .no] = .nx [.v (kD A), .v (kD B), .v (kD C), .v (.lst [kD A, kD B]), .v (kD F), .own (F.map tpI), .own (A.map tpI), .own (A.map tpI)] := (ownF_at ((cl_at (ds := [kD [], kD A]) (consA_at (lstF_at rfl (by simp)) (consA_at rfl rfl)) rfl).trans e2)).trans rfl
  rw [seq_at q6, seq_at q7]
  have c4 : or2 (toB (op2 neF (nbF 6) (nmF 0))) (or2 (toB (op2 neF (nbF 7) (nmF 0))) (toB (op2 neF (callF (nF 2 m_added) (consA (op2 ixD (nmF 3) (cst (.int 0))) (consA (callF listD (consA (nmF 0) (nilA))) (nilA)))) (lstF (nilA))))) [.v (kD A), .v (kD B), .v (kD C), .v (.lst [kD A, kD B]), .v (kD F), .own (F.map tpI), .own (A.map tpI), .own (A.map tpI)] = some false :=
    or2_bb (a := false) (b := false) (toB_at ((op2_at (x := kD A) (y := kD A) rfl rfl).trans (ne_same (dK A)))) (or2_bb (a := false) (b := false) (toB_at ((op2_at (x := kD A) (y := kD A) rfl rfl).trans (ne_same (dK A)))) (toB_at ((op2_at (y := kD []) ((cl_at (ds := [kD A, kD A]) rfl rfl).trans e3) (lstF_at rfl (by simp))).trans (ne_same (dK [])))))
  rw [seq_at (ifS_sk c4)]
  have lA := hA.len
  have q8 : dropE (callE 6 1 appM (puA (consA (cst .non) (nilA)))) [.v (kD A), .v (kD B), .v (kD C), .v (.lst [kD A, kD B]), .v (kD F), .own (F.map tpI), .own (A.map tpI), .own (A.map tpI)] = .nx [.v (kD A), .v (kD B), .v (kD C), .v (.lst [kD A, kD B]), .v (kD F), .own (F.map tpI), .own (A.map tpI ++ [.non]), .own (A.map tpI)] := (app_at (b0 := A.map tpI) (bs := A.map tpI) (d := .non) rfl (puA_at rfl) rfl (by rw [List.length_map]; omega)).trans rfl
  have q9 : dropE (callE 7 0 clrM (puA nilA)) [.v (kD A), .v (kD B), .v (kD C), .v (.lst [kD A, kD B]), .v (kD F), .own (F.map tpI), .own (A.map tpI ++ [.non]), .own (A.map tpI)] = .nx [.v (kD A), .v (kD B), .v (kD C), .v (.lst [kD A, kD B]), .v (kD F), .own (F.map tpI), .own (A.map tpI ++ [.non]), .own []] := rfl
  have q10 : dropE (callE 5 1 appM (puA (consA (cst .non) (nilA)))) [.v (kD A), .v (kD B), .v (kD C), .v (.lst [kD A, kD B]), .v (kD F), .own (F.map tpI), .own (A.map tpI ++ [.non]), .own []] = .nx [.v (kD A), .v (kD B), .v (kD C), .v (.lst [kD A, kD B]), .v (kD F), .own (F.map tpI ++ [.non]), .own (A.map tpI ++ [.non]), .own []] := (app_at (b0 := F.map tpI) (bs := F.map tpI) (d := .non) rfl (puA_at rfl) rfl (by rw [List.length_map]; omega)).trans rfl
  rw [seq_at q8, seq_at q9, seq_at q10]
  exact ⟨_, retF_at (asD_at (and2_at (toB_at ((op2_at (x := .lst [kD A, kD B]) rfl (lst2 _ _ _ _ _ _)).trans (eq_same d2))) (toB_at ((op2_at (y := kD F) ((cl_at (ds := [kD A, kD B]) rfl rfl).trans eF) rfl).trans (eq_same (dK F))))))⟩
theorem lcrowd_ev {N : Nat} {a b : Int} (B : Bag N a b) (hN : N ≤ 100000) {n : Nat} (h0 : 0 < n) (hn : n ≤ 5) : ∃ (K : List (List Int)) (N' : Nat) (a' b' : Int), m_law_crowd (bagD a b) [nI n] = some (kD K, bagD a' b') ∧ Bag N' a' b' ∧ N' ≤ N + 100 ∧ Cw 12 K ∧ srt K = K := by
  obtain ⟨d, a1, b1, e1, B1, d0, d1⟩ := take_ev (m := 13) B (by omega) (by decide) (by decide)
  obtain ⟨m, rfl⟩ : ∃ m : Nat, d = m := ⟨d.toNat, by omega⟩
  have q1 : ownF 2 (lstF (nilA)) (rhoE 5 (bagD a b) [nI n]) = .nx [.arg (bagD a b), .v (nI n), .own [], .no, .no] := (ownF_at (lstF_at rfl (by simp))).trans rfl
  have q2 : rng1 (consG (callE 0 1 m_law_take (puA (consA (cst (.int 13)) (nilA)))) (puA (nilA))) [.arg (bagD a b), .v (nI n), .own [], .no, .no] = some (ups 0 m, [.arg (bagD a1 b1), .v (nI n), .own (([] : List (List Nat)).map tupN), .no, .no]) := by
    have : consG (callE 0 1 m_law_take (puA (consA (cst (.int 13)) (nilA)))) (puA (nilA)) [.arg (bagD a b), .v (nI n), .own [], .no, .no] = some ([.int m], [.arg (bagD a1 b1), .v (nI n), .own (([] : List (List Nat)).map tupN), .no, .no]) :=
      consG_at (callE_at (i := 0) (n := 1) (b0 := bagD a b) (ds := [.int 13]) rfl (puA_at rfl) rfl rfl e1) rfl
    unfold rng1
    rw [this]
    show (if (m : Int).natAbs < 4000000000 then _ else _) = _
    rw [if_pos (by omega), Int.toNat_natCast]
  have ul : (ups 0 m).length = m := by unfold ups; simp
  obtain ⟨ρ', lp, L, a', b', s3, s4, hL, hD, hO, B', rfl⟩ := forL_cnt (g := gN 3) (b := seqS (setE 4 (callG tupleD (consG (callE 0 1 m_law_order (puA (consA (nmF 1) (nilA)))) (puA (nilA)))))
    (ifS (toB (op2 (inF true) (nmF 4) (nbF 2))) (dropE (callE 2 1 appM (puA (consA (nmF 4) (nilA))))) (skip)))
    (P := fun i ρ => ∃ (L : List (List Nat)) (a' b' : Int) (s3 s4 : Sl), L.length ≤ i ∧ (L.map zs).Nodup ∧ (∀ o ∈ L, Ord n o) ∧ Bag (N + 1 + n * i) a' b' ∧ ρ = [.arg (bagD a' b'), .v (nI n), .own (L.map tupN), s3, s4]) (ups 0 m) 0 (fun d hd i ρ hi hρ => by
      obtain ⟨L, a', b', s3, s4, hL, hD, hO, B', rfl⟩ := hρ
      have hi : i < m := by rw [ul] at hi; omega
      have hm : n * i ≤ 5 * 12 := Nat.mul_le_mul hn (by omega)
      obtain ⟨o, a2, b2, e2, Oo, B2⟩ := order_ev B' (n := n) (by omega) (by omega)
      have t1 : setE 4 (callG tupleD (consG (callE 0 1 m_law_order (puA (consA (nmF 1) (nilA)))) (puA (nilA)))) [.arg (bagD a' b'), .v (nI n), .own (L.map tupN), .v d, s4] = .nx [.arg (bagD a2 b2), .v (nI n), .own (L.map tupN), .v d, .v (tupN o)] :=
        (setE_at (callG_at (ds := [.lst (o.map nI)]) (d := tupN o) (consG_at (callE_at (i := 0) (n := 1) (b0 := bagD a' b') (ds := [nI n]) rfl (puA_at rfl) rfl rfl e2) rfl) rfl)).trans rfl
      have t2 : toB (op2 (inF true) (nmF 4) (nbF 2)) [.arg (bagD a2 b2), .v (nI n), .own (L.map tupN), .v d, .v (tupN o)] = some (!decide (zs o ∈ L.map zs)) := toB_at ((op2_at (x := tupN o) (y := .lst (L.map tupN)) rfl rfl).trans (by rw [tup_zs, map_zs]; exact notInK _ _))
      have B3 : Bag (N + 1 + n * (i + 1)) a2 b2 := by rw [Nat.mul_succ, ← Nat.add_assoc]; exact B2
      by_cases c : zs o ∈ L.map zs
      · rw [decide_eq_true c] at t2
        exact ⟨_, _, rfl, (seq_at t1).trans (ifS_sk t2), L, a2, b2, _, _, by omega, hD, hO, B3, rfl⟩
      · rw [decide_eq_false c] at t2
        refine ⟨_, _, rfl, (seq_at t1).trans ((ifS_t t2).trans (app_at (i := 2) (b0 := L.map tupN) (bs := L.map tupN) (d := tupN o) rfl (puA_at rfl) rfl (by rw [List.length_map]; omega))), L ++ [o], a2, b2, _, _, by simp; omega, ?_, fun u hu => ?_, B3, by rw [List.map_append]; rfl⟩
        · rw [List.map_append]; exact List.nodup_append.mpr ⟨hD, by simp, fun u hu v hv => by rw [List.map_cons, List.map_nil, List.mem_singleton] at hv; rw [hv]; exact fun e => c (e ▸ hu)⟩
        · rcases List.mem_append.mp hu with q | q
          · exact hO u q
          · rw [List.mem_singleton] at q; rw [q]; exact Oo) [.arg (bagD a1 b1), .v (nI n), .own (([] : List (List Nat)).map tupN), .no, .no] ⟨[], a1, b1, .no, .no, by simp, by simp, by simp, by simpa using B1, rfl⟩
  rw [ul] at hL B'
  have hm : n * m ≤ 5 * 12 := Nat.mul_le_mul hn (by omega)
  have C : Cw 12 (L.map zs) := ⟨hD, by rw [List.length_map]; omega, fun k hk => by
    obtain ⟨o, ho, rfl⟩ := List.mem_map.mp hk
    intro e
    have l1 := (hO o ho).len
    have := congrArg List.length e
    unfold zs at this
    simp at this
    rw [this] at l1
    simp at l1
    omega⟩
  have hs := sortK (ks := L.map zs) (by have := C.len; omega) C.ne
  refine ⟨srt (L.map zs), N + 1 + n * (0 + m), a', b', ?_, B', by rw [Nat.zero_add]; omega, C.srt, srt_srt _⟩
  refine fnE_rt (kd := .n) (n := 5) (t := t_law_crowd) (ρ := [.arg (bagD a' b'), .v (nI n), .own (L.map tupN), s3, s4]) ?_ rfl
  unfold t_law_crowd
  refine (seq_at q1).trans ((seq_at ((forS_at q2).trans lp)).trans (retF_at ((callF_at (ds := [.lst (L.map tupN)]) rfl).trans ?_)))
  rw [map_zs]; exact hs
theorem law_ev (ns : List Int) (hn : ns.length ≤ 63) : m_law [scD ns] = some (.bl true) := by
  refine fnP_ex (kd := .s) (n := 8) (t := t_law) ?_
  unfold t_law
  refine seq_ex (fun ρ => ∃ s1 s2 s3 s4 s5 s6 s7, ρ = [.v (scD ns), s1, s2, s3, s4, s5, s6, s7]) (forS_ex (ds := (List.range 3).map nI) (puA_at (rngA1_at (consA_at rfl rfl) (by omega))) (forL_ex _ (fun d hd ρ hρ => ?_) _ ⟨_, _, _, _, _, _, _, rfl⟩)) fun ρ' hρ' => ⟨ρ', retF_at rfl⟩
  obtain ⟨k, hk, rfl⟩ := List.mem_map.mp hd
  rw [List.mem_range] at hk
  obtain ⟨s1, s2, s3, s4, s5, s6, s7, rfl⟩ := hρ
  obtain ⟨a0, b0, eb, B⟩ := bag_ev ns k (by omega) hn
  obtain ⟨d1, a1, b1, e1, B1, d10, d11⟩ := take_ev (m := 4) B (by omega) (by decide) (by decide)
  obtain ⟨m, rfl⟩ : ∃ m : Nat, d1 = m := ⟨d1.toNat, by omega⟩
  obtain ⟨d2, a2, b2, e2, B2, d20, d21⟩ := take_ev (m := 4) B1 (by omega) (by decide) (by decide)
  obtain ⟨K1, N1, a3, b3, c1, B3, hN1, C1, S1⟩ := lcrowd_ev B2 (by omega) (n := 2 + m) (by omega) (by omega)
  obtain ⟨K2, N2, a4, b4, c2, B4, hN2, C2, S2⟩ := lcrowd_ev B3 (by omega) (n := 2 + m) (by omega) (by omega)
  obtain ⟨K3, N3, a5, b5, c3, B5, hN3, C3, S3⟩ := lcrowd_ev B4 (by omega) (n := 2 + m) (by omega) (by omega)
  have q1 : ownF 2 (callF (nF 2 m_law_bag) (consA (nmF 0) (consA (nmF 1) (nilA)))) [.v (scD ns), .v (nI k), s2, s3, s4, s5, s6, s7] = .nx [.v (scD ns), .v (nI k), .own (bagD a0 b0), s3, s4, s5, s6, s7] := (ownF_at ((cl_at (ds := [scD ns, nI k]) rfl rfl).trans eb)).trans rfl
  have ad : addF (.int 2) (.int m) = some (nI (2 + m)) := by
    rw [addF_int]
    simp
  have q2 : setE 3 (op2E addF (pu (cst (.int 2))) (callE 2 1 m_law_take (puA (consA (cst (.int 4)) (nilA))))) [.v (scD ns), .v (nI k), .own (bagD a0 b0), s3, s4, s5, s6, s7] = .nx [.v (scD ns), .v (nI k), .own (bagD a1 b1), .v (nI (2 + m)), s4, s5, s6, s7] :=
    (setE_at (op2E_at (pu_at rfl) (callE_at (i := 2) (n := 1) (b0 := bagD a0 b0) (ds := [.int 4]) rfl (puA_at rfl) rfl rfl e1) ad)).trans rfl
  have q3 : setE 4 (callE 2 1 m_law_take (puA (consA (cst (.int 4)) (nilA)))) [.v (scD ns), .v (nI k), .own (bagD a1 b1), .v (nI (2 + m)), s4, s5, s6, s7] = .nx [.v (scD ns), .v (nI k), .own (bagD a2 b2), .v (nI (2 + m)), .v (.int d2), s5, s6, s7] :=
    (setE_at (callE_at (i := 2) (n := 1) (b0 := bagD a1 b1) (ds := [.int 4]) rfl (puA_at rfl) rfl rfl e2)).trans rfl
  have q4 : par3E 5 6 7 (consG (callE 2 1 m_law_crowd (puA (consA (nmF 3) (nilA)))) (consG (callE 2 1 m_law_crowd (puA (consA (nmF 3) (nilA)))) (consG (callE 2 1 m_law_crowd (puA (consA (nmF 3) (nilA)))) (puA (nilA))))) [.v (scD ns), .v (nI k), .own (bagD a2 b2), .v (nI (2 + m)), .v (.int d2), s5, s6, s7] = .nx [.v (scD ns), .v (nI k), .own (bagD a5 b5), .v (nI (2 + m)), .v (.int d2), .v (kD K1), .v (kD K2), .v (kD K3)] :=
    (par3E_at (d1 := kD K1) (d2 := kD K2) (d3 := kD K3) (consG_at (callE_at (i := 2) (n := 1) (b0 := bagD a2 b2) (ds := [nI (2 + m)]) rfl (puA_at rfl) rfl rfl c1) (consG_at (callE_at (i := 2) (n := 1) (b0 := bagD a3 b3) (ds := [nI (2 + m)]) rfl (puA_at rfl) rfl rfl c2) (consG_at (callE_at (i := 2) (n := 1) (b0 := bagD a4 b4) (ds := [nI (2 + m)]) rfl (puA_at rfl) rfl rfl c3) rfl)))).trans rfl
  have fin : ∀ K : List (List Int), Cw 12 K → ifS (not1 (tru1 (callF (nF 3 m_law_right) (consA (nmF 5) (consA (nmF 6) (consA (nmF 7) (nilA))))))) (retF (cst (.bl false))) (skip) [.v (scD ns), .v (nI k), .own (bagD a5 b5), .v (nI (2 + m)), .v (.int d2), .v (kD K1), .v (kD K2), .v (kD K)] = .nx [.v (scD ns), .v (nI k), .own (bagD a5 b5), .v (nI (2 + m)), .v (.int d2), .v (kD K1), .v (kD K2), .v (kD K)] := fun K C =>
    ifS_sk (not_at (b := true) (tru_bl ((cl_at (ds := [kD K1, kD K2, kD K]) rfl rfl).trans (right_evK C1 C2 C S1))))
  have eq : toB (op2 eqF (nmF 4) (cst (.int 0))) [.v (scD ns), .v (nI k), .own (bagD a5 b5), .v (nI (2 + m)), .v (.int d2), .v (kD K1), .v (kD K2), .v (kD K3)] = some (decide (d2 = 0)) := toB_at ((op2_at (x := .int d2) (y := .int 0) rfl rfl).trans ((eqF_ev (by rw [dep_int]; omega)).trans (by rw [eqD_int])))
  by_cases h : d2 = 0
  · rw [decide_eq_true h] at eq
    have q5 : setF 7 (callF listD (consA (nmF 6) (nilA))) [.v (scD ns), .v (nI k), .own (bagD a5 b5), .v (nI (2 + m)), .v (.int d2), .v (kD K1), .v (kD K2), .v (kD K3)] = .nx [.v (scD ns), .v (nI k), .own (bagD a5 b5), .v (nI (2 + m)), .v (.int d2), .v (kD K1), .v (kD K2), .v (kD K2)] := (setF_at rfl).trans rfl
    exact ⟨_, _, rfl, (seq_at q1).trans ((seq_at q2).trans ((seq_at q3).trans ((seq_at q4).trans ((seq_at ((ifS_t eq).trans q5)).trans (fin K2 C2))))), ⟨_, _, _, _, _, _, _, rfl⟩⟩
  · rw [decide_eq_false h] at eq
    exact ⟨_, _, rfl, (seq_at q1).trans ((seq_at q2).trans ((seq_at q3).trans ((seq_at q4).trans ((seq_at (ifS_sk eq)).trans (fin K3 C3))))), ⟨_, _, _, _, _, _, _, rfl⟩⟩
end L2
set_option Elab.async false
set_option linter.all false
set_option maxRecDepth 100000
set_option maxHeartbeats 4000000
namespace L2
open PySem PySem.Spec PyProof.Rows
theorem all_mk {l : PySem.W.OpenLaw} {w : World} {K : PySem.W.Frag} {h : Heap} {mg : Str → Option Value} {fa : Addr} {f0 : Addr} {od0 an0 : Option Addr} {sl0 : Array (Option Value)} {oc0 kV0 dc0 pm0 cd0 ct0 : Value} {f1 : Addr} {od1 an1 : Option Addr} {sl1 : Array (Option Value)} {oc1 kV1 dc1 pm1 cd1 ct1 : Value} {f2 : Addr} {od2 an2 : Option Addr} {sl2 : Array (Option Value)} {oc2 kV2 dc2 pm2 cd2 ct2 : Value} {f3 : Addr} {od3 an3 : Option Addr} {sl3 : Array (Option Value)} {oc3 kV3 dc3 pm3 cd3 ct3 : Value} {f4 : Addr} {od4 an4 : Option Addr} {sl4 : Array (Option Value)} {oc4 kV4 dc4 pm4 cd4 ct4 : Value} {f5 : Addr} {od5 an5 : Option Addr} {sl5 : Array (Option Value)} {oc5 kV5 dc5 pm5 cd5 ct5 : Value} {f6 : Addr} {od6 an6 : Option Addr} {sl6 : Array (Option Value)} {oc6 kV6 dc6 pm6 cd6 ct6 : Value} {f7 : Addr} {od7 an7 : Option Addr} {sl7 : Array (Option Value)} {oc7 kV7 dc7 pm7 cd7 ct7 : Value} {f8 : Addr} {od8 an8 : Option Addr} {sl8 : Array (Option Value)} {oc8 kV8 dc8 pm8 cd8 ct8 : Value} (X : K.In h) (G : h.Ns mainGlobals mg) (hfa : mg "law" = some (.ref fa))
    (a0 : PySem.W.nsIn K mainGlobals "added" = some (some (.ref f0))) (l0 : K.lookup f0 = some ⟨oc0, od0, .func (PySem.W.fnOf "added" "added" (defArgs s_added) (defBody s_added) (defScope s_added) .none kV0 dc0 pm0 an0 cd0 ct0), sl0⟩) (c0 : PySem.W.codeIn K cd0 "added" = true) (k0 : PySem.W.keepIn K (.ref f0) = true)
    (a1 : PySem.W.nsIn K mainGlobals "_law_cell" = some (some (.ref f1))) (l1 : K.lookup f1 = some ⟨oc1, od1, .func (PySem.W.fnOf "_law_cell" "_law_cell" (defArgs s_law_cell) (defBody s_law_cell) (defScope s_law_cell) .none kV1 dc1 pm1 an1 cd1 ct1), sl1⟩) (c1 : PySem.W.codeIn K cd1 "_law_cell" = true) (k1 : PySem.W.keepIn K (.ref f1) = true)
    (a2 : PySem.W.nsIn K mainGlobals "_law_bag" = some (some (.ref f2))) (l2 : K.lookup f2 = some ⟨oc2, od2, .func (PySem.W.fnOf "_law_bag" "_law_bag" (defArgs s_law_bag) (defBody s_law_bag) (defScope s_law_bag) .none kV2 dc2 pm2 an2 cd2 ct2), sl2⟩) (c2 : PySem.W.codeIn K cd2 "_law_bag" = true) (k2 : PySem.W.keepIn K (.ref f2) = true)
    (a3 : PySem.W.nsIn K mainGlobals "_law_take" = some (some (.ref f3))) (l3 : K.lookup f3 = some ⟨oc3, od3, .func (PySem.W.fnOf "_law_take" "_law_take" (defArgs s_law_take) (defBody s_law_take) (defScope s_law_take) .none kV3 dc3 pm3 an3 cd3 ct3), sl3⟩) (c3 : PySem.W.codeIn K cd3 "_law_take" = true) (k3 : PySem.W.keepIn K (.ref f3) = true)
    (a4 : PySem.W.nsIn K mainGlobals "_law_order" = some (some (.ref f4))) (l4 : K.lookup f4 = some ⟨oc4, od4, .func (PySem.W.fnOf "_law_order" "_law_order" (defArgs s_law_order) (defBody s_law_order) (defScope s_law_order) .none kV4 dc4 pm4 an4 cd4 ct4), sl4⟩) (c4 : PySem.W.codeIn K cd4 "_law_order" = true) (k4 : PySem.W.keepIn K (.ref f4) = true)
    (a5 : PySem.W.nsIn K mainGlobals "_law_crowd" = some (some (.ref f5))) (l5 : K.lookup f5 = some ⟨oc5, od5, .func (PySem.W.fnOf "_law_crowd" "_law_crowd" (defArgs s_law_crowd) (defBody s_law_crowd) (defScope s_law_crowd) .none kV5 dc5 pm5 an5 cd5 ct5), sl5⟩) (c5 : PySem.W.codeIn K cd5 "_law_crowd" = true) (k5 : PySem.W.keepIn K (.ref f5) = true)
    (a6 : PySem.W.nsIn K mainGlobals "_law_due" = some (some (.ref f6))) (l6 : K.lookup f6 = some ⟨oc6, od6, .func (PySem.W.fnOf "_law_due" "_law_due" (defArgs s_law_due) (defBody s_law_due) (defScope s_law_due) .none kV6 dc6 pm6 an6 cd6 ct6), sl6⟩) (c6 : PySem.W.codeIn K cd6 "_law_due" = true) (k6 : PySem.W.keepIn K (.ref f6) = true)
    (a7 : PySem.W.nsIn K mainGlobals "_law_right" = some (some (.ref f7))) (l7 : K.lookup f7 = some ⟨oc7, od7, .func (PySem.W.fnOf "_law_right" "_law_right" (defArgs s_law_right) (defBody s_law_right) (defScope s_law_right) .none kV7 dc7 pm7 an7 cd7 ct7), sl7⟩) (c7 : PySem.W.codeIn K cd7 "_law_right" = true) (k7 : PySem.W.keepIn K (.ref f7) = true)
    (a8 : PySem.W.nsIn K mainGlobals "law" = some (some (.ref f8))) (l8 : K.lookup f8 = some ⟨oc8, od8, .func (PySem.W.fnOf "law" "law" (defArgs s_law) (defBody s_law) (defScope s_law) .none kV8 dc8 pm8 an8 cd8 ct8), sl8⟩) (c8 : PySem.W.codeIn K cd8 "law" = true) (k8 : PySem.W.keepIn K (.ref f8) = true)
    (z_abs : PySem.W.nsIn K mainGlobals "abs" = some none)
    (z_all : PySem.W.nsIn K mainGlobals "all" = some none)
    (z_isinstance : PySem.W.nsIn K mainGlobals "isinstance" = some none)
    (z_len : PySem.W.nsIn K mainGlobals "len" = some none)
    (z_list : PySem.W.nsIn K mainGlobals "list" = some none)
    (z_min : PySem.W.nsIn K mainGlobals "min" = some none)
    (z_range : PySem.W.nsIn K mainGlobals "range" = some none)
    (z_set : PySem.W.nsIn K mainGlobals "set" = some none)
    (z_sorted : PySem.W.nsIn K mainGlobals "sorted" = some none)
    (z_tuple : PySem.W.nsIn K mainGlobals "tuple" = some none) :
    ∃ fd : FuncData, (∀ (s : Shared) (v : Value), BindsTo s fd ⟨[v], []⟩ [("_law_script", v)]) ∧ ∀ base : Heap, K.In base → base.Ns mainGlobals mg → FnOk l.prog w K mg base CX0 4 fa fd ["_law_script"] (spLaw K) := by
  have e := hfa.symm.trans (PySem.W.mg_of X G a8)
  cases e
  have F0 := fun_mk (st := s_added) l0 c0 k0
  have b0 := F0.binds (ps := ["one", "other"]) fun _ _ _ _ _ _ us hl => ar2 us hl (fun _ _ => rfl)
  have d0 : Df K mg "added" s_added ["one", "other"] := ⟨_, _, F0, PySem.W.mg_of X G a0, b0⟩
  have F1 := fun_mk (st := s_law_cell) l1 c1 k1
  have b1 := F1.binds (ps := ["_law_script", "_law_k"]) fun _ _ _ _ _ _ us hl => ar2 us hl (fun _ _ => rfl)
  have d1 : Df K mg "_law_cell" s_law_cell ["_law_script", "_law_k"] := ⟨_, _, F1, PySem.W.mg_of X G a1, b1⟩
  have F2 := fun_mk (st := s_law_bag) l2 c2 k2
  have b2 := F2.binds (ps := ["_law_script", "_law_at"]) fun _ _ _ _ _ _ us hl => ar2 us hl (fun _ _ => rfl)
  have d2 : Df K mg "_law_bag" s_law_bag ["_law_script", "_law_at"] := ⟨_, _, F2, PySem.W.mg_of X G a2, b2⟩
  have F3 := fun_mk (st := s_law_take) l3 c3 k3
  have b3 := F3.binds (ps := ["_law_bag_here", "_law_many"]) fun _ _ _ _ _ _ us hl => ar2 us hl (fun _ _ => rfl)
  have d3 : Df K mg "_law_take" s_law_take ["_law_bag_here", "_law_many"] := ⟨_, _, F3, PySem.W.mg_of X G a3, b3⟩
  have F4 := fun_mk (st := s_law_order) l4 c4 k4
  have b4 := F4.binds (ps := ["_law_bag_here", "_law_n"]) fun _ _ _ _ _ _ us hl => ar2 us hl (fun _ _ => rfl)
  have d4 : Df K mg "_law_order" s_law_order ["_law_bag_here", "_law_n"] := ⟨_, _, F4, PySem.W.mg_of X G a4, b4⟩
  have F5 := fun_mk (st := s_law_crowd) l5 c5 k5
  have b5 := F5.binds (ps := ["_law_bag_here", "_law_n"]) fun _ _ _ _ _ _ us hl => ar2 us hl (fun _ _ => rfl)
  have d5 : Df K mg "_law_crowd" s_law_crowd ["_law_bag_here", "_law_n"] := ⟨_, _, F5, PySem.W.mg_of X G a5, b5⟩
  have F6 := fun_mk (st := s_law_due) l6 c6 k6
  have b6 := F6.binds (ps := ["_law_one", "_law_other"]) fun _ _ _ _ _ _ us hl => ar2 us hl (fun _ _ => rfl)
  have d6 : Df K mg "_law_due" s_law_due ["_law_one", "_law_other"] := ⟨_, _, F6, PySem.W.mg_of X G a6, b6⟩
  have F7 := fun_mk (st := s_law_right) l7 c7 k7
  have b7 := F7.binds (ps := ["_law_one", "_law_other", "_law_third"]) fun _ _ _ _ _ _ us hl => ar3 us hl (fun _ _ _ => rfl)
  have d7 : Df K mg "_law_right" s_law_right ["_law_one", "_law_other", "_law_third"] := ⟨_, _, F7, PySem.W.mg_of X G a7, b7⟩
  have F8 := fun_mk (st := s_law) l8 c8 k8
  have b8 := F8.binds (ps := ["_law_script"]) fun _ _ _ _ _ _ us hl => ar1 us hl (fun _ => rfl)
  have d8 : Df K mg "law" s_law ["_law_script"] := ⟨_, _, F8, PySem.W.mg_of X G a8, b8⟩
  have B : Bt mg := ⟨PySem.W.mg_none_of X G z_abs, PySem.W.mg_none_of X G z_all, PySem.W.mg_none_of X G z_isinstance, PySem.W.mg_none_of X G z_len, PySem.W.mg_none_of X G z_list, PySem.W.mg_none_of X G z_min, PySem.W.mg_none_of X G z_range, PySem.W.mg_none_of X G z_set, PySem.W.mg_none_of X G z_sorted, PySem.W.mg_none_of X G z_tuple⟩
  refine ⟨PySem.W.fnOf "law" "law" (defArgs s_law) (defBody s_law) (defScope s_law) .none kV8 dc8 pm8 an8 cd8 ct8, fun s v => .of_eq rfl, fun base _ _ => ?_⟩
  have c_added := k_added (P := l.prog) (w := w) (base := base) B d0
  have c_law_cell := k_law_cell (P := l.prog) (w := w) (base := base) B d1
  have c_law_bag := k_law_bag (P := l.prog) (w := w) (base := base) B d2 c_law_cell
  have c_law_take := k_law_take (P := l.prog) (w := w) (base := base) B d3
  have c_law_order := k_law_order (P := l.prog) (w := w) (base := base) B d4 c_law_take
  have c_law_crowd := k_law_crowd (P := l.prog) (w := w) (base := base) B d5 c_law_take c_law_order
  have c_law_due := k_law_due (P := l.prog) (w := w) (base := base) B d6
  have c_law_right := k_law_right (P := l.prog) (w := w) (base := base) B d7 c_law_due c_added
  exact fn_law (kf_law (P := l.prog) (w := w) (base := base) B F8 c_law_bag c_law_take c_law_crowd c_law_right) law_ev
end L2
theorem PySem.W.Fast.tw14826105970370468891:True:=⟨⟩
theorem PySem.W.Fast.tw1041043739878904346:True:=⟨⟩
theorem PySem.W.Fast.tw6260144049426855990:True:=⟨⟩
theorem PySem.W.Fast.tw11011328071224335666:True:=⟨⟩
theorem PySem.W.Fast.tw8836612200679921192:True:=⟨⟩
theorem PySem.W.Fast.tw3974880178243936034:True:=⟨⟩
theorem PySem.W.Fast.tw11156282955735641087:True:=⟨⟩
theorem PySem.W.Fast.tw3200081687865604306:True:=⟨⟩
open PySem PySem.W PyProof.Rows
set_option maxRecDepth 100000 in
set_option maxHeartbeats 0 in
theorem PySem.Challenge.cw_rookborders_k31_crowds_added_holds : PySem.Challenge.rw_rookborders_k31_crowds_added.Holds := by
  w_on; o_law; k_head; (case hw => w_witness2)
  k_fill
  refine L2.walkD (l := PySem.Challenge.rw_rookborders_k31_crowds_added) (k := 4) (x := "_law_script") rfl rfl ⟨rfl, by decide, by decide⟩ (fun w h Y => PySem.W.kIn_of Y) ?F
  case F =>
    intro w mg fa h KX G hmg
    refine' L2.all_mk KX G hmg ?a0 ?l0 ?c0 ?k0 ?a1 ?l1 ?c1 ?k1 ?a2 ?l2 ?c2 ?k2 ?a3 ?l3 ?c3 ?k3 ?a4 ?l4 ?c4 ?k4 ?a5 ?l5 ?c5 ?k5 ?a6 ?l6 ?c6 ?k6 ?a7 ?l7 ?c7 ?k7 ?a8 ?l8 ?c8 ?k8 ?z_abs ?z_all ?z_isinstance ?z_len ?z_list ?z_min ?z_range ?z_set ?z_sorted ?z_tuple
    (case a0 => k_is)
    (case l0 => k_is)
    (case c0 => k_is)
    (case k0 => k_is)
    (case a1 => k_is)
    (case l1 => k_is)
    (case c1 => k_is)
    (case k1 => k_is)
    (case a2 => k_is)
    (case l2 => k_is)
    (case c2 => k_is)
    (case k2 => k_is)
    (case a3 => k_is)
    (case l3 => k_is)
    (case c3 => k_is)
    (case k3 => k_is)
    (case a4 => k_is)
    (case l4 => k_is)
    (case c4 => k_is)
    (case k4 => k_is)
    (case a5 => k_is)
    (case l5 => k_is)
    (case c5 => k_is)
    (case k5 => k_is)
    (case a6 => k_is)
    (case l6 => k_is)
    (case c6 => k_is)
    (case k6 => k_is)
    (case a7 => k_is)
    (case l7 => k_is)
    (case c7 => k_is)
    (case k7 => k_is)
    (case a8 => k_is)
    (case l8 => k_is)
    (case c8 => k_is)
    (case k8 => k_is)
    (case z_abs => k_is)
    (case z_all => k_is)
    (case z_isinstance => k_is)
    (case z_len => k_is)
    (case z_list => k_is)
    (case z_min => k_is)
    (case z_range => k_is)
    (case z_set => k_is)
    (case z_sorted => k_is)
    (case z_tuple => k_is)
