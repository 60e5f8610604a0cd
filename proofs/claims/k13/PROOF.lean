import PyProof.Rows.All
import Wide.All
import OpenK.AllK
import Wide.FinOn
import PyProof.EqAt
import PyProof.EqKinds
import PyProof.TupleCall
import PyProof.NeKinds
import PyProof.FactsAll.tuple_2
import PyProof.FactsAll.tuple_3
import PyProof.ListRange
import KE.KSortTup
import PyProof.EnumMake
import PyProof.AutoSeq1
import PyProof.Rows.SeqMore
import KE.KIsAll
import PyProof.ExcArgsOwn
import PyProof.ExcBaseAll.ValueError
import PyProof.ExcAttrAll.ValueError
import OpenK.KOwn
import PyProof.RulesAs
import Lean
import PySem.Challenge.RW_rookborders_k13_moved
set_option Elab.async false
set_option linter.all false
set_option maxRecDepth 100000
set_option maxHeartbeats 1000000
namespace L2
open PySem
/-! ### the table of a set: where a search goes -/
theorem nodup_leT {n : Nat} {l : List Nat} (nd : l.Nodup) (h : ∀ z ∈ l, z < n) : l.length ≤ n := by
  have p : l.Perm ((List.range n).filter fun z => decide (z ∈ l)) := (List.perm_ext_iff_of_nodup nd (List.Pairwise.filter _ List.nodup_range)).mpr fun z => by
    rw [List.mem_filter, List.mem_range, decide_eq_true_eq]; exact ⟨fun q => ⟨h z q, q⟩, fun q => q.2⟩
  rw [p.length_eq]
  exact Nat.le_trans (List.length_filter_le _ _) (by simp)
def lcS : Nat → Nat
  | 0 => 0
  | n + 1 => 5 * lcS n + 1
theorem lcS_add (m : Nat) : ∀ n, lcS (m + n) = 5 ^ n * lcS m + lcS n
  | 0 => by simp [lcS]
  | n + 1 => by
    show 5 * lcS (m + n) + 1 = _
    rw [lcS_add m n, Nat.pow_succ]
    show _ = 5 ^ n * 5 * lcS m + (5 * lcS n + 1)
    rw [Nat.mul_add, Nat.mul_right_comm, Nat.mul_comm 5 (5 ^ n * lcS m)]; omega
theorem lcS_par : ∀ n, lcS n % 2 = n % 2
  | 0 => rfl
  | n + 1 => by have := lcS_par n; show (5 * lcS n + 1) % 2 = _; omega
theorem five_pow : ∀ n, 5 ^ n = 4 * lcS n + 1
  | 0 => rfl
  | n + 1 => by rw [Nat.pow_succ, five_pow n]; show _ = 4 * (5 * lcS n + 1) + 1; omega
theorem cop (k a : Nat) (h : a % 2 = 1) : Nat.Coprime (2 ^ k) a := by
  refine Nat.Coprime.pow_left k ?_
  show Nat.gcd 2 a = 1
  rw [Nat.gcd_rec, h]
  decide
theorem lcS_dvd : ∀ (k d : Nat), 2 ^ k ∣ lcS d → 2 ^ k ∣ d
  | 0, d, _ => by simp
  | k + 1, d, h => by
    have hp := lcS_par d
    have h2 : 2 ∣ lcS d := Nat.dvd_trans ⟨2 ^ k, by rw [Nat.pow_succ, Nat.mul_comm]⟩ h
    obtain ⟨e, rfl⟩ : ∃ e, d = e + e := ⟨d / 2, by have := Nat.mod_eq_zero_of_dvd h2; omega⟩
    have e1 : lcS (e + e) = 2 * (lcS e * (2 * lcS e + 1)) := by
      rw [lcS_add, five_pow]
      have : (4 * lcS e + 1) * lcS e + lcS e = (2 * (2 * lcS e + 1)) * lcS e := by
        rw [← Nat.succ_mul]; congr 1; omega
      rw [this, Nat.mul_assoc, Nat.mul_comm (2 * lcS e + 1)]
    rw [e1, Nat.pow_succ, Nat.mul_comm] at h
    have h3 := Nat.dvd_of_mul_dvd_mul_left (by omega) h
    have h4 := (cop k (2 * lcS e + 1) (by omega)).dvd_of_dvd_mul_right h3
    obtain ⟨q, hq⟩ := lcS_dvd k e h4
    exact ⟨q, by rw [Nat.pow_succ]; rw [show 2 ^ k * 2 * q = 2 ^ k * q + 2 ^ k * q by rw [Nat.mul_right_comm]; omega, ← hq]⟩
def itT (M : Nat) : Nat → Nat → Nat
  | 0, i => i
  | n + 1, i => (itT M n i * 5 + 1) % M
theorem itT_mod (M i : Nat) : ∀ n, itT M n i % M = (5 ^ n * i + lcS n) % M
  | 0 => by simp [itT, lcS]
  | n + 1 => by
    show (itT M n i * 5 + 1) % M % M = _
    rw [Nat.mod_mod, Nat.add_mod, Nat.mul_mod, itT_mod M i n, ← Nat.mul_mod, ← Nat.add_mod]
    congr 1
    show (5 ^ n * i + lcS n) * 5 + 1 = 5 ^ (n + 1) * i + (5 * lcS n + 1)
    rw [Nat.pow_succ, Nat.add_mul, Nat.mul_right_comm]; omega
theorem itT_inj {k i m d : Nat} (h : itT (2 ^ k) m i % 2 ^ k = itT (2 ^ k) (m + d) i % 2 ^ k) : 2 ^ k ∣ d := by
  rw [itT_mod, itT_mod, lcS_add, Nat.pow_add] at h
  have e : 5 ^ m * 5 ^ d * i + (5 ^ d * lcS m + lcS d) = 5 ^ m * i + lcS m + lcS d * (4 * (5 ^ m * i + lcS m) + 1) := by
    rw [five_pow d]
    generalize 5 ^ m = a; generalize lcS m = b; generalize lcS d = c
    grind
  rw [e] at h
  have h2 : (lcS d * (4 * (5 ^ m * i + lcS m) + 1)) % 2 ^ k = 0 := by
    have hd := Nat.sub_mod_eq_zero_of_mod_eq h.symm
    rw [Nat.add_sub_cancel_left] at hd
    exact hd
  exact lcS_dvd k d ((cop k _ (by omega)).dvd_of_dvd_mul_right (Nat.dvd_of_mod_eq_zero h2))
theorem lc_all {k : Nat} {i : Nat} (hi : i < 2 ^ k) {j : Nat} (hj : j < 2 ^ k) : ∃ n, n < 2 ^ k ∧ itT (2 ^ k) n i = j := by
  have lt : ∀ n, itT (2 ^ k) n i < 2 ^ k := fun n => by
    cases n with
    | zero => exact hi
    | succ n => exact Nat.mod_lt _ (Nat.two_pow_pos k)
  have nd : ((List.range (2 ^ k)).map fun n => itT (2 ^ k) n i).Nodup := by
    rw [List.Nodup, List.pairwise_map]
    refine List.Pairwise.imp_of_mem (fun {a b} ha hb hab e => ?_) List.pairwise_lt_range
    rw [List.mem_range] at hb
    obtain ⟨d, rfl⟩ := Nat.exists_eq_add_of_lt hab
    have := itT_inj (k := k) (i := i) (m := a) (d := d + 1) (by rw [show a + (d + 1) = a + d + 1 by omega, ← e])
    have := Nat.le_of_dvd (by omega) this
    omega
  by_cases h : j ∈ (List.range (2 ^ k)).map fun n => itT (2 ^ k) n i
  · obtain ⟨n, hn, e⟩ := List.mem_map.mp h
    exact ⟨n, List.mem_range.mp hn, e⟩
  · exfalso
    have h1 := nodup_leT (n := 2 ^ k) (List.nodup_cons.mpr ⟨h, nd⟩) (fun z hz => by
      rcases List.mem_cons.mp hz with rfl | hz
      · exact hj
      · obtain ⟨n, _, rfl⟩ := List.mem_map.mp hz; exact lt n)
    simp at h1
    omega
/-! the places that a search looks at, one by one -/
abbrev Pb := SetTable.Probe
def adv (mask : Nat) (p : Pb) : Pb :=
  if p.more > 0 then { p with j := p.j + 1, more := p.more - 1 } else
  { p with j := (SetTable.leap mask p.i p.perturb).1, more := SetTable.runEnd mask (SetTable.leap mask p.i p.perturb).1 - (SetTable.leap mask p.i p.perturb).1, i := (SetTable.leap mask p.i p.perturb).1, perturb := (SetTable.leap mask p.i p.perturb).2 }
def landP (mask i perturb : Nat) (d : Option Nat) : Pb := { j := i, more := SetTable.runEnd mask i - i, i := i, perturb := perturb, dummy := d }
def advN (mask : Nat) : Nat → Pb → Pb
  | 0, p => p
  | n + 1, p => advN mask n (adv mask p)
theorem advN_add (mask m : Nat) : ∀ (n : Nat) (p : Pb), advN mask (n + m) p = advN mask m (advN mask n p)
  | 0, p => by rw [Nat.zero_add]; rfl
  | n + 1, p => by rw [Nat.succ_add]; exact advN_add mask m n (adv mask p)
theorem advN_succ (mask n : Nat) (p : Pb) : advN mask (n + 1) p = adv mask (advN mask n p) := advN_add mask 1 n p
theorem adv_run (mask : Nat) : ∀ (n : Nat) (p : Pb), n ≤ p.more → advN mask n p = { p with j := p.j + n, more := p.more - n }
  | 0, p, _ => rfl
  | n + 1, p, h => by
    show advN mask n (adv mask p) = _
    have : adv mask p = { p with j := p.j + 1, more := p.more - 1 } := if_pos (by omega)
    rw [this, adv_run mask n _ (by show n ≤ p.more - 1; omega)]
    show ({ p with j := p.j + 1 + n, more := p.more - 1 - n } : Pb) = { p with j := p.j + (n + 1), more := p.more - (n + 1) }
    rw [show p.j + 1 + n = p.j + (n + 1) by omega, show p.more - 1 - n = p.more - (n + 1) by omega]
theorem adv_land (mask : Nat) (p : Pb) : advN mask (p.more + 1) p = landP mask ((p.i * 5 + 1 + p.perturb / 32) % (mask + 1)) (p.perturb / 32) p.dummy := by
  rw [advN_succ, adv_run mask p.more p (Nat.le_refl _)]
  unfold adv
  dsimp only
  rw [Nat.sub_self, if_neg (by omega)]
  rfl
theorem land_more (mask i perturb : Nat) (d : Option Nat) : (landP mask i perturb d).more ≤ 9 := by
  show SetTable.runEnd mask i - i ≤ 9
  unfold SetTable.runEnd
  split <;> omega
/-- the n-th leap -/
def lp (mask : Nat) : Nat → Nat × Nat → Nat × Nat
  | 0, x => x
  | n + 1, x => lp mask n ((x.1 * 5 + 1 + x.2 / 32) % (mask + 1), x.2 / 32)
theorem lp_land (mask : Nat) (d : Option Nat) : ∀ (n i perturb : Nat), ∃ m, m ≤ 10 * n ∧ advN mask m (landP mask i perturb d) = landP mask (lp mask n (i, perturb)).1 (lp mask n (i, perturb)).2 d
  | 0, i, perturb => ⟨0, by omega, rfl⟩
  | n + 1, i, perturb => by
    obtain ⟨m, h1, h2⟩ := lp_land mask d n ((i * 5 + 1 + perturb / 32) % (mask + 1)) (perturb / 32)
    have lm := land_more mask i perturb d
    refine ⟨(landP mask i perturb d).more + 1 + m, by omega, ?_⟩
    rw [advN_add, adv_land]
    exact h2
theorem lp_zero {k mask : Nat} (hk : mask + 1 = 2 ^ k) : ∀ (n i : Nat), lp mask n (i, 0) = (itT (2 ^ k) n i, 0) := by
  have key : ∀ (n : Nat) (x : Nat), itT (2 ^ k) n ((x * 5 + 1) % 2 ^ k) = itT (2 ^ k) (n + 1) x := by
    intro n
    induction n with
    | zero => intro x; rfl
    | succ n ih => intro x; show (itT (2 ^ k) n ((x * 5 + 1) % 2 ^ k) * 5 + 1) % 2 ^ k = _; rw [ih x]; rfl
  intro n
  induction n with
  | zero => intro i; rfl
  | succ n ih =>
    intro i
    show lp mask n ((i * 5 + 1 + 0 / 32) % (mask + 1), 0 / 32) = _
    rw [Nat.zero_div, Nat.add_zero, hk, ih, key]
theorem lp_add (mask : Nat) : ∀ (m n : Nat) (x : Nat × Nat), lp mask (m + n) x = lp mask n (lp mask m x)
  | 0, n, x => by rw [Nat.zero_add]; rfl
  | m + 1, n, x => by rw [Nat.succ_add]; exact lp_add mask m n _
theorem lp_pert (mask : Nat) : ∀ (n i perturb : Nat), (lp mask n (i, perturb)).2 = perturb / 32 ^ n
  | 0, i, perturb => by simp [lp]
  | n + 1, i, perturb => by
    show (lp mask n _).2 = _
    rw [lp_pert, Nat.div_div_eq_div_mul, ← Nat.pow_succ']
theorem lp_lt (mask : Nat) : ∀ (n : Nat) (x : Nat × Nat), x.1 ≤ mask → (lp mask n x).1 ≤ mask
  | 0, x, h => h
  | n + 1, x, _ => lp_lt mask n _ (Nat.lt_succ_iff.mp (Nat.mod_lt _ (by omega)))
/-- by leaps each place is come to -/
theorem lp_all {k mask : Nat} (hk : mask + 1 = 2 ^ k) {i perturb : Nat} (hi : i ≤ mask) (hp : perturb < 2 ^ 64) {j : Nat} (hj : j ≤ mask) : ∃ n, n ≤ 13 + mask ∧ (lp mask n (i, perturb)).1 = j := by
  have e13 : lp mask 13 (i, perturb) = ((lp mask 13 (i, perturb)).1, 0) := by
    have := lp_pert mask 13 i perturb
    rw [Nat.div_eq_of_lt (Nat.lt_of_lt_of_le hp (by decide))] at this
    exact Prod.ext rfl this
  obtain ⟨n, hn, e⟩ := lc_all (k := k) (i := (lp mask 13 (i, perturb)).1) (by have := lp_lt mask 13 (i, perturb) hi; omega) (j := j) (by omega)
  refine ⟨13 + n, by omega, ?_⟩
  rw [lp_add, e13, lp_zero hk]
  exact e
/-- the m-th place for a hash -/
def pst (mask : Nat) (h : Int) (d : Option Nat) : Pb := landP mask (SetTable.bits h % (mask + 1)) (SetTable.bits h) d
def Jx (mask : Nat) (h : Int) (m : Nat) : Nat := (advN mask m (pst mask h none)).j
theorem bits_lt (h : Int) : SetTable.bits h < 2 ^ 64 := by
  unfold SetTable.bits
  have h1 : 0 ≤ h % (2 ^ 64 : Int) := Int.emod_nonneg _ (by decide)
  have h2 : h % (2 ^ 64 : Int) < 2 ^ 64 := Int.emod_lt_of_pos _ (by decide)
  have h3 : ((2 : Int) ^ 64) = ((2 ^ 64 : Nat) : Int) := by decide
  omega
theorem Jx_all {k mask : Nat} (hk : mask + 1 = 2 ^ k) (h : Int) {j : Nat} (hj : j ≤ mask) : ∃ m, m ≤ 10 * (13 + mask) ∧ Jx mask h m = j := by
  obtain ⟨n, hn, e⟩ := lp_all hk (i := SetTable.bits h % (mask + 1)) (perturb := SetTable.bits h) (Nat.lt_succ_iff.mp (Nat.mod_lt _ (by omega))) (bits_lt h) hj
  obtain ⟨m, hm, e2⟩ := lp_land mask none n (SetTable.bits h % (mask + 1)) (SetTable.bits h)
  refine ⟨m, by omega, ?_⟩
  show (advN mask m (landP mask (SetTable.bits h % (mask + 1)) (SetTable.bits h) none)).j = j
  rw [e2]; exact e
/-! rows of places, rising -/
def Ris (xs : Array Nat) : Prop := xs.toList.Pairwise (· < ·)
theorem Ris.lt {xs : Array Nat} (r : Ris xs) {i j : Nat} (hij : i < j) {a b : Nat} (ha : xs[i]? = some a) (hb : xs[j]? = some b) : a < b := by
  rw [← Array.getElem?_toList] at ha hb
  obtain ⟨h1, e1⟩ := List.getElem?_eq_some_iff.mp ha
  obtain ⟨h2, e2⟩ := List.getElem?_eq_some_iff.mp hb
  have := List.pairwise_iff_getElem.mp r i j h1 h2 hij
  rw [e1, e2] at this; exact this
theorem Ris.inj {xs : Array Nat} (r : Ris xs) {i j : Nat} {a : Nat} (ha : xs[i]? = some a) (hb : xs[j]? = some a) : i = j := by
  rcases Nat.lt_trichotomy i j with h | h | h
  · exact absurd (r.lt h ha hb) (by omega)
  · exact h
  · exact absurd (r.lt h hb ha) (by omega)
structure Bel (xs : Array Nat) (j p : Nat) : Prop where
  le : p ≤ xs.size
  lo : ∀ i a, i < p → xs[i]? = some a → a < j
  hi : ∀ i a, p ≤ i → xs[i]? = some a → j ≤ a
theorem bel_go {xs : Array Nat} (r : Ris xs) (j : Nat) : ∀ (fuel lo hi : Nat), hi - lo ≤ fuel → lo ≤ hi → hi ≤ xs.size → (∀ i a, i < lo → xs[i]? = some a → a < j) → (∀ i a, hi ≤ i → xs[i]? = some a → j ≤ a) → Bel xs j (SetTable.below.go xs j fuel lo hi)
  | 0, lo, hi, h1, h2, h3, h4, h5 => by
    have : lo = hi := by omega
    subst this
    exact ⟨h3, h4, h5⟩
  | fuel + 1, lo, hi, h1, h2, h3, h4, h5 => by
    unfold SetTable.below.go
    by_cases hlt : lo < hi
    · rw [if_pos hlt]
      dsimp only
      have hm : (lo + hi) / 2 < xs.size := by omega
      have em : xs[(lo + hi) / 2]? = some xs[(lo + hi) / 2] := Array.getElem?_eq_getElem hm
      have eg : xs.getD ((lo + hi) / 2) j = xs[(lo + hi) / 2] := by simp [Array.getD, hm]
      rw [eg]
      by_cases c : xs[(lo + hi) / 2] < j
      · rw [if_pos c]
        refine bel_go r j fuel _ hi (by omega) (by omega) h3 (fun i a hi' ha => ?_) h5
        by_cases e : i = (lo + hi) / 2
        · subst e; rw [em] at ha; cases ha; exact c
        · exact Nat.lt_trans (r.lt (by omega) ha em) c
      · rw [if_neg c]
        refine bel_go r j fuel lo _ (by omega) (by omega) (by omega) h4 (fun i a hi' ha => ?_)
        by_cases e : i = (lo + hi) / 2
        · subst e; rw [em] at ha; cases ha; omega
        · have := r.lt (by omega) em ha; omega
    · rw [if_neg hlt]
      have : lo = hi := by omega
      subst this
      exact ⟨h3, h4, h5⟩
theorem bel {xs : Array Nat} (r : Ris xs) (j : Nat) : Bel xs j (SetTable.below xs j) := bel_go r j _ _ _ (by omega) (by omega) (by omega) (fun i a h _ => absurd h (by omega)) fun i a h e => by
  rw [Array.getElem?_eq_none h] at e; cases e
theorem bel_at {xs : Array Nat} (r : Ris xs) {j i : Nat} (h : xs[i]? = some j) : SetTable.below xs j = i := by
  have b := bel r j
  rcases Nat.lt_trichotomy i (SetTable.below xs j) with c | c | c
  · exact absurd (b.lo i j c h) (by omega)
  · exact c.symm
  · have lt : SetTable.below xs j < xs.size := Nat.lt_trans c (Array.getElem?_eq_some_iff.mp h).1
    have e : xs[SetTable.below xs j]? = some xs[SetTable.below xs j] := Array.getElem?_eq_getElem lt
    have h1 := b.hi _ _ (Nat.le_refl _) e
    have h2 := r.lt c e h
    omega
theorem has_iff {xs : Array Nat} (r : Ris xs) (j : Nat) : SetTable.has xs j = true ↔ j ∈ xs.toList := by
  unfold SetTable.has
  rw [beq_iff_eq]
  constructor
  · intro h
    rw [← Array.getElem?_toList] at h
    exact List.mem_of_getElem? h
  · intro h
    obtain ⟨i, hi⟩ := List.mem_iff_getElem?.mp h
    rw [Array.getElem?_toList] at hi
    rw [bel_at r hi]; exact hi
/-! the table -/
structure TOk (t : SetTable) (hs : List Int) : Prop where
  pw : ∃ k, 3 ≤ k ∧ k ≤ 12 ∧ t.mask + 1 = 2 ^ k
  sz : t.place.size = hs.length
  sp : Ris t.place
  sd : Ris t.dummies
  lp : ∀ j ∈ t.place.toList, j ≤ t.mask
  ld : ∀ j ∈ t.dummies.toList, j ≤ t.mask
  dj : ∀ j ∈ t.dummies.toList, j ∉ t.place.toList
  fl : t.fill ≤ t.mask
  rc : ∀ x ∈ hs.zip t.place.toList, ∃ m, Jx t.mask x.1 m = x.2 ∧ ∀ m', m' < m → Jx t.mask x.1 m' ∈ t.place.toList ∨ Jx t.mask x.1 m' ∈ t.dummies.toList
/-- a place in use: by an element, or by one that was taken out -/
def Usd (t : SetTable) (j : Nat) : Prop := j ∈ t.place.toList ∨ j ∈ t.dummies.toList
section
variable {t : SetTable} {hs : List Int} (T : TOk t hs)
include T
theorem TOk.mask : t.mask ≤ 4095 := by
  obtain ⟨k, h3, h12, e⟩ := T.pw
  have := Nat.pow_le_pow_right (n := 2) (by omega) h12
  have : (2 : Nat) ^ 12 = 4096 := by decide
  omega
theorem TOk.room : ∃ j, j ≤ t.mask ∧ ¬ Usd t j := by
  refine Classical.byContradiction fun h => ?_
  have all : ∀ j, j ≤ t.mask → Usd t j := fun j hj => Classical.byContradiction fun n => h ⟨j, hj, n⟩
  have nd : (t.place.toList ++ t.dummies.toList).Nodup := by
    refine List.nodup_append.mpr ⟨T.sp.imp fun h => Nat.ne_of_lt h, T.sd.imp fun h => Nat.ne_of_lt h, fun a ha b hb e => ?_⟩
    subst e
    exact T.dj _ hb ha
  have : t.mask + 1 ≤ (t.place.toList ++ t.dummies.toList).length := by
    have h1 : (List.range (t.mask + 1)).length ≤ (t.place.toList ++ t.dummies.toList).length := by
      refine List.Nodup.length_le_of_subset List.nodup_range fun j hj => ?_
      rw [List.mem_range] at hj
      rw [List.mem_append]
      exact all j (by omega)
    simpa using h1
  have fl := T.fl
  unfold SetTable.fill at fl
  rw [List.length_append, Array.length_toList, Array.length_toList] at this
  omega
/-- the first place of a hash that is not in use -/
theorem TOk.first (h : Int) : ∃ M, M ≤ 10 * (13 + t.mask) ∧ ¬ Usd t (Jx t.mask h M) ∧ ∀ m, m < M → Usd t (Jx t.mask h m) := by
  obtain ⟨k, _, _, e⟩ := T.pw
  obtain ⟨j, hj, hn⟩ := T.room
  obtain ⟨m, hm, em⟩ := Jx_all e h hj
  have ex : ∀ n, (∃ m, m ≤ n ∧ ¬ Usd t (Jx t.mask h m)) → ∃ M, M ≤ n ∧ ¬ Usd t (Jx t.mask h M) ∧ ∀ m, m < M → Usd t (Jx t.mask h m) := by
    intro n
    induction n with
    | zero => rintro ⟨m, hm, q⟩; obtain rfl : m = 0 := (by omega); exact ⟨0, by omega, q, fun _ h => absurd h (by omega)⟩
    | succ n ih =>
      rintro ⟨m, hm, q⟩
      by_cases c : ∃ m, m ≤ n ∧ ¬ Usd t (Jx t.mask h m)
      · obtain ⟨M, h1, h2, h3⟩ := ih c; exact ⟨M, by omega, h2, h3⟩
      · have : m = n + 1 := Classical.byContradiction fun w => c ⟨m, by omega, q⟩
        subst this
        exact ⟨n + 1, by omega, q, fun m' hm' => Classical.byContradiction fun w => c ⟨m', by omega, w⟩⟩
  obtain ⟨M, h1, h2, h3⟩ := ex (10 * (13 + t.mask)) ⟨m, hm, by rw [em]; exact hn⟩
  exact ⟨M, h1, h2, h3⟩
end
end L2
set_option Elab.async false
set_option linter.all false
set_option maxRecDepth 100000
set_option maxHeartbeats 1000000
namespace L2
open PySem
section
variable {t : SetTable} {hs : List Int} (T : TOk t hs)
include T
end
/-! putting in -/
theorem erase_list {α : Type} (xs : Array α) (p : Nat) : (SetTable.eraseAt xs p).toList = xs.toList.eraseIdx p := by
  unfold SetTable.eraseAt
  rw [List.eraseIdx_eq_take_drop_succ]
  simp [List.extract_eq_take_drop, List.take_of_length_le]
theorem mem_erase {l : List Nat} (r : l.Pairwise (· < ·)) {p j : Nat} (hp : l[p]? = some j) (x : Nat) : x ∈ l.eraseIdx p ↔ x ∈ l ∧ x ≠ j := by
  rw [List.mem_eraseIdx_iff_getElem?]
  constructor
  · rintro ⟨i, ne, e⟩
    refine ⟨List.mem_of_getElem? e, fun w => ne ?_⟩
    subst w
    obtain ⟨h1, e1⟩ := List.getElem?_eq_some_iff.mp e
    obtain ⟨h2, e2⟩ := List.getElem?_eq_some_iff.mp hp
    rcases Nat.lt_trichotomy i p with c | c | c
    · have := List.pairwise_iff_getElem.mp r i p h1 h2 c; omega
    · exact c
    · have := List.pairwise_iff_getElem.mp r p i h2 h1 c; omega
  · rintro ⟨h, ne⟩
    obtain ⟨i, hi⟩ := List.mem_iff_getElem?.mp h
    exact ⟨i, fun w => by subst w; rw [hp] at hi; cases hi; exact ne rfl, hi⟩
theorem ris_insert {xs : Array Nat} (r : Ris xs) {j : Nat} (n : j ∉ xs.toList) : Ris (SetTable.insertAt xs (SetTable.below xs j) j) := by
  have b := bel r j
  unfold Ris
  rw [SetTable.toList_insertAt, List.pairwise_append]
  have hlo : ∀ a ∈ xs.toList.take (SetTable.below xs j), a < j := fun a ha => by
    obtain ⟨i, hi⟩ := List.mem_iff_getElem?.mp ha
    rw [List.getElem?_take] at hi
    split at hi
    · rename_i c; rw [Array.getElem?_toList] at hi; exact b.lo i a c hi
    · cases hi
  have hhi : ∀ a ∈ xs.toList.drop (SetTable.below xs j), j < a := fun a ha => by
    obtain ⟨i, hi⟩ := List.mem_iff_getElem?.mp ha
    rw [List.getElem?_drop] at hi
    have hm := List.mem_of_getElem? hi
    rw [Array.getElem?_toList] at hi
    have := b.hi _ a (Nat.le_add_right _ _) hi
    have : a ≠ j := fun w => n (w ▸ hm)
    omega
  refine ⟨List.Pairwise.sublist (List.take_sublist _ _) r, ?_, fun a ha c hc => ?_⟩
  · exact List.pairwise_cons.mpr ⟨hhi, List.Pairwise.sublist (List.drop_sublist _ _) r⟩
  · rcases List.mem_cons.mp hc with rfl | hc
    · exact hlo a ha
    · exact Nat.lt_trans (hlo a ha) (hhi c hc)
theorem mem_insert {α : Type} (xs : Array α) (p : Nat) (x y : α) : y ∈ (SetTable.insertAt xs p x).toList ↔ y = x ∨ y ∈ xs.toList := by
  rw [SetTable.toList_insertAt, List.mem_append, List.mem_cons]
  conv => rhs; rw [← List.take_append_drop p xs.toList, List.mem_append]
  constructor
  · rintro (h | h | h)
    · exact .inr (.inl h)
    · exact .inl h
    · exact .inr (.inr h)
  · rintro (h | h | h)
    · exact .inr (.inl h)
    · exact .inl h
    · exact .inr (.inr h)
def insTb {α : Type} (l : List α) (p : Nat) (x : α) : List α := l.take p ++ x :: l.drop p
theorem zip_ins {α β : Type} (l : List α) (m : List β) (p : Nat) (a : α) (b : β) (h : l.length = m.length) : (insTb l p a).zip (insTb m p b) = insTb (l.zip m) p (a, b) := by
  unfold insTb
  rw [List.zip_append (by rw [List.length_take, List.length_take, h]), List.zip_cons_cons]
  unfold List.zip
  rw [List.take_zipWith, List.drop_zipWith]
theorem TOk.put {t : SetTable} {hs : List Int} (T : TOk t hs) {h : Int} {j : Nat} (hj : j ≤ t.mask) (n : j ∉ t.place.toList) (rc : ∃ m, Jx t.mask h m = j ∧ ∀ m', m' < m → Usd t (Jx t.mask h m'))
    (fl : (t.put j).1.fill ≤ t.mask) : TOk (t.put j).1 (insTb hs (t.put j).2 h) := by
  have el : (t.put j).1.place.toList = insTb t.place.toList (t.put j).2 j := SetTable.toList_insertAt _ _ _
  have mp : ∀ y, y ∈ (t.put j).1.place.toList ↔ y = j ∨ y ∈ t.place.toList := mem_insert t.place _ j
  have md : ∀ y, y ∈ (t.put j).1.dummies.toList ↔ y ∈ t.dummies.toList ∧ y ≠ j := fun y => by
    show y ∈ (if SetTable.has t.dummies j = true then SetTable.eraseAt t.dummies (SetTable.below t.dummies j) else t.dummies).toList ↔ _
    split
    · rename_i c
      have c2 := (has_iff T.sd j).mp c
      obtain ⟨i, hi⟩ := List.mem_iff_getElem?.mp c2
      rw [erase_list, bel_at T.sd (by rw [← Array.getElem?_toList]; exact hi)]
      exact mem_erase T.sd hi y
    · rename_i c
      exact ⟨fun q => ⟨q, fun w => c ((has_iff T.sd j).mpr (w ▸ q))⟩, fun q => q.1⟩
  have us : ∀ y, Usd t y → y ∈ (t.put j).1.place.toList ∨ y ∈ (t.put j).1.dummies.toList := fun y q => by
    rcases q with q | q
    · exact .inl ((mp y).mpr (.inr q))
    · by_cases e : y = j
      · exact .inl ((mp y).mpr (.inl e))
      · exact .inr ((md y).mpr ⟨q, e⟩)
  refine ⟨T.pw, ?_, ris_insert T.sp n, ?_, fun y q => ?_, fun y q => T.ld y ((md y).mp q).1, fun y q w => ?_, fl, fun x hx => ?_⟩
  · rw [← Array.length_toList, el]
    unfold insTb
    have := T.sz
    rw [← Array.length_toList] at this
    simp [this]
  · show Ris (if SetTable.has t.dummies j = true then SetTable.eraseAt t.dummies (SetTable.below t.dummies j) else t.dummies)
    split
    · unfold Ris
      rw [erase_list]
      exact List.Pairwise.sublist (List.eraseIdx_sublist _ _) T.sd
    · exact T.sd
  · rcases (mp y).mp q with rfl | q
    · exact hj
    · exact T.lp y q
  · have q' := (md y).mp q
    rcases (mp y).mp w with rfl | w
    · exact q'.2 rfl
    · exact T.dj y q'.1 w
  · rw [el, zip_ins _ _ _ _ _ (by rw [Array.length_toList]; exact T.sz.symm)] at hx
    unfold insTb at hx
    have hx : x = (h, j) ∨ x ∈ hs.zip t.place.toList := by
      rcases List.mem_append.mp hx with q | q
      · exact .inr (List.mem_of_mem_take q)
      · rcases List.mem_cons.mp q with q | q
        · exact .inl q
        · exact .inr (List.mem_of_mem_drop q)
    rcases hx with rfl | hx
    · obtain ⟨m, e, q⟩ := rc
      exact ⟨m, e, fun m' hm => us _ (q m' hm)⟩
    · obtain ⟨m, e, q⟩ := T.rc x hx
      exact ⟨m, e, fun m' hm => us _ (q m' hm)⟩
theorem TOk.drop {t : SetTable} {hs : List Int} (T : TOk t hs) {i j : Nat} (hi : t.place[i]? = some j) : TOk (t.drop i) (hs.eraseIdx i) := by
  have ed : t.drop i = { t with place := SetTable.eraseAt t.place i, dummies := SetTable.insertAt t.dummies (SetTable.below t.dummies j) j } := by
    unfold SetTable.drop; rw [hi]
  have hi' : t.place.toList[i]? = some j := by rw [Array.getElem?_toList]; exact hi
  have jm : j ∈ t.place.toList := List.mem_of_getElem? hi'
  have lt : i < t.place.size := (Array.getElem?_eq_some_iff.mp hi).1
  rw [ed]
  have el : (SetTable.eraseAt t.place i).toList = t.place.toList.eraseIdx i := erase_list _ _
  have mp : ∀ y, y ∈ (SetTable.eraseAt t.place i).toList ↔ y ∈ t.place.toList ∧ y ≠ j := fun y => by rw [el]; exact mem_erase T.sp hi' y
  have md := mem_insert t.dummies (SetTable.below t.dummies j) j
  have us : ∀ y, Usd t y → y ∈ (SetTable.eraseAt t.place i).toList ∨ y ∈ (SetTable.insertAt t.dummies (SetTable.below t.dummies j) j).toList := fun y q => by
    rcases q with q | q
    · by_cases e : y = j
      · exact .inr ((md y).mpr (.inl e))
      · exact .inl ((mp y).mpr ⟨q, e⟩)
    · exact .inr ((md y).mpr (.inr q))
  refine ⟨T.pw, ?_, ?_, ris_insert T.sd fun w => T.dj j w jm, fun y q => T.lp y ((mp y).mp q).1, fun y q => ?_, fun y q w => ?_, ?_, fun x hx => ?_⟩
  · show (SetTable.eraseAt t.place i).size = _
    rw [← Array.length_toList, el, List.length_eraseIdx, List.length_eraseIdx, Array.length_toList, T.sz]
  · show Ris (SetTable.eraseAt t.place i)
    unfold Ris
    rw [el]
    exact List.Pairwise.sublist (List.eraseIdx_sublist _ _) T.sp
  · rcases (md y).mp q with rfl | q
    · exact T.lp y jm
    · exact T.ld y q
  · have w' := (mp y).mp w
    rcases (md y).mp q with rfl | q
    · exact w'.2 rfl
    · exact T.dj y q w'.1
  · show (SetTable.eraseAt t.place i).size + (SetTable.insertAt t.dummies (SetTable.below t.dummies j) j).size ≤ t.mask
    have fl := T.fl
    unfold SetTable.fill at fl
    rw [← Array.length_toList, el, List.length_eraseIdx, ← Array.length_toList (xs := SetTable.insertAt _ _ _), SetTable.toList_insertAt, if_pos (by rw [Array.length_toList]; exact lt)]
    simp
    omega
  · have hx : x ∈ (hs.eraseIdx i).zip (t.place.toList.eraseIdx i) := by rw [← el]; exact hx
    have : x ∈ hs.zip t.place.toList := by
      obtain ⟨n, hn⟩ := List.mem_iff_getElem?.mp hx
      rw [List.getElem?_zip_eq_some, List.getElem?_eraseIdx, List.getElem?_eraseIdx] at hn
      obtain ⟨h1, h2⟩ := hn
      split at h1
      · rw [if_pos (by assumption)] at h2; exact List.mem_iff_getElem?.mpr ⟨n, List.getElem?_zip_eq_some.mpr ⟨h1, h2⟩⟩
      · rw [if_neg (by assumption)] at h2; exact List.mem_iff_getElem?.mpr ⟨n + 1, List.getElem?_zip_eq_some.mpr ⟨h1, h2⟩⟩
    obtain ⟨m, e, q⟩ := T.rc x this
    exact ⟨m, e, fun m' hm => us _ (q m' hm)⟩
end L2
set_option Elab.async false
set_option linter.all false
set_option maxRecDepth 100000
set_option maxHeartbeats 1000000
namespace L2
open PySem
/-! ### a table laid anew -/
abbrev Ownr := Array (Option Nat)
def Fre (ow : Ownr) (j : Nat) : Prop := ow[j]? = some none
def Occ (ow : Ownr) (j : Nat) : Prop := ∃ k, ow[j]? = some (some k)
theorem occ_of {ow : Ownr} {j : Nat} (h : j < ow.size) (n : ¬ Fre ow j) : Occ ow j := by
  unfold Fre at n
  unfold Occ
  rw [Array.getElem?_eq_getElem h] at n ⊢
  cases e : ow[j] with
  | none => rw [e] at n; exact absurd rfl n
  | some k => exact ⟨k, rfl⟩
/-- what is laid so far -/
structure LInv (mask : Nat) (ow : Ownr) (hs : List Int) : Prop where
  sz : ow.size = mask + 1
  lt : ∀ (j k : Nat), ow[j]? = some (some k) → k < hs.length
  un : ∀ (j j' k : Nat), ow[j]? = some (some k) → ow[j']? = some (some k) → j = j'
  ex : ∀ (k : Nat) (h : Int), hs[k]? = some h → ∃ j m : Nat, ow[j]? = some (some k) ∧ Jx mask h m = j ∧ ∀ m', m' < m → Occ ow (Jx mask h m')
theorem LInv.room {mask : Nat} {ow : Ownr} {hs : List Int} (I : LInv mask ow hs) (hl : hs.length ≤ mask) : ∃ j, j ≤ mask ∧ Fre ow j := by
  refine Classical.byContradiction fun h => ?_
  have all : ∀ j, j ≤ mask → Occ ow j := fun j hj => occ_of (by rw [I.sz]; omega) fun w => h ⟨j, hj, w⟩
  let f : Nat → Nat := fun j => ((ow[j]?).getD none).getD 0
  have hf : ∀ j, j ≤ mask → ow[j]? = some (some (f j)) := fun j hj => by
    obtain ⟨k, e⟩ := all j hj
    show _ = some (some (((ow[j]?).getD none).getD 0))
    rw [e]; rfl
  have nd : ((List.range (mask + 1)).map f).Nodup := by
    rw [List.Nodup, List.pairwise_map]
    refine List.Pairwise.imp_of_mem (fun {a b} ha hb hab e => ?_) List.pairwise_lt_range
    rw [List.mem_range] at ha hb
    have := I.un a b (f a) (hf a (by omega)) (by rw [e]; exact hf b (by omega))
    omega
  have := nodup_leT nd (n := hs.length) fun z hz => by
    obtain ⟨j, hj, rfl⟩ := List.mem_map.mp hz
    exact I.lt j _ (hf j (by rw [List.mem_range] at hj; omega))
  simp at this
  omega
end L2
set_option Elab.async false
set_option linter.all false
set_option maxRecDepth 100000
set_option maxHeartbeats 1000000
namespace L2
open PySem PySem.Spec PyProof.Rows
/-! ### sets of tuples of ints -/
def th (ks : List Int) : Int := reduceHash (Builtin.Tuple.tupleHashOf (ks.map hashInt))
abbrev KI (prog : Program) (w : World) : HeapKind prog w (List Int) := tupleKind (intKind prog w)
def ent (x : List Int × Addr) : Int × Value := (th x.1, .ref x.2)
abbrev Els := List (List Int × Addr)
def thE (xs : Els) : List Int := xs.map fun x => th x.1
structure SetAt (w : World) (o : Obj) (es : Array (Int × Value)) (ep : Nat) (t : SetTable) (xs : Els) : Prop where
  ex : o.ExactSet
  hd : o.data = .set es ep t
  he : es.toList = xs.map ent
  T : TOk t (thE xs)
  led : t.led = !w.params.followText "set-order"
  pl : t.plain = true
  nd : (xs.map (·.1)).Nodup
section
variable {prog : Program} {w : World} {A : Around} {E : Value → Shared → Prop} {s : Shared} {a b : Addr} {o : Obj} {es : Array (Int × Value)} {ep : Nat} {t : SetTable} {xs : Els} {k : List Int}
theorem SetAt.size (S : SetAt w o es ep t xs) : es.size = xs.length := by
  have := congrArg List.length S.he
  simpa using this
theorem SetAt.at_ (S : SetAt w o es ep t xs) (i : Nat) : es[i]? = (xs[i]?).map ent := by
  rw [← Array.getElem?_toList, S.he, List.getElem?_map]
end
end L2
set_option Elab.async false
set_option linter.all false
set_option maxRecDepth 100000
set_option maxHeartbeats 1000000
namespace L2
open PySem PySem.Spec PyProof.Rows
/-- all of a set's table -/
structure SetOk (w : World) (o : Obj) (es : Array (Int × Value)) (ep : Nat) (t : SetTable) (xs : Els) : Prop extends SetAt w o es ep t xs where
  f5 : t.fill * 5 < t.mask * 3
section
variable {prog : Program} {w : World} {A : Around} {E : Value → Shared → Prop} {s : Shared} {a b : Addr} {o : Obj} {es : Array (Int × Value)} {ep : Nat} {t : SetTable} {xs : Els} {k : List Int}
end
end L2
set_option Elab.async false
set_option linter.all false
set_option maxRecDepth 100000
set_option maxHeartbeats 1000000
namespace L2
open PySem PySem.Spec PyProof.Rows
section
variable {prog : Program} {w : World} {A : Around} {E : Value → Shared → Prop} {s : Shared} {a b : Addr} {o : Obj} {es : Array (Int × Value)} {ep : Nat} {t : SetTable} {xs : Els} {k : List Int}
end
end L2
set_option Elab.async false
set_option linter.all false
set_option maxRecDepth 100000
/-! THE HAND LAYER, for ints, bools, texts, own classes, LISTS and tuples (index, slices, in, append, pop ..), calls, loops. Paste it whole ahead of your own text; what your proof does not reach may be deleted. -/
namespace L2
open PySem PySem.Spec PyProof.Rows

/-- a key: an int or a str -/
abbrev Key := Sum Int Str
def keyIs : Key → Value → Bool
  | .inl k, v => Value.isInt k v
  | .inr x, v => Value.isStrOf x v
def keyH (w : World) : Key → Int
  | .inl k => hashInt k
  | .inr x => hashStr w x
theorem keyIs_shape : ∀ {k : Key} {v : Value}, keyIs k v = true → (∃ i t, k = Sum.inl i ∧ v = Value.int i t) ∨ (∃ x t, k = Sum.inr x ∧ v = Value.str x t)
  | .inl i, v, h => by
    obtain ⟨t, e⟩ := Value.isInt_shape (k := i) (v := v) h
    exact .inl ⟨i, t, rfl, e⟩
  | .inr x, v, h => by
    obtain ⟨t, e⟩ := Value.isStrOf_shape (x := x) (v := v) h
    exact .inr ⟨x, t, rfl, e⟩
theorem key_ll (a b : Int) : decide ((Sum.inl a : Key) = Sum.inl b) = (a == b) := by
  by_cases e : a = b
  · subst e; simp
  · have h : ¬ (Sum.inl a : Key) = Sum.inl b := fun q => e (Sum.inl.inj q)
    rw [decide_eq_false h]
    exact (beq_eq_false_iff_ne.mpr e).symm
theorem key_rr (a b : Str) : decide ((Sum.inr a : Key) = Sum.inr b) = decide (a = b) := by
  by_cases e : a = b
  · subst e; simp
  · have h : ¬ (Sum.inr a : Key) = Sum.inr b := fun q => e (Sum.inr.inj q)
    rw [decide_eq_false h, decide_eq_false e]
theorem key_lr (a : Int) (b : Str) : decide ((Sum.inl a : Key) = Sum.inr b) = false := decide_eq_false (fun q => nomatch q)
theorem key_rl (a : Str) (b : Int) : decide ((Sum.inr a : Key) = Sum.inl b) = false := decide_eq_false (fun q => nomatch q)

def mixKind (prog : Program) (w : World) : PySem.KeyKind prog w Key where
  is := keyIs
  hash := keyH w
  inj := fun v a b ha hb => by
    rcases keyIs_shape ha with ⟨i, t, rfl, rfl⟩ | ⟨x, t, rfl, rfl⟩
    · rcases keyIs_shape hb with ⟨j, u, rfl, e⟩ | ⟨y, u, rfl, e⟩
      · injection e with e1 _; rw [e1]
      · exact nomatch e
    · rcases keyIs_shape hb with ⟨j, u, rfl, e⟩ | ⟨y, u, rfl, e⟩
      · exact nomatch e
      · injection e with e1 _; rw [e1]
  byValue := fun k v h => by
    rcases keyIs_shape h with ⟨i, t, rfl, rfl⟩ | ⟨x, t, rfl, rfl⟩ <;> rfl
  pyHash := fun hv h => by
    rcases keyIs_shape hv with ⟨i, t, rfl, rfl⟩ | ⟨x, t, rfl, rfl⟩
    · exact wpAny_pyHash_int h
    · exact wpAny_pyHash_str h
  eqBool := fun hu hv h => by
    rcases keyIs_shape hu with ⟨i, t, rfl, rfl⟩ | ⟨x, t, rfl, rfl⟩
    · rcases keyIs_shape hv with ⟨j, u, rfl, rfl⟩ | ⟨y, u, rfl, rfl⟩
      · rw [key_ll] at h; exact wpAny_eqBool_int h
      · rw [key_lr] at h; exact SeqAt.EqAt.int_str i t y u _ _ _ _ h
    · rcases keyIs_shape hv with ⟨j, u, rfl, rfl⟩ | ⟨y, u, rfl, rfl⟩
      · rw [key_rl] at h; exact SeqAt.EqAt.str_int x t j u _ _ _ _ h
      · rw [key_rr] at h; exact wpAny_eqBool_str h
  «strs» := fun k x t v h => by
    rcases keyIs_shape h with ⟨i, u, rfl, e⟩ | ⟨y, u, rfl, e⟩
    · exact nomatch e
    · injection e with e1 _
      subst e1
      cases v <;> rfl

end L2

namespace L2
open PySem PySem.Spec PyProof.Rows

/-- a value, without the heap -/
inductive V where
  | non | bl (b : Bool) | int (i : Int) | str (x : Str) | byt (b : Array UInt8) | flt (b : UInt64) | ref (a : Addr) | ty (n : String)
  deriving DecidableEq

def RelV : V → Value → Prop
  | .non, u => u = Value.none
  | .bl b, u => u = Value.bool b
  | .int i, u => ∃ t, u = Value.int i t
  | .str x, u => ∃ t, u = Value.str x t
  | .byt b, u => ∃ t, u = Value.bytes b t
  | .flt b, u => ∃ t, u = Value.float b t
  | .ref a, u => u = Value.ref a
  | .ty n, u => u = Value.type n

abbrev Vals : List V → List Value → Prop := Paired RelV
theorem Vals.length {xs : List V} {us : List Value} (r : Vals xs us) : xs.length = us.length := Paired.length r
theorem Vals.get : ∀ {xs : List V} {us : List Value} {i : Nat} {x : V}, Vals xs us → xs[i]? = some x → ∃ u, us[i]? = some u ∧ RelV x u
  | _, _, _, _, .nil, e => by simp at e
  | _, _, 0, _, .cons r _, e => by simp at e; subst e; exact ⟨_, rfl, r⟩
  | _, _, i + 1, x, .cons _ t, e => by
    obtain ⟨u, h1, h2⟩ := Vals.get (i := i) (x := x) t (by simpa using e)
    exact ⟨u, by simpa using h1, h2⟩
theorem Vals.set {x : V} {u : Value} (r : RelV x u) : ∀ {xs : List V} {us : List Value} (i : Nat), Vals xs us → Vals (xs.set i x) (us.set i u)
  | _, _, _, .nil => .nil
  | _, _, 0, .cons _ t => .cons r t
  | _, _, i + 1, .cons q t => .cons q (Vals.set r i t)
theorem Vals.append : ∀ {xs ys : List V} {us ws : List Value}, Vals xs us → Vals ys ws → Vals (xs ++ ys) (us ++ ws)
  | _, _, _, _, .nil, s => s
  | _, _, _, _, .cons r t, s => .cons r (Vals.append t s)
theorem Vals.take : ∀ {xs : List V} {us : List Value} (n : Nat), Vals xs us → Vals (xs.take n) (us.take n)
  | _, _, 0, _ => .nil
  | _, _, _ + 1, .nil => .nil
  | _, _, n + 1, .cons r t => .cons r (Vals.take n t)
theorem Vals.drop : ∀ {xs : List V} {us : List Value} (n : Nat), Vals xs us → Vals (xs.drop n) (us.drop n)
  | _, _, 0, r => r
  | _, _, _ + 1, .nil => .nil
  | _, _, n + 1, .cons _ t => Vals.drop n t
def RelO : Option V → Option Value → Prop
  | some v, some u => RelV v u
  | none, none => True
  | _, _ => False
def KV {κ : Type} : List (κ × V) → List (κ × Value) → Prop := Paired fun (p : κ × V) (q : κ × Value) => p.1 = q.1 ∧ RelV p.2 q.2

/-- a key of a dict (00_mix): an int or a text -/
def kV : Key → V
  | .inl i => .int i
  | .inr x => .str x

/-- what stands at a tracked address -/
inductive HO where
  /-- a list -/
  | lst (xs : List V)
  /-- a tuple (never changes) -/
  | tup (xs : List V)
  /-- a dict whose keys are ints and texts; one whose keys are tuples of ints and texts (the empty one is both) -/
  | dK (kvs : List (Key × V)) | dT (kvs : List (List Key × V))
  /-- a set of ints: its members, its size -/
  | set (S : Int → Bool) (n : Nat)
  /-- a set of tuples of ints: them, and where they stand -/
  | tst (xs : List (List Int × Addr))
  /-- an instance of the class at C, its dict at dx, its attributes -/
  | ins (C dx : Addr) (fs : List (Str × V))
  /-- the dict of the instance at x -/
  | own (x : Addr)
  /-- the dict of an exception -/
  | xd (fs : List (Str × V))
  /-- a bound method, f of x -/
  | met (f x : Addr)
  /-- a range object lo, lo + 1, .. below hi -/
  | rng (lo hi : Int)
  /-- a thing that is known to the object (the script; a dict while a loop walks it): read, never written while it is so -/
  | frz (o : Obj) (u : HO)
  /-- a code object's table -/
  | tbl (ps : Array Value)
  /-- any other thing, by what is true of its one object (a def of one's own: SetO a S n := HO.ext fun h => ..) -/
  | ext (φ : Heap → Prop)

abbrev Hp := Addr → Option HO
def upd (H : Hp) (a : Addr) (o : HO) : Hp := fun b => if b = a then some o else H b
theorem upd_same {H : Hp} {a : Addr} {o : HO} : upd H a o a = some o := by unfold upd; rw [if_pos rfl]
theorem upd_ne {H : Hp} {a b : Addr} {o : HO} (h : b ≠ a) : upd H a o b = H b := by unfold upd; rw [if_neg h]
theorem ne_of_none {H : Hp} {a b : Addr} {o : HO} (h : H a = some o) (h' : H b = none) : a ≠ b := by
  intro e; subst e; rw [h] at h'; cases h'

section
variable (P : Program) (w : World)
def ObjOk (H : Hp) (h : Heap) (a : Addr) : HO → Prop
  | .lst xs => xs.length ≤ sizeLine ∧ ∃ (its : List Value) (n : Nat), Vals xs its ∧ h.get? a = some { cls := .type "list", data := .seq its.toArray n }
  | .tup xs => xs.length ≤ sizeLine ∧ ∃ its : List Value, Vals xs its ∧ IsTup h a its.toArray ∧ ∃ o, h.get? a = some o ∧ o.dict = none
  | .dK kvs => kvs.length ≤ sizeLine ∧ (a == sysModules) = false ∧ ∃ vs, KV kvs vs ∧ h.DictOf (mixKind P w) a vs
  | .dT kvs => kvs.length ≤ sizeLine ∧ (a == sysModules) = false ∧ ∃ xs : List (List Key × Addr × Value),
      Paired (fun (p : List Key × V) (q : List Key × Addr × Value) => p.1 = q.1 ∧ H q.2.1 = some (.tup (p.1.map kV)) ∧ RelV p.2 q.2.2) kvs xs ∧
      ∃ o es ep, h.get? a = some o ∧ o.ExactDict ∧ o.data = .dict es ep ∧ es.toList = xs.map (entryOfKey (tupleKind (mixKind P w))) ∧ (xs.map (·.1)).Nodup
  | .set S n => h.SetOf (intKind P w) a S n
  | .tst xs => ∃ o es ep t, h.get? a = some o ∧ SetOk w o es ep t xs
  | .ins C dx fs => H dx = some (.own a) ∧ fs.length ≤ 1000 ∧ dx ≠ a ∧ h.get? a = some (PySem.W.instObj C dx) ∧
      ∃ mA, h.Ns1 dx mA ∧ (∀ f, RelO (fs.lookup f) (mA f)) ∧ PySem.Within mA (fs.map (·.1))
  | .own _ => ∃ o, h.get? a = some o
  | .xd fs => ∃ mA, h.Ns1 a mA ∧ ∀ f, RelO (fs.lookup f) (mA f)
  | .rng lo hi => ∃ t u v, h.get? a = some { cls := .type "range", data := .fields #[.int lo t, .int hi u, .int 1 v] }
  | .frz o u => h.get? a = some o ∧ ObjOk H h a u
  | .tbl ps => h.get? a = some { cls := .none, data := .fields ps }
  | .met f x => h.get? a = some (PySem.W.methodObj (.ref f) (.ref x))
  | .ext φ => φ h ∧ (∃ o, h.get? a = some o) ∧ ∀ h1 h2 : Heap, φ h1 → (∀ o, h1.get? a = some o → h2.get? a = some o) → φ h2
/-- the abstract heap is held -/
def HOk (H : Hp) (h : Heap) : Prop := ∀ a o, H a = some o → ObjOk P w H h a o
end

section
variable {P : Program} {w : World} {H H' : Hp} {h h' : Heap} {a : Addr} {o : HO}
theorem ObjOk.lt (x : ObjOk P w H h a o) : a < h.objs.size := by
  cases o with
  | lst xs => obtain ⟨_, _, _, _, e⟩ := x; exact Heap.lt_size e
  | tup xs => obtain ⟨_, _, _, p, _⟩ := x; exact p.lt
  | dK kvs => obtain ⟨_, _, _, _, o, _, _, e, _⟩ := x; exact Heap.lt_size e
  | dT kvs => obtain ⟨_, _, _, _, o, _, _, e, _⟩ := x; exact Heap.lt_size e
  | set S n => obtain ⟨o, _, _, _, e, _⟩ := x; exact Heap.lt_size e
  | tst xs => obtain ⟨o, _, _, _, e, _⟩ := x; exact Heap.lt_size e
  | ins C dx fs => obtain ⟨_, _, _, e, _⟩ := x; exact Heap.lt_size e
  | own y => obtain ⟨_, e⟩ := x; exact Heap.lt_size e
  | xd fs => obtain ⟨_, ⟨_, _, _, e, _⟩, _⟩ := x; exact Heap.lt_size e
  | rng lo hi => obtain ⟨_, _, _, e⟩ := x; exact Heap.lt_size e
  | frz ob u => obtain ⟨e, _⟩ := x; exact Heap.lt_size e
  | tbl ps => exact Heap.lt_size (show h.get? a = some _ from x)
  | met f y => exact Heap.lt_size (show h.get? a = some _ from x)
  | ext φ => obtain ⟨_, ⟨_, e⟩, _⟩ := x; exact Heap.lt_size e
theorem Paired.mapP {α β : Type} {F G : α → β → Prop} : ∀ {l₁ : List α} {l₂ : List β}, Paired F l₁ l₂ → (∀ a b, F a b → G a b) → Paired G l₁ l₂
  | _, _, .nil, _ => .nil
  | _, _, .cons r t, f => .cons (f _ _ r) (Paired.mapP t f)
/-- what an object's description leans on: its own object, its own dict, the tuples -/
theorem ObjOk.stay (x : ObjOk P w H h a o) (k : ∀ b u, (b = a ∨ H b = some (.own a)) → h.get? b = some u → h'.get? b = some u)
    (ho : ∀ b, H b = some (.own a) → H' b = some (.own a)) (ht : ∀ b xs, H b = some (.tup xs) → H' b = some (.tup xs)) : ObjOk P w H' h' a o := by
  induction o with
  | lst xs => obtain ⟨z, its, n, r, e⟩ := x; exact ⟨z, its, n, r, k _ _ (.inl rfl) e⟩
  | tup xs => obtain ⟨z, its, r, ⟨ob, e, c⟩, ob2, e2, c2⟩ := x; exact ⟨z, its, r, ⟨ob, k _ _ (.inl rfl) e, c⟩, ob2, k _ _ (.inl rfl) e2, c2⟩
  | dK kvs => obtain ⟨z, y, vs, r, ob, es, ep, e, c⟩ := x; exact ⟨z, y, vs, r, ob, es, ep, k _ _ (.inl rfl) e, c⟩
  | dT kvs =>
    obtain ⟨z, y, xs, r, ob, es, ep, e, c⟩ := x
    exact ⟨z, y, xs, Paired.mapP r fun p q z => ⟨z.1, ht _ _ z.2.1, z.2.2⟩, ob, es, ep, k _ _ (.inl rfl) e, c⟩
  | set S n => obtain ⟨ob, es, ep, t, e, c⟩ := x; exact ⟨ob, es, ep, t, k _ _ (.inl rfl) e, c⟩
  | tst xs => obtain ⟨ob, es, ep, t, e, c⟩ := x; exact ⟨ob, es, ep, t, k _ _ (.inl rfl) e, c⟩
  | ins C dx fs =>
    obtain ⟨d, z, ne, e, mA, ⟨od, es, ep, e2, c⟩, r⟩ := x
    exact ⟨ho _ d, z, ne, k _ _ (.inl rfl) e, mA, ⟨od, es, ep, k _ _ (.inr d) e2, c⟩, r⟩
  | own y => obtain ⟨ob, e⟩ := x; exact ⟨ob, k _ _ (.inl rfl) e⟩
  | xd fs => obtain ⟨mA, ⟨od, es, ep, e, c⟩, r⟩ := x; exact ⟨mA, ⟨od, es, ep, k _ _ (.inl rfl) e, c⟩, r⟩
  | rng lo hi => obtain ⟨t, u, v, e⟩ := x; exact ⟨t, u, v, k _ _ (.inl rfl) e⟩
  | frz ob u ih => obtain ⟨e, q⟩ := x; exact ⟨k _ _ (.inl rfl) e, ih q⟩
  | tbl ps =>
    have e : h.get? a = some { cls := .none, data := .fields ps } := x
    show h'.get? a = some { cls := .none, data := .fields ps }
    exact k a _ (.inl rfl) e
  | met f y =>
    have e : h.get? a = some (PySem.W.methodObj (.ref f) (.ref y)) := x
    show h'.get? a = some (PySem.W.methodObj (.ref f) (.ref y))
    exact k a _ (.inl rfl) e
  | ext φ => obtain ⟨p, ⟨o, e⟩, st⟩ := x; exact ⟨st _ _ p fun o q => k _ _ (.inl rfl) q, ⟨o, k _ _ (.inl rfl) e⟩, st⟩
theorem HOk.lt (x : HOk P w H h) (e : H a = some o) : a < h.objs.size := (x a o e).lt
theorem HOk.fresh (x : HOk P w H h) (e : h.objs.size ≤ a) : H a = none := by
  cases q : H a with
  | none => rfl
  | some u => exact absurd (Nat.lt_of_lt_of_le (x.lt q) e) (Nat.lt_irrefl _)
/-- every object of the heap is kept -/
theorem HOk.kept (x : HOk P w H h) (k : ∀ b u, h.get? b = some u → h'.get? b = some u) : HOk P w H h' := fun a o e =>
  (x a o e).stay (fun b u _ q => k b u q) (fun _ q => q) fun _ _ q => q
/-- a new object is laid and tracked -/
theorem HOk.laid (x : HOk P w H h) (k : ∀ b u, h.get? b = some u → h'.get? b = some u) (hp : h.objs.size ≤ a) (new : ObjOk P w (upd H a o) h' a o) : HOk P w (upd H a o) h' := fun b u e => by
  have hn := x.fresh hp
  by_cases hb : b = a
  · subst hb; rw [upd_same] at e; cases e; exact new
  · rw [upd_ne hb] at e
    exact (x b u e).stay (fun c v _ q => k c v q) (fun c q => by rw [upd_ne (ne_of_none q hn)]; exact q) fun c xs q => by rw [upd_ne (ne_of_none q hn)]; exact q
end

/-- what may be read as u: it is u, or a known u -/
def Rd (H : Hp) (a : Addr) (u : HO) : Prop := H a = some u ∨ ∃ o, H a = some (.frz o u)
theorem Rd.of {H : Hp} {a : Addr} {u : HO} (h : H a = some u) : Rd H a u := .inl h
theorem Rd.ok {P : Program} {w : World} {H : Hp} {h : Heap} {a : Addr} {u : HO} (r : Rd H a u) (x : HOk P w H h) : ObjOk P w H h a u := by
  rcases r with r | ⟨o, r⟩
  · exact x a u r
  · obtain ⟨_, q⟩ := x a _ r
    exact q
/-- what may be written -/
def Mut : Option HO → Prop
  | some (.lst _) => True
  | some (.dK _) => True
  | some (.dT _) => True
  | some (.set _ _) => True
  | some (.tst _) => True
  | some (.ins _ _ _) => True
  | some (.ext _) => True
  | _ => False
section
variable {P : Program} {w : World} {H : Hp} {h h' : Heap} {x e : Addr} {o' : HO}
/-- the object at e is changed: x itself, or the dict of the instance x -/
theorem HOk.write (ok : HOk P w H h) (mu : Mut (H x)) (he : e = x ∨ H e = some (.own x)) (k : ∀ b u, b ≠ e → h.get? b = some u → h'.get? b = some u) (heo : ∃ u, h'.get? e = some u)
    (new : ObjOk P w (upd H x o') h' x o') : HOk P w (upd H x o') h' := fun b u q => by
  have nown : ∀ c y, H c = some (.own y) → c ≠ x := fun c y r z => by subst z; rw [r] at mu; exact mu
  have ntup : ∀ c xs, H c = some (.tup xs) → c ≠ x := fun c xs r z => by subst z; rw [r] at mu; exact mu
  by_cases hb : b = x
  · subst hb; rw [upd_same] at q; cases q; exact new
  · rw [upd_ne hb] at q
    by_cases hbe : b = e
    · have q' : H b = some (.own x) := by
        rcases he with z | z
        · exact absurd (hbe.trans z) hb
        · rw [hbe]; exact z
      rw [q] at q'; cases q'
      obtain ⟨v, hv⟩ := heo
      exact ⟨v, by rw [hbe]; exact hv⟩
    · refine (ok b u q).stay (fun c v hc r => k c v ?_ r) (fun c r => by rw [upd_ne (nown c b r)]; exact r) fun c xs r => by rw [upd_ne (ntup c xs r)]; exact r
      rcases hc with rfl | hc
      · exact hbe
      · rintro rfl
        rcases he with z | z
        · exact nown c b hc z
        · rw [hc] at z; cases z; exact hb rfl
end

/-! ### kept unless tracked; of the frames at fs (the callers') the slots may change (an exception that passes writes there); of the records at ex (iterators) nothing is said -/
structure Un (fs ex : List Addr) (H H' : Hp) (h h' : Heap) : Prop where
  keep : ∀ b o, h.get? b = some o → H b = none → b ∉ fs → b ∉ ex → h'.get? b = some o
  slot : ∀ b o, h.get? b = some o → H b = none → b ∈ fs → b ∉ ex → ∃ sl, h'.get? b = some { o with slots := sl }
  free : ∀ b o, h.get? b = some o → H b = none → b ∉ ex → H' b = none
  there : ∀ b o, h.get? b = some o → b ∉ ex → ∃ o', h'.get? b = some o'
  tups : ∀ b xs, H b = some (.tup xs) → H' b = some (.tup xs)
  frzs : ∀ b o u, H b = some (.frz o u) → H' b = some (.frz o u)
  tbls : ∀ b ps, H b = some (.tbl ps) → ∃ more, H' b = some (.tbl (ps ++ more))
section
variable {fs fs' ex ex' : List Addr} {H H1 H2 : Hp} {h h1 h2 h' : Heap} {a x e : Addr} {o : HO}
theorem Un.any (u : Un fs ex H H1 h h1) {b : Addr} {ob : Obj} (q : h.get? b = some ob) (n : H b = none) (hx : b ∉ ex) : ∃ sl, h1.get? b = some { ob with slots := sl } := by
  by_cases hb : b ∈ fs
  · exact u.slot b ob q n hb hx
  · exact ⟨ob.slots, u.keep b ob q n hb hx⟩
theorem Un.trans (a : Un fs ex H H1 h h1) (b : Un fs ex H1 H2 h1 h2) : Un fs ex H H2 h h2 where
  keep := fun c ob q n hc hx => b.keep c ob (a.keep c ob q n hc hx) (a.free c ob q n hx) hc hx
  slot := fun c ob q n hc hx => by
    obtain ⟨sl, e1⟩ := a.slot c ob q n hc hx
    obtain ⟨sl', e2⟩ := b.slot c _ e1 (a.free c ob q n hx) hc hx
    exact ⟨sl', e2⟩
  free := fun c ob q n hx => by
    obtain ⟨o', e1⟩ := a.there c ob q hx
    exact b.free c o' e1 (a.free c ob q n hx) hx
  there := fun c ob q hx => by
    obtain ⟨o', e1⟩ := a.there c ob q hx
    exact b.there c o' e1 hx
  tups := fun c xs q => b.tups c xs (a.tups c xs q)
  frzs := fun c ob xs q => b.frzs c ob xs (a.frzs c ob xs q)
  tbls := fun c ps q => by
    obtain ⟨m1, e1⟩ := a.tbls c ps q
    obtain ⟨m2, e2⟩ := b.tbls c _ e1
    exact ⟨m1 ++ m2, by rw [e2, Array.append_assoc]⟩
theorem Un.kept (k : ∀ b u, h.get? b = some u → h'.get? b = some u) : Un fs ex H H h h' :=
  ⟨fun b ob q _ _ _ => k b ob q, fun b ob q _ _ _ => ⟨ob.slots, k b ob q⟩, fun _ _ _ n _ => n, fun b ob q _ => ⟨ob, k b ob q⟩, fun _ _ q => q, fun _ _ _ q => q, fun _ ps q => ⟨#[], by rw [q]; simp⟩⟩
theorem Un.refl : Un fs ex H H h h := Un.kept fun _ _ q => q
theorem Un.laid (k : ∀ b u, h.get? b = some u → h'.get? b = some u) (hp : h.objs.size ≤ a) (hn : H a = none) : Un fs ex H (upd H a o) h h' where
  keep := fun b u q _ _ _ => k b u q
  slot := fun b u q _ _ _ => ⟨u.slots, k b u q⟩
  free := fun b u q n _ => by rw [upd_ne (Nat.ne_of_lt (Nat.lt_of_lt_of_le (Heap.lt_size q) hp))]; exact n
  there := fun b u q _ => ⟨u, k b u q⟩
  tups := fun b xs q => by rw [upd_ne (ne_of_none q hn)]; exact q
  frzs := fun b u xs q => by rw [upd_ne (ne_of_none q hn)]; exact q
  tbls := fun b ps q => ⟨#[], by rw [upd_ne (ne_of_none q hn), q]; simp⟩
theorem Un.write (mu : Mut (H x)) (he : e = x ∨ H e = some (.own x)) (k : ∀ b u, b ≠ e → h.get? b = some u → h'.get? b = some u) (heo : ∃ u, h'.get? e = some u) : Un fs ex H (upd H x o) h h' := by
  have hx : ∀ b, H b = none → b ≠ x := fun b n z => by subst z; rw [n] at mu; exact mu
  have hb : ∀ b, H b = none → b ≠ e := fun b n z => by
    subst z
    rcases he with r | r
    · exact hx b n r
    · rw [n] at r; cases r
  have hm : ∀ b u, H b = some u → ¬ Mut (some u) → b ≠ x := fun b u q nm z => by subst z; rw [q] at mu; exact nm mu
  refine ⟨fun b u q n _ _ => k b u (hb b n) q, fun b u q n _ _ => ⟨u.slots, k b u (hb b n) q⟩, fun b u q n _ => by rw [upd_ne (hx b n)]; exact n, fun b u q _ => ?_,
    fun b xs q => by rw [upd_ne (hm b _ q fun z => z)]; exact q, fun b u xs q => by rw [upd_ne (hm b _ q fun z => z)]; exact q, fun b ps q => ⟨#[], by rw [upd_ne (hm b _ q fun z => z), q]; simp⟩⟩
  by_cases hbe : b = e
  · subst hbe; exact heo
  · exact ⟨u, k b u hbe q⟩
theorem Un.mono (u : Un fs ex H H1 h h1) (hs : ∀ b ∈ fs, b ∈ fs') (hx : ∀ b ∈ ex, b ∈ ex') : Un fs' ex' H H1 h h1 :=
  ⟨fun b ob q n hb he => u.keep b ob q n (fun z => hb (hs b z)) fun z => he (hx b z), fun _ _ q n _ he => u.any q n fun z => he (hx _ z), fun b ob q n he => u.free b ob q n fun z => he (hx b z), fun b ob q he => u.there b ob q fun z => he (hx b z), u.tups, u.frzs, u.tbls⟩
end

/-! ### the heap without what is tracked -/
def trk (h : Heap) (H : Hp) : List Addr := (List.range h.objs.size).filter fun a => (H a).isSome
def hidT (h : Heap) (H : Hp) : Heap := PySem.W.hideAll h (trk h H)
theorem hidT_size (h : Heap) (H : Hp) : (hidT h H).objs.size = h.objs.size := PySem.W.hideAll_size _ _
theorem hidT_get {h : Heap} {H : Hp} {b : Addr} {o : Obj} (e : h.get? b = some o) (n : H b = none) : (hidT h H).get? b = some o :=
  PySem.W.hideAll_get _ e fun hm => by
    have q : (H b).isSome = true := (List.mem_filter.mp hm).2
    rw [n] at q; simp at q
theorem of_hidT {h : Heap} {H : Hp} {b : Addr} {o : Obj} (e : (hidT h H).get? b = some o) : h.get? b = some o ∧ H b = none := by
  have e' : h.get? b = some o := PySem.W.of_hideAll (trk h H) e
  refine ⟨e', ?_⟩
  cases q : H b with
  | none => rfl
  | some x =>
    have hm : b ∈ trk h H := List.mem_filter.mpr ⟨List.mem_range.mpr (Heap.lt_size e'), by simp [q]⟩
    have z : (hidT h H).get? b = none := PySem.W.hideAll_none (trk h H) hm
    rw [z] at e; cases e

/-! ### OpenK's ledger, filled with every new object but one -/
def allNews (g h : Heap) (L : Addr) : List (Addr × Obj) := (List.range h.objs.size).filterMap fun a => if a = L ∨ (g.get? a).isSome = true then none else (h.get? a).map fun o => (a, o)
def rest (g h : Heap) (L d : Addr) : List (Addr × Obj) := (allNews g h L).filter fun p => decide (p.1 ≠ d)
end L2

namespace L2
open PySem PySem.Spec PyProof.Rows

/-- the module's facts, over the base: the heap at the law's entry without what is tracked there -/
structure Mod (K : PySem.W.Frag) (mg : Str → Option Value) (base : Heap) : Prop where
  kin : K.In base
  glob : base.Ns mainGlobals mg
  blt : ∃ mb, base.Ns builtinsNs mb ∧ ∀ x : Str, x ≠ "__name__" → mb x = bootBuiltins x
  nolimit : base.NoLimit

/-- the context: a def's body (or a comprehension's block) running. base: fixed through the whole law; s₀, H₀: the entry; outer: the frames whose slots others may change (a def's callers); stack: all frames that run;
   ex: iterators that were made ahead of the entry and are walked here (a comprehension's); fn: the names whose cells were made at the entry (a def: all; a comprehension's block: its own); calm: not within an except suite; pn: pins that every state bears; xe: what is wanted of an exception that leaves the code -/
structure Cx where
  prog : Program
  w : World
  K : PySem.W.Frag
  mg : Str → Option Value
  base : Heap
  A : Around
  N : List Str
  s₀ : Shared
  H₀ : Hp
  env : Env
  outer : List Env
  stack : List Env
  ex : List Addr
  fn : Str → Bool
  calm : Bool
  pn : List (Addr × Obj)
  xe : Value → Shared → Prop
/-- the callers' frames -/
def frs (l : List Env) : List Addr := l.filterMap (·.frame)
abbrev Cx.fs (X : Cx) : List Addr := frs X.outer

def Vis (sc : Scope) (x : Str) : Prop := sc.names.lookup x = some .local ∨ sc.names.lookup x = some .cell ∨ sc.names.lookup x = some .free
def Loc (sc : Scope) (x : Str) : Prop := sc.names.lookup x = some .local ∨ sc.names.lookup x = some .cell
def Look (env : Env) (h : Heap) (m : Str → Option Value) (x : Str) (u : Value) : Prop :=
  (env.kindOf x = some .local ∧ m x = some u) ∨ ((env.kindOf x = some .cell ∨ env.kindOf x = some .free) ∧ ∃ c, env.cells.lookup x = some c ∧ h.IsCell c (some u))

structure Cx.Ok (X : Cx) : Prop where
  mod : Mod X.K X.mg X.base
  kind : X.env.scope.kind = .function
  glob : X.env.globals = mainGlobals
  blt : X.env.builtins = builtinsNs
  above : X.s₀.heap.objs.size ≤ X.env.locals
  inj : ∀ x y c, X.env.cells.lookup x = some c → X.env.cells.lookup y = some c → x = y
  has : ∀ x, (X.env.kindOf x = some .cell ∨ X.env.kindOf x = some .free) → ∃ c, X.env.cells.lookup x = some c
  cab : ∀ x c, X.fn x = true → X.env.cells.lookup x = some c → X.s₀.heap.objs.size ≤ c
  hd : X.calm = true → X.A.handled = none
  frames : X.A.frames = some X.stack
  stk : X.stack = X.outer ∨ (X.stack = X.env :: X.outer ∧ X.env.frame = some X.env.locals)
  exf : ∀ b ∈ X.ex, b ≠ X.env.locals ∧ ∀ x c, X.env.cells.lookup x = some c → c ≠ b
  bs : ∀ b o, X.base.get? b = some o → X.s₀.heap.get? b = some o ∧ X.H₀ b = none
  bsz : X.base.objs.size ≤ X.s₀.heap.objs.size
  noex : ∀ b o, X.base.get? b = some o → b ∉ X.ex
  exfs : ∀ b ∈ X.ex, b ∉ X.fs
  funs : X.s₀.heap.FunFrames X.base X.outer
  frf : ∀ b ∈ X.fs, X.H₀ b = none

structure Inv (X : Cx) (pins : List (Addr × Obj)) (σ : List (Option V)) (H : Hp) (s : Shared) : Prop where
  ok : X.Ok
  os : s.os = X.s₀.os
  bare : AllBare s.gens
  base : Un X.fs X.ex X.H₀ H X.s₀.heap s.heap
  loc : ∃ m, s.heap.Ns X.env.locals m ∧ ∀ (i : Nat) (x : Str) (v : V), X.N[i]? = some x → σ[i]? = some (some v) → Vis X.env.scope x → ∃ u, RelV v u ∧ Look X.env s.heap m x u
  cell : ∀ x c, X.env.cells.lookup x = some c → ∃ v, s.heap.IsCell c v
  free : H X.env.locals = none
  freeC : ∀ x c, X.env.cells.lookup x = some c → H c = none
  pin : ∀ p ∈ X.pn ++ pins, s.heap.get? p.1 = some p.2 ∧ H p.1 = none ∧ p.1 ≠ X.env.locals ∧ p.1 ∉ X.fs ∧ ∀ v, p.2.data ≠ .cell v
  hok : HOk X.prog X.w H s.heap
  len : σ.length = X.N.length

section
variable {X : Cx} {pins : List (Addr × Obj)} {σ : List (Option V)} {H H' : Hp} {s : Shared} {h' : Heap}

theorem Cx.Ok.nofr (ok : X.Ok) {b : Addr} {o : Obj} (e : X.base.get? b = some o) : b ∉ X.fs := fun hb => by
  have := (ok.funs.mem hb).1
  rw [e] at this; cases this
theorem Inv.bs (I : Inv X pins σ H s) : ∀ b o, X.base.get? b = some o → s.heap.get? b = some o ∧ H b = none := fun b o e =>
  ⟨I.base.keep b o (I.ok.bs b o e).1 (I.ok.bs b o e).2 (I.ok.nofr e) (I.ok.noex b o e), I.base.free b o (I.ok.bs b o e).1 (I.ok.bs b o e).2 (I.ok.noex b o e)⟩
theorem Inv.bk (I : Inv X pins σ H s) : ∀ b o, X.base.get? b = some o → s.heap.get? b = some o := fun b o e => (I.bs b o e).1
theorem Inv.mod (I : Inv X pins σ H s) : Mod X.K X.mg X.base := I.ok.mod
theorem Inv.kIn (I : Inv X pins σ H s) : X.K.In s.heap := I.ok.mod.kin.keeps I.bk
theorem Inv.nolimit (I : Inv X pins σ H s) : s.heap.NoLimit := I.ok.mod.nolimit.keeps I.bk
/-- the frame over the base: for OpenK's rules (K.In X.base is I.mod.kin) -/
theorem Inv.fr (I : Inv X pins σ H s) : ∃ m, Fr X.base X.env.locals s.heap m :=
  let ⟨m, hn, _⟩ := I.loc
  ⟨m, hn, I.bk, Nat.le_trans I.ok.bsz I.ok.above⟩
theorem Inv.lt (I : Inv X pins σ H s) : X.env.locals < s.heap.objs.size := let ⟨_, hn, _⟩ := I.loc; hn.lt
theorem Inv.sz (I : Inv X pins σ H s) : X.s₀.heap.objs.size ≤ s.heap.objs.size := Nat.le_trans I.ok.above (Nat.le_of_lt I.lt)
theorem Inv.nofs (I : Inv X pins σ H s) {a : Addr} (h : s.heap.objs.size ≤ a) : a ∉ X.fs := fun hb => by
  obtain ⟨_, o, ho, _⟩ := I.ok.funs.mem hb
  exact absurd (Nat.lt_of_lt_of_le (Heap.lt_size ho) (Nat.le_trans I.sz h)) (Nat.lt_irrefl _)
theorem Inv.cne (I : Inv X pins σ H s) : ∀ x c, X.env.cells.lookup x = some c → c ≠ X.env.locals := fun x c e z => by
  obtain ⟨v, o, ho, hd⟩ := I.cell x c e
  obtain ⟨m, ⟨o', es, ep, ho', hd', _⟩, _⟩ := I.loc
  rw [z, ho'] at ho; cases ho; rw [hd'] at hd; cases hd
theorem Inv.funs (I : Inv X pins σ H s) : s.heap.FunFrames X.base X.outer := by
  have all : ∀ (l : List Env), (∀ b ∈ frs l, b ∈ X.fs) → X.s₀.heap.FunFrames X.base l → s.heap.FunFrames X.base l := by
    intro l
    induction l with
    | nil => intro _ _; trivial
    | cons env r ih =>
      intro hs hl
      obtain ⟨hk, ⟨L, o, hf, hn, ho, hd⟩, hr⟩ := hl
      have hL : L ∈ X.fs := hs L (by unfold frs; rw [List.filterMap_cons, hf]; exact List.mem_cons_self)
      obtain ⟨sl, e⟩ := I.base.slot L o ho (I.ok.frf L hL) hL fun z => I.ok.exfs L z hL
      exact ⟨hk, ⟨L, _, hf, hn, e, hd⟩, ih (fun b hb => hs b (by unfold frs; rw [List.filterMap_cons, hf]; exact List.mem_cons_of_mem _ hb)) hr⟩
  exact all X.outer (fun _ hb => hb) I.ok.funs

/-- the frames that run, for a call -/
theorem Inv.stack (I : Inv X pins σ H s) : s.heap.FunFrames X.base X.stack := by
  rcases I.ok.stk with e | ⟨e, hf⟩
  · rw [e]; exact I.funs
  · rw [e]
    obtain ⟨m, hn, _⟩ := I.loc
    refine .cons (by rw [I.ok.kind]; decide) hf hn ?_ I.funs
    exact Heap.get?_none_of_le (Nat.le_trans I.ok.bsz I.ok.above)
theorem Inv.stkSub (I : Inv X pins σ H s) : ∀ b ∈ frs X.stack, b ∈ X.env.locals :: X.fs := fun b hb => by
  rcases I.ok.stk with e | ⟨e, hf⟩
  · rw [e] at hb; exact List.mem_cons_of_mem _ hb
  · rw [e] at hb
    unfold frs at hb
    rw [List.filterMap_cons, hf] at hb
    exact hb
theorem Inv.stkFree (I : Inv X pins σ H s) : ∀ b ∈ frs X.stack, H b = none := fun b hb => by
  rcases List.mem_cons.mp (I.stkSub b hb) with e | hb
  · rw [e]; exact I.free
  · obtain ⟨_, o, ho, _⟩ := I.ok.funs.mem hb
    exact I.base.free b o ho (I.ok.frf b hb) fun z => I.ok.exfs b z hb

/-- THE STEP: the untracked objects but the frame and the records at ch are kept (the callers' frames up to slots), the frame's map is kept, the new abstract heap is held -/
theorem Inv.step {g' : Array GenState} {t' : Nat} {d' : Drawn} {ch : List Addr} (I : Inv X pins σ H s)
    (hch : ∀ b ∈ ch, (b ∈ X.ex ∨ X.s₀.heap.objs.size ≤ b) ∧ b ≠ X.env.locals ∧ (∀ x c, X.env.cells.lookup x = some c → c ≠ b) ∧ ∀ p ∈ X.pn ++ pins, p.1 ≠ b)
    (keep : ∀ b o, b ≠ X.env.locals → b ∉ X.fs → b ∉ ch → s.heap.get? b = some o → H b = none → h'.get? b = some o)
    (slot : ∀ b o, b ≠ X.env.locals → b ∈ X.fs → b ∉ ch → s.heap.get? b = some o → H b = none → ∃ sl, h'.get? b = some { o with slots := sl }) (free : ∀ b o, b ∉ ch → s.heap.get? b = some o → H b = none → H' b = none)
    (there : ∀ b o, b ∉ ch → s.heap.get? b = some o → ∃ o', h'.get? b = some o')
    (tups : ∀ b xs, H b = some (.tup xs) → H' b = some (.tup xs)) (frzs : ∀ b o u, H b = some (.frz o u) → H' b = some (.frz o u)) (tbls : ∀ b ps, H b = some (.tbl ps) → ∃ more, H' b = some (.tbl (ps ++ more)))
    (ns : ∀ m, s.heap.Ns X.env.locals m → h'.Ns X.env.locals m) (hok : HOk X.prog X.w H' h') (hg : AllBare g') :
    Inv X pins σ H' { s with heap := h', gens := g', drawn := d', toks := t' } := by
  have neL : ∀ b o, X.s₀.heap.get? b = some o → b ≠ X.env.locals := fun b o e => Nat.ne_of_lt (Nat.lt_of_lt_of_le (Heap.lt_size e) I.ok.above)
  have neC : ∀ b o, X.s₀.heap.get? b = some o → b ∉ X.ex → b ∉ ch := fun b o e hx hb => by
    rcases (hch b hb).1 with z | z
    · exact hx z
    · exact absurd (Nat.lt_of_lt_of_le (Heap.lt_size e) z) (Nat.lt_irrefl _)
  have cellK : ∀ x c, X.env.cells.lookup x = some c → ∀ v, s.heap.IsCell c v → h'.IsCell c v := fun x c e v ⟨o, ho, hd⟩ => by
    have nch : c ∉ ch := fun z => (hch c z).2.2.1 x c e rfl
    by_cases hc : c ∈ X.fs
    · obtain ⟨sl, q⟩ := slot c o (I.cne x c e) hc nch ho (I.freeC x c e)
      exact ⟨_, q, hd⟩
    · exact ⟨o, keep c o (I.cne x c e) hc nch ho (I.freeC x c e), hd⟩
  refine ⟨I.ok, I.os, hg, ⟨fun b o e n hb hx => ?_, fun b o e n hb hx => ?_, fun b o e n hx => ?_, fun b o e hx => ?_, fun b xs e => tups b xs (I.base.tups b xs e), fun b o xs e => frzs b o xs (I.base.frzs b o xs e), fun b ps e => ?_⟩, ?_, fun x c e => ?_, ?_, fun x c e => ?_, fun p hp => ?_, hok, I.len⟩
  · exact keep b o (neL b o e) hb (neC b o e hx) (I.base.keep b o e n hb hx) (I.base.free b o e n hx)
  · obtain ⟨sl, e1⟩ := I.base.slot b o e n hb hx
    obtain ⟨sl', e2⟩ := slot b _ (neL b o e) hb (neC b o e hx) e1 (I.base.free b o e n hx)
    exact ⟨sl', e2⟩
  · obtain ⟨o', e1⟩ := I.base.there b o e hx
    exact free b o' (neC b o e hx) e1 (I.base.free b o e n hx)
  · obtain ⟨o', e1⟩ := I.base.there b o e hx
    exact there b o' (neC b o e hx) e1
  · obtain ⟨m1, e1⟩ := I.base.tbls b ps e
    obtain ⟨m2, e2⟩ := tbls b _ e1
    exact ⟨m1 ++ m2, by rw [e2, Array.append_assoc]⟩
  · obtain ⟨m, hn, hl⟩ := I.loc
    refine ⟨m, ns m hn, fun i x v e1 e2 e3 => ?_⟩
    obtain ⟨u, r, l⟩ := hl i x v e1 e2 e3
    refine ⟨u, r, ?_⟩
    rcases l with l | ⟨k, c, e, z⟩
    · exact .inl l
    · exact .inr ⟨k, c, e, cellK x c e _ z⟩
  · obtain ⟨v, z⟩ := I.cell x c e
    exact ⟨v, cellK x c e v z⟩
  · obtain ⟨m, ⟨o, _, _, ho, _⟩, _⟩ := I.loc
    exact free _ o (fun z => (hch _ z).2.1 rfl) ho I.free
  · obtain ⟨v, o, ho, hd⟩ := I.cell x c e
    exact free c o (fun z => (hch c z).2.2.1 x c e rfl) ho (I.freeC x c e)
  · obtain ⟨e, n, ne, nf, d⟩ := I.pin p hp
    have nch : p.1 ∉ ch := fun z => (hch p.1 z).2.2.2 p hp rfl
    exact ⟨keep p.1 p.2 ne nf nch e n, free p.1 p.2 nch e n, ne, nf, d⟩
/-- .. where the frame's own object is kept too -/
theorem Inv.un {t' : Nat} (I : Inv X pins σ H s) (u : Un X.fs [] H H' s.heap h') (hok : HOk X.prog X.w H' h') : Inv X pins σ H' { s with heap := h', toks := t' } := by
  obtain ⟨m, ⟨o, es, ep, ho, r⟩, _⟩ := id I.loc
  obtain ⟨sl, hL⟩ := u.any ho I.free (by simp)
  exact I.step (g' := s.gens) (d' := s.drawn) (ch := []) (fun _ z => nomatch z) (fun b o _ hb _ e n => u.keep b o e n hb (by simp)) (fun b o _ hb _ e n => u.slot b o e n hb (by simp)) (fun b o _ e n => u.free b o e n (by simp)) (fun b o _ e => u.there b o e (by simp)) u.tups u.frzs u.tbls (fun m' hm => by
    obtain ⟨o', es', ep', ho', r'⟩ := hm
    rw [ho] at ho'; cases ho'
    exact ⟨_, es', ep', hL, r'⟩) hok I.bare
/-- behind a call (or a comprehension's block): the slots of this frame may have changed too, the records at ch may have turned -/
theorem Inv.call {g' : Array GenState} {t' : Nat} {d' : Drawn} {ch : List Addr} (I : Inv X pins σ H s) (u : Un (frs X.stack) ch H H' s.heap h') (hok : HOk X.prog X.w H' h') (hg : AllBare g')
    (hch : ∀ b ∈ ch, (b ∈ X.ex ∨ X.s₀.heap.objs.size ≤ b) ∧ b ≠ X.env.locals ∧ (∀ x c, X.env.cells.lookup x = some c → c ≠ b) ∧ ∀ p ∈ X.pn ++ pins, p.1 ≠ b) :
    Inv X pins σ H' { s with heap := h', gens := g', drawn := d', toks := t' } := by
  obtain ⟨m, ⟨o, es, ep, ho, r⟩, _⟩ := id I.loc
  obtain ⟨sl, hL⟩ := u.any ho I.free fun z => (hch _ z).2.1 rfl
  exact I.step (ch := ch) hch (fun b o hL hb hc e n => u.keep b o e n (fun z => (List.mem_cons.mp (I.stkSub b z)).elim hL hb) hc) (fun b o _ _ hc e n => u.any e n hc) (fun b o hc e n => u.free b o e n hc) (fun b o hc e => u.there b o e hc) u.tups u.frzs u.tbls (fun m' hm => by
    obtain ⟨o', es', ep', ho', r'⟩ := hm
    rw [ho] at ho'; cases ho'
    exact ⟨_, es', ep', hL, r'⟩) hok hg
/-- an untracked record of ours (an iterator) has turned -/
theorem Inv.turned {t' : Nat} {it : Addr} (I : Inv X pins σ H s) (k : ∀ b o, b ≠ it → s.heap.get? b = some o → h'.get? b = some o) (hn : H it = none) (hL : it ≠ X.env.locals)
    (h1 : it ∈ X.ex ∨ X.s₀.heap.objs.size ≤ it) (h2 : ∀ x c, X.env.cells.lookup x = some c → c ≠ it) (h3 : ∀ p ∈ X.pn ++ pins, p.1 ≠ it) : Inv X pins σ H { s with heap := h', toks := t' } := by
  have nit : ∀ b u, H b = some u → b ≠ it := fun b u e z => by rw [z, hn] at e; cases e
  refine I.step (g' := s.gens) (d' := s.drawn) (ch := [it]) (fun b hb => ?_) (fun b o _ _ hc e _ => k b o (fun z => hc (by simp [z])) e) (fun b o _ _ hc e _ => ⟨o.slots, k b o (fun z => hc (by simp [z])) e⟩) (fun _ _ _ _ n => n)
    (fun b o hc e => ⟨o, k b o (fun z => hc (by simp [z])) e⟩) (fun _ _ e => e) (fun _ _ _ e => e) (fun b ps e => ⟨#[], by rw [e]; simp⟩) (fun m hm => ?_) (fun b u e => ?_) I.bare
  · have e : b = it := by simpa using hb
    subst e
    exact ⟨h1, hL, h2, h3⟩
  · obtain ⟨o, es, ep, ho, r⟩ := hm
    exact ⟨o, es, ep, k _ o (Ne.symm hL) ho, r⟩
  · refine (I.hok b u e).stay (fun c v hc q => k c v ?_ q) (fun _ q => q) fun _ _ q => q
    rcases hc with z | z
    · rw [z]; exact nit b u e
    · exact nit c _ z
theorem Inv.tok (I : Inv X pins σ H s) (t : Nat) : Inv X pins σ H { s with toks := t } := I.un (h' := s.heap) (t' := t) Un.refl I.hok
/-- all objects kept -/
theorem Inv.kept {t' : Nat} (I : Inv X pins σ H s) (k : ∀ b u, s.heap.get? b = some u → h'.get? b = some u) : Inv X pins σ H { s with heap := h', toks := t' } := I.un (Un.kept k) (I.hok.kept k)
/-- a new object laid and tracked -/
theorem Inv.laid {a : Addr} {o : HO} {t' : Nat} (I : Inv X pins σ H s) (k : ∀ b u, s.heap.get? b = some u → h'.get? b = some u) (hp : s.heap.objs.size ≤ a) (new : ObjOk X.prog X.w (upd H a o) h' a o) :
    Inv X pins σ (upd H a o) { s with heap := h', toks := t' } := I.un (Un.laid k hp (I.hok.fresh hp)) (I.hok.laid k hp new)
/-- an object written -/
theorem Inv.write {x e : Addr} {o : HO} {t' : Nat} (I : Inv X pins σ H s) (mu : Mut (H x)) (he : e = x ∨ H e = some (.own x)) (k : ∀ b u, b ≠ e → s.heap.get? b = some u → h'.get? b = some u) (heo : ∃ u, h'.get? e = some u)
    (new : ObjOk X.prog X.w (upd H x o) h' x o) : Inv X pins σ (upd H x o) { s with heap := h', toks := t' } := I.un (Un.write mu he k heo) (I.hok.write mu he k heo new)
theorem Inv.pins_of {pins' : List (Addr × Obj)} (I : Inv X pins σ H s) (h : ∀ p ∈ pins', s.heap.get? p.1 = some p.2 ∧ H p.1 = none ∧ p.1 ≠ X.env.locals ∧ p.1 ∉ X.fs ∧ ∀ v, p.2.data ≠ .cell v) : Inv X pins' σ H s :=
  ⟨I.ok, I.os, I.bare, I.base, I.loc, I.cell, I.free, I.freeC, fun p hp => (List.mem_append.mp hp).elim (fun z => I.pin p (List.mem_append_left _ z)) (h p), I.hok, I.len⟩

theorem nodup_ix {N : List Str} (hN : N.Nodup) {i j : Nat} {x : Str} (a : N[i]? = some x) (b : N[j]? = some x) : i = j := by
  obtain ⟨h1, e1⟩ := List.getElem?_eq_some_iff.mp a
  obtain ⟨h2, e2⟩ := List.getElem?_eq_some_iff.mp b
  exact (List.getElem_inj hN).mp (e1.trans e2.symm)

/-- a name is stored; what changed -/
theorem store_ok2 {M : Model} {A : Around} {E : Value → Shared → Prop} {i : Nat} {x : Str} {v : V} {u : Value} {Q : Unit → Shared → Prop} (I : Inv X pins σ H s) (hN : X.N.Nodup) (hi : X.N[i]? = some x) (hx : Loc X.env.scope x) (r : RelV v u)
    (h : ∀ s', Inv X pins (σ.set i (some v)) H s' → (∃ a, Heap.SameBut a s.heap s'.heap ∧ (a = X.env.locals ∨ X.env.cells.lookup x = some a)) → Q () s') (hf : X.fn x = true ∨ X.env.scope.names.lookup x = some .local := by first | exact .inl rfl | exact .inr rfl | assumption) : wpAny M A (storeName X.env x u) Q E s := by
  obtain ⟨m, hn, hl⟩ := id I.loc
  have hcls : (X.env.scope.kind == .class || (X.env.scope.kind == .module && X.env.locals != X.env.globals)) = false := by rw [I.ok.kind]; rfl
  have hiσ : i < σ.length := by rw [I.len]; exact (List.getElem?_eq_some_iff.mp hi).1
  have cne := I.cne
  have tracked : ∀ {a : Addr} {h' : Heap}, (∃ o, s.heap.get? a = some o ∧ H a = none) → Heap.SameBut a s.heap h' → HOk X.prog X.w H h' := fun {a h'} ha hs b ob e => by
    obtain ⟨_, _, hfree⟩ := ha
    refine (I.hok b ob e).stay (fun c w' hc q => (hs.2 c ?_).trans q) (fun _ q => q) fun _ _ q => q
    rintro rfl
    rcases hc with rfl | hc
    · rw [hfree] at e; cases e
    · rw [hfree] at hc; cases hc
  rcases hx with hk | hk
  · refine wpAny_storeName_local hk hn (fun h' hn' hs => ?_) hcls
    obtain ⟨oL, _, _, hoL, _⟩ := id hn
    refine h _ ⟨I.ok, I.os, I.bare, ⟨fun b o e n hb hx => ?_, fun b o e n hb hx => ?_, I.base.free, fun b o e hx => ?_, I.base.tups, I.base.frzs, I.base.tbls⟩, ⟨_, hn', fun j y v' e1 e2 e3 => ?_⟩, fun y c e => ?_, I.free, I.freeC, fun p hp => ?_, tracked ⟨oL, hoL, I.free⟩ hs, by simpa using I.len⟩ ⟨_, hs, .inl rfl⟩
    · exact (hs.2 b (Nat.ne_of_lt (Nat.lt_of_lt_of_le (Heap.lt_size e) I.ok.above))).trans (I.base.keep b o e n hb hx)
    · obtain ⟨sl, e1⟩ := I.base.slot b o e n hb hx
      exact ⟨sl, (hs.2 b (Nat.ne_of_lt (Nat.lt_of_lt_of_le (Heap.lt_size e) I.ok.above))).trans e1⟩
    · obtain ⟨o', e1⟩ := I.base.there b o e hx
      exact ⟨o', (hs.2 b (Nat.ne_of_lt (Nat.lt_of_lt_of_le (Heap.lt_size e) I.ok.above))).trans e1⟩
    · by_cases hj : j = i
      · subst hj
        rw [hi] at e1; cases e1
        rw [List.getElem?_set_self hiσ] at e2
        cases e2
        exact ⟨u, r, .inl ⟨hk, by simp⟩⟩
      · rw [List.getElem?_set_ne (Ne.symm hj)] at e2
        obtain ⟨u', r', q⟩ := hl j y v' e1 e2 e3
        refine ⟨u', r', ?_⟩
        rcases q with ⟨k, e⟩ | ⟨k, c, e, z⟩
        · refine .inl ⟨k, ?_⟩
          have : y ≠ x := fun e => hj (nodup_ix hN e1 (e ▸ hi))
          simp [this, e]
        · exact .inr ⟨k, c, e, z.sameBut hs (cne y c e)⟩
    · obtain ⟨w', z⟩ := I.cell y c e
      exact ⟨w', z.sameBut hs (cne y c e)⟩
    · obtain ⟨e, n, ne, nf, d⟩ := I.pin p hp
      exact ⟨(hs.2 p.1 ne).trans e, n, ne, nf, d⟩
  · have hfn : X.fn x = true := by
      rcases hf with z | z
      · exact z
      · rw [z] at hk; cases hk
    obtain ⟨c, hc⟩ := I.ok.has x (.inl hk)
    obtain ⟨w', z⟩ := I.cell x c hc
    refine wpAny_storeName_cell I.ok.kind hk hc z (fun h' hc' hs => ?_)
    obtain ⟨oc, hoc, hocd⟩ := id z
    refine h { s with heap := h' } ⟨I.ok, I.os, I.bare, ⟨fun b o e n hb hx => ?_, fun b o e n hb hx => ?_, I.base.free, fun b o e hx => ?_, I.base.tups, I.base.frzs, I.base.tbls⟩, ⟨m, hn.sameBut hs (Ne.symm (cne x c hc)), fun j y v' e1 e2 e3 => ?_⟩, fun y c' e => ?_, I.free, I.freeC, fun p hp => ?_, tracked ⟨oc, hoc, I.freeC x c hc⟩ hs, by simpa using I.len⟩ ⟨c, hs, .inr hc⟩
    · exact (hs.2 b (Nat.ne_of_lt (Nat.lt_of_lt_of_le (Heap.lt_size e) (I.ok.cab x c hfn hc)))).trans (I.base.keep b o e n hb hx)
    · obtain ⟨sl, e1⟩ := I.base.slot b o e n hb hx
      exact ⟨sl, (hs.2 b (Nat.ne_of_lt (Nat.lt_of_lt_of_le (Heap.lt_size e) (I.ok.cab x c hfn hc)))).trans e1⟩
    · obtain ⟨o', e1⟩ := I.base.there b o e hx
      exact ⟨o', (hs.2 b (Nat.ne_of_lt (Nat.lt_of_lt_of_le (Heap.lt_size e) (I.ok.cab x c hfn hc)))).trans e1⟩
    · by_cases hj : j = i
      · subst hj
        rw [hi] at e1; cases e1
        rw [List.getElem?_set_self hiσ] at e2
        cases e2
        exact ⟨u, r, .inr ⟨.inl hk, c, hc, hc'⟩⟩
      · rw [List.getElem?_set_ne (Ne.symm hj)] at e2
        obtain ⟨u', r', q⟩ := hl j y v' e1 e2 e3
        refine ⟨u', r', ?_⟩
        rcases q with q | ⟨k, c', e, z'⟩
        · exact .inl q
        · refine .inr ⟨k, c', e, z'.sameBut hs ?_⟩
          rintro rfl
          exact hj (nodup_ix hN e1 (I.ok.inj _ _ _ e hc ▸ hi))
    · by_cases hcc : c' = c
      · subst hcc; exact ⟨_, hc'⟩
      · obtain ⟨w2, z2⟩ := I.cell y c' e
        exact ⟨w2, z2.sameBut hs hcc⟩
    · obtain ⟨e, n, ne, nf, d⟩ := I.pin p hp
      refine ⟨(hs.2 p.1 ?_).trans e, n, ne, nf, d⟩
      intro q
      rw [q, hoc] at e
      have q' : oc = p.2 := Option.some.inj e
      exact d w' (by rw [← q']; exact hocd)
theorem store_ok {M : Model} {A : Around} {E : Value → Shared → Prop} {i : Nat} {x : Str} {v : V} {u : Value} {Q : Unit → Shared → Prop} (I : Inv X pins σ H s) (hN : X.N.Nodup) (hi : X.N[i]? = some x) (hx : Loc X.env.scope x) (r : RelV v u)
    (h : ∀ s', Inv X pins (σ.set i (some v)) H s' → Q () s') (hf : X.fn x = true ∨ X.env.scope.names.lookup x = some .local := by first | exact .inl rfl | exact .inr rfl | assumption) : wpAny M A (storeName X.env x u) Q E s :=
  store_ok2 I hN hi hx r (fun s' I' _ => h s' I') hf
/-- behind a call or a block, the state as it is -/
theorem Inv.call' {s' : Shared} {ch : List Addr} (I : Inv X pins σ H s) (ho : s'.os = s.os) (u : Un (frs X.stack) ch H H' s.heap s'.heap) (hok : HOk X.prog X.w H' s'.heap) (hg : AllBare s'.gens)
    (hch : ∀ b ∈ ch, (b ∈ X.ex ∨ X.s₀.heap.objs.size ≤ b) ∧ b ≠ X.env.locals ∧ (∀ x c, X.env.cells.lookup x = some c → c ≠ b) ∧ ∀ p ∈ X.pn ++ pins, p.1 ≠ b) : Inv X pins σ H' s' := by
  obtain ⟨h', g', d', t', o'⟩ := s'
  have e : o' = s.os := ho
  subst e
  exact I.call (g' := g') (t' := t') (d' := d') u hok hg hch
end

/-! ### the judgements -/
/-- an exception: its class, its own dict's address (where it has one), the abstract heap behind it -/
abbrev XK := Value → Option Addr → Hp → Prop
abbrev St := List (Option V)
abbrev VK := V → Hp → Prop
/-- an expression's reading; a test's; an argument list's -/
abbrev TE := St → Hp → VK → Prop
abbrev TT := St → Hp → (Bool → Hp → Prop) → Prop
abbrev TA := St → Hp → (List V → Hp → Prop) → Prop
/-- what is wanted behind a statement -/
structure Ends where
  nx : St → Hp → Prop
  rt : VK
  bk : St → Hp → Prop := fun _ _ => False
  ct : St → Hp → Prop := fun _ _ => False
abbrev TS := Ends → St → Hp → Prop

def EP (X : Cx) (pins : List (Addr × Obj)) (σ : St) (Q : VK) (u : Value) (s' : Shared) : Prop := ∃ v H', Inv X pins σ H' s' ∧ RelV v u ∧ Q v H'
def TP (X : Cx) (pins : List (Addr × Obj)) (σ : St) (Q : Bool → Hp → Prop) (b : Bool) (s' : Shared) : Prop := ∃ H', Inv X pins σ H' s' ∧ Q b H'
def AP (X : Cx) (pins : List (Addr × Obj)) (σ : St) (Q : List V → Hp → Prop) (us : List Value) (s' : Shared) : Prop := ∃ vs H', Inv X pins σ H' s' ∧ Vals vs us ∧ Q vs H'
def SP (X : Cx) (pins : List (Addr × Obj)) (D : Ends) (f : Flow) (s' : Shared) : Prop :=
  match f with
  | .next => ∃ σ' H', Inv X pins σ' H' s' ∧ D.nx σ' H'
  | .brk => ∃ σ' H', Inv X pins σ' H' s' ∧ D.bk σ' H'
  | .cont => ∃ σ' H', Inv X pins σ' H' s' ∧ D.ct σ' H'
  | .ret u => ∃ v σ' H', Inv X pins σ' H' s' ∧ RelV v u ∧ D.rt v H'

def PE (X : Cx) (e : Expr) (t : TE) : Prop :=
  ∀ (pins : List (Addr × Obj)) (s : Shared) (σ : St) (H : Hp) (Q : VK), Inv X pins σ H s → t σ H Q → wpAny (model X.prog X.w) X.A (eval e X.env) (EP X pins σ Q) X.xe s
def PT (X : Cx) (e : Expr) (t : TT) : Prop :=
  ∀ (pins : List (Addr × Obj)) (s : Shared) (σ : St) (H : Hp) (Q : Bool → Hp → Prop), Inv X pins σ H s → t σ H Q → wpAny (model X.prog X.w) X.A (isTrue e X.env (eval e X.env)) (TP X pins σ Q) X.xe s
/-- a test whatever its 'whole' is (and, or) -/
def PW (X : Cx) (e : Expr) (t : TT) : Prop :=
  ∀ (whole : Sem Value) (pins : List (Addr × Obj)) (s : Shared) (σ : St) (H : Hp) (Q : Bool → Hp → Prop), Inv X pins σ H s → t σ H Q → wpAny (model X.prog X.w) X.A (isTrue e X.env whole) (TP X pins σ Q) X.xe s
theorem PW.pt {X : Cx} {e : Expr} {t : TT} (h : PW X e t) : PT X e t := h _
/-- an argument list (no star), from the left -/
def PA (X : Cx) (es : List Expr) (t : TA) : Prop :=
  ∀ (pos : Pos) (pins : List (Addr × Obj)) (s : Shared) (σ : St) (H : Hp) (Q : List V → Hp → Prop), Inv X pins σ H s → t σ H Q → wpAny (model X.prog X.w) X.A (spliced (backTo pos (starEach es X.env))) (AP X pins σ Q) X.xe s
def PS (X : Cx) (st : Stmt) (t : TS) : Prop :=
  ∀ (pins : List (Addr × Obj)) (s : Shared) (σ : St) (H : Hp) (D : Ends), Inv X pins σ H s → t D σ H → wpAny (model X.prog X.w) X.A (exec st X.env) (SP X pins D) X.xe s
def PSs (X : Cx) (st : List Stmt) (t : TS) : Prop :=
  ∀ (pins : List (Addr × Obj)) (s : Shared) (σ : St) (H : Hp) (D : Ends), Inv X pins σ H s → t D σ H → wpAny (model X.prog X.w) X.A (execs st X.env) (SP X pins D) X.xe s
/-- weaken the end -/
theorem thn {α : Type} {t : Sem α} {Q Q' : α → Shared → Prop} {M : Model} {A : Around} {E : Value → Shared → Prop} {s : Shared} (h : wpAny M A t Q E s) (hQ : ∀ a s, Q a s → Q' a s) : wpAny M A t Q' E s := wpAny_mono h hQ fun _ _ x => x
end L2

namespace L2
open PySem PySem.Spec PyProof.Rows
section
variable {X : Cx}

/-! ### names and constants -/
def tVar (i : Nat) : TE := fun σ H Q => ∃ v, σ[i]? = some (some v) ∧ Q v H
def tC (v : V) : TE := fun _ H Q => Q v H
theorem pe_var {i : Nat} {x : Str} {pos : Pos} (hN : X.N[i]? = some x) (hv : Vis X.env.scope x) (hd : (x == ("__debug__" : Str)) = false := by decide) (hcd : (x == ("__classdict__" : Str)) = false := by decide) : PE X (.Name x pos) (tVar i) := by
  intro pins s σ H Q I h
  obtain ⟨v, e, h⟩ := h
  obtain ⟨m, hn, hl⟩ := I.loc
  obtain ⟨u, r, l⟩ := hl i x v hN e hv
  have fin : EP X pins σ Q u s := ⟨v, H, I, r, h⟩
  rcases l with ⟨hk, hm⟩ | ⟨hk, c, hc, hcell⟩
  · exact wpAny_Name (wpAny_loadName_local I.ok.kind hk hn hm fin) hd
  · rcases hk with hk | hk
    · exact wpAny_Name (wpAny_loadName_cell I.ok.kind hk hc hcell fin) hd
    · exact wpAny_Name (wpAny_loadName_free I.ok.kind hk hc hcell fin hcd) hd
theorem pe_int {i j pos} : PE X (.Constant (.int i) j pos) (tC (.int i)) := fun _ _ _ H _ I h => wpAny_Constant_int ⟨.int i, H, I.tok _, ⟨_, rfl⟩, h⟩
theorem pe_bl {b j pos} : PE X (.Constant (.bool b) j pos) (tC (.bl b)) := fun _ _ _ H _ I h => Constant_bool ⟨.bl b, H, I, rfl, h⟩
theorem pe_non {j pos} : PE X (.Constant .none j pos) (tC .non) := fun _ _ _ H _ I h => Constant_none ⟨.non, H, I, rfl, h⟩
theorem pe_str {x j pos} : PE X (.Constant (.str x) j pos) (tC (.str x)) := fun _ _ _ H _ I h => Calls.Constant_str ⟨.str x, H, I.tok _, ⟨_, rfl⟩, h⟩

/-- a global name of the def -/
def Gl (X : Cx) (x : Str) : Prop := X.env.kindOf x = some .globalImplicit
theorem ld_glob {E : Value → Shared → Prop} {pins : List (Addr × Obj)} {s : Shared} {σ : St} {H : Hp} {x : Str} {u : Value} {pos : Pos} {Q : Value → Shared → Prop} (I : Inv X pins σ H s) (hg : Gl X x) (hm : X.mg x = some u) (h : Q u s)
    (hd : (x == ("__debug__" : Str)) = false := by decide) : wpAny (model X.prog X.w) X.A (eval (.Name x pos) X.env) Q E s :=
  Calls.Name_function_global I.ok.kind hg (Calls.loadGlobal_global (by rw [I.ok.glob]; exact I.mod.glob.keeps I.bk) hm h) hd
theorem ld_blt {E : Value → Shared → Prop} {pins : List (Addr × Obj)} {s : Shared} {σ : St} {H : Hp} {x : Str} {u : Value} {pos : Pos} {Q : Value → Shared → Prop} (I : Inv X pins σ H s) (hg : Gl X x) (hm : X.mg x = none) (hv : bootBuiltins x = some u) (h : Q u s)
    (hn : x ≠ "__name__" := by decide) (hd : (x == ("__debug__" : Str)) = false := by decide) : wpAny (model X.prog X.w) X.A (eval (.Name x pos) X.env) Q E s := by
  obtain ⟨mb, h1, h2⟩ := I.mod.blt
  exact Calls.Name_function_global I.ok.kind hg (Calls.loadGlobal_builtin (by rw [I.ok.glob]; exact I.mod.glob.keeps I.bk) hm (by rw [I.ok.blt]; exact h1.keeps I.bk) ((h2 x hn).trans hv) h) hd
/-- a module's constant, a class, a function, as a value -/
theorem pe_glob {x : Str} {v : V} {u : Value} {pos : Pos} (hg : Gl X x) (hm : X.mg x = some u) (r : RelV v u) (hd : (x == ("__debug__" : Str)) = false := by decide) : PE X (.Name x pos) (tC v) :=
  fun _ _ _ H _ I h => ld_glob I hg hm ⟨v, H, I, r, h⟩ hd
theorem pe_bltn {x : Str} {v : V} {u : Value} {pos : Pos} (hg : Gl X x) (hm : X.mg x = none) (hv : bootBuiltins x = some u) (r : RelV v u) (hn : x ≠ "__name__" := by decide) (hd : (x == ("__debug__" : Str)) = false := by decide) : PE X (.Name x pos) (tC v) :=
  fun _ _ _ H _ I h => ld_blt I hg hm hv ⟨v, H, I, r, h⟩ hn hd

/-! ### arithmetic -/
variable {a b : Expr} {ta tb : TE} {pos : Pos}
/-! ### comparisons -/
theorem RelV.none_iff {x : V} {v : Value} (r : RelV x v) : (v == Value.none) = decide (x = .non) := by
  cases x with
  | non => cases r; rfl
  | bl _ => cases r; rfl
  | int _ => obtain ⟨t, rfl⟩ := r; rfl
  | str _ => obtain ⟨t, rfl⟩ := r; rfl
  | byt _ => obtain ⟨t, rfl⟩ := r; rfl
  | flt _ => obtain ⟨t, rfl⟩ := r; rfl
  | ref _ => cases r; rfl
  | ty _ => cases r; rfl
/-! ### and, or, not -/
variable {tA tB' : TT} {rest : List Expr}
def tOr (t u : TT) : TT := fun σ H Q => t σ H fun c H1 => if c = true then Q true H1 else u σ H1 Q
def tNot (t : TT) : TT := fun σ H Q => t σ H fun c H1 => Q (!c) H1
theorem pw_or1 (ha : PT X a tA) : PW X (.BoolOp .Or [a] pos) tA := by
  intro wh pins s σ H Q I h
  refine isTrue_or (thn (ha pins s σ H Q I h) fun c s1 e => ?_)
  cases c with
  | false => exact isTrue_or_nil e
  | true => exact e
theorem pw_or (ha : PT X a tA) (hb : PW X (.BoolOp .Or (b :: rest) pos) tB') : PW X (.BoolOp .Or (a :: b :: rest) pos) (tOr tA tB') := by
  intro wh pins s σ H Q I h
  refine isTrue_or (thn (ha pins s σ H _ I h) fun c s1 ⟨H1, I1, q1⟩ => ?_)
  cases c with
  | true => exact ⟨H1, I1, q1⟩
  | false => exact hb wh pins s1 σ H1 Q I1 q1
theorem pt_not (ha : PT X a tA) : PT X (.UnaryOp .Not a pos) (tNot tA) := by
  intro pins s σ H Q I h
  exact isTrue_not (ha pins s σ H (fun c H1 => Q (!c) H1) I h)
/-- .. as values (bools) -/
def tAndV (ta tb : TE) : TE := fun σ H Q => ta σ H fun x H1 => ∃ c, x = .bl c ∧ if c = true then tb σ H1 Q else Q (.bl false) H1
def tOrV (ta tb : TE) : TE := fun σ H Q => ta σ H fun x H1 => ∃ c, x = .bl c ∧ if c = true then Q (.bl true) H1 else tb σ H1 Q
def tNotV (ta : TE) : TE := fun σ H Q => ta σ H fun x H1 => ∃ c, x = .bl c ∧ Q (.bl (!c)) H1
theorem pe_one {op} {t : TE} (h : PE X a t) : PE X (.BoolOp op [a] pos) t := fun pins s σ H Q I hw => BoolOp_one (h pins s σ H Q I hw)
theorem pe_and (ha : PE X a ta) (hb : PE X (.BoolOp .And (b :: rest) pos) tb) : PE X (.BoolOp .And (a :: b :: rest) pos) (tAndV ta tb) := by
  intro pins s σ H Q I h
  refine BoolOp_and (thn (ha pins s σ H _ I h) fun v s1 ⟨x, H1, I1, r1, q1⟩ => ?_)
  obtain ⟨c, rfl, q1⟩ := q1
  cases r1
  refine wpAny_truthy_bool ?_
  cases c with
  | true => exact hb pins s1 σ H1 Q I1 q1
  | false => exact ⟨.bl false, H1, I1, rfl, q1⟩
theorem pe_or (ha : PE X a ta) (hb : PE X (.BoolOp .Or (b :: rest) pos) tb) : PE X (.BoolOp .Or (a :: b :: rest) pos) (tOrV ta tb) := by
  intro pins s σ H Q I h
  refine BoolOp_or (thn (ha pins s σ H _ I h) fun v s1 ⟨x, H1, I1, r1, q1⟩ => ?_)
  obtain ⟨c, rfl, q1⟩ := q1
  cases r1
  refine wpAny_truthy_bool ?_
  cases c with
  | false => exact hb pins s1 σ H1 Q I1 q1
  | true => exact ⟨.bl true, H1, I1, rfl, q1⟩
theorem pe_not (ha : PE X a ta) : PE X (.UnaryOp .Not a pos) (tNotV ta) := by
  intro pins s σ H Q I h
  refine UnaryOp_ (thn (ha pins s σ H _ I h) fun v s1 ⟨x, H1, I1, r1, q1⟩ => ?_)
  obtain ⟨c, rfl, q1⟩ := q1
  cases r1
  exact not_of (wpAny_truthy_bool ⟨.bl (!c), H1, I1, rfl, q1⟩)
/-- a if t else b -/
def tIf (t : TT) (ta tb : TE) : TE := fun σ H Q => t σ H fun c H1 => if c = true then ta σ H1 Q else tb σ H1 Q
theorem pe_ifExp {c : Expr} (hc : PT X c tA) (ha : PE X a ta) (hb : PE X b tb) : PE X (.IfExp c a b pos) (tIf tA ta tb) := by
  intro pins s σ H Q I h
  refine wpAny_IfExp (thn (hc pins s σ H _ I h) fun d s1 ⟨H1, I1, q1⟩ => ?_)
  cases d with
  | true => exact ha pins s1 σ H1 Q I1 q1
  | false => exact hb pins s1 σ H1 Q I1 q1
end
end L2

namespace L2
open PySem PySem.Spec PyProof.Rows

/-! ### a list, a tuple that is read: tracked, frozen, or an object of the module -/
def SqL (K : PySem.W.Frag) (H : Hp) (a : Addr) (xs : List V) : Prop :=
  Rd H a (.lst xs) ∨
    ∃ (o : Obj) (its : Array Value) (n : Nat), K.lookup a = some o ∧ o.cls = .type "list" ∧ o.dict = none ∧ o.data = .seq its n ∧ its.size ≤ sizeLine ∧ Vals xs its.toList
def SqT (K : PySem.W.Frag) (H : Hp) (a : Addr) (xs : List V) : Prop :=
  Rd H a (.tup xs) ∨
    ∃ (o : Obj) (its : Array Value) (n : Nat), K.lookup a = some o ∧ o.cls = .type "tuple" ∧ o.data = .seq its n ∧ its.size ≤ sizeLine ∧ Vals xs its.toList ∧ o.dict = none
def absV : Value → Option V
  | .none => some .non
  | .bool b => some (.bl b)
  | .int i _ => some (.int i)
  | .str x _ => some (.str x)
  | .bytes b _ => some (.byt b)
  | .float b _ => some (.flt b)
  | .ref a => some (.ref a)
  | .type n => some (.ty n)
  | _ => none
theorem RelV.abs {x : V} {u : Value} (r : RelV x u) : absV u = some x := by
  cases x with
  | non => cases r; rfl
  | bl _ => cases r; rfl
  | int _ => obtain ⟨t, rfl⟩ := r; rfl
  | str _ => obtain ⟨t, rfl⟩ := r; rfl
  | byt _ => obtain ⟨t, rfl⟩ := r; rfl
  | flt _ => obtain ⟨t, rfl⟩ := r; rfl
  | ref _ => cases r; rfl
  | ty _ => cases r; rfl
theorem RelV.inj {x y : V} {u : Value} (r : RelV x u) (q : RelV y u) : x = y := Option.some.inj (r.abs.symm.trans q.abs)
theorem Vals.inj : ∀ {xs ys : List V} {us : List Value}, Vals xs us → Vals ys us → xs = ys
  | _, _, _, .nil, .nil => rfl
  | _, _, _, .cons r t, .cons r' t' => by rw [r.inj r', Vals.inj t t']
section
variable {X : Cx} {pins : List (Addr × Obj)} {σ : St} {H : Hp} {s : Shared} {a : Addr} {xs ys : List V}
theorem SqL.of {K : PySem.W.Frag} (h : H a = some (.lst xs)) : SqL K H a xs := .inl (.inl h)
theorem SqT.of {K : PySem.W.Frag} (h : H a = some (.tup xs)) : SqT K H a xs := .inl (.inl h)
theorem Inv.list (I : Inv X pins σ H s) (h : SqL X.K H a xs) : ∃ its : List Value, Vals xs its ∧ PlainL s.heap a its.toArray ∧ xs.length ≤ sizeLine := by
  rcases h with h | ⟨o, its, n, hk, hc, hd, hs, hz, r⟩
  · obtain ⟨z, its, n, r, e⟩ := h.ok I.hok
    exact ⟨its, r, ⟨_, n, e, rfl, rfl, rfl⟩, z⟩
  · refine ⟨its.toList, r, ⟨o, n, I.kIn a o hk, hc, hd, by simpa using hs⟩, ?_⟩
    have e := r.length
    simp only [Array.length_toList] at e
    omega
theorem Inv.tuple (I : Inv X pins σ H s) (h : SqT X.K H a xs) : ∃ its : List Value, Vals xs its ∧ IsTup s.heap a its.toArray ∧ xs.length ≤ sizeLine := by
  rcases h with h | ⟨o, its, n, hk, hc, hs, hz, r, _⟩
  · obtain ⟨z, its, r, p, _⟩ := h.ok I.hok
    exact ⟨its, r, p, z⟩
  · refine ⟨its.toList, r, ⟨o, I.kIn a o hk, hc, n, by simpa using hs⟩, ?_⟩
    have e := r.length
    simp only [Array.length_toList] at e
    omega
theorem Inv.tupleN (I : Inv X pins σ H s) (h : SqT X.K H a xs) : (∃ o, s.heap.get? a = some o ∧ o.cls = .type "tuple") ∧ ∃ o, s.heap.get? a = some o ∧ o.dict = none := by
  rcases h with h | ⟨o, its, n, hk, hc, hs, hz, r, hd⟩
  · obtain ⟨z, its, r, ⟨ob, e, c, _⟩, o2, e2, d2⟩ := h.ok I.hok
    exact ⟨⟨ob, e, c⟩, o2, e2, d2⟩
  · exact ⟨⟨o, I.kIn a o hk, hc⟩, o, I.kIn a o hk, hd⟩
theorem Inv.list_inj (I : Inv X pins σ H s) (h : SqL X.K H a xs) (h' : SqL X.K H a ys) : xs = ys := by
  obtain ⟨its, r, ⟨o, n, e, _, _, d⟩, _⟩ := I.list h
  obtain ⟨its', r', ⟨o', n', e', _, _, d'⟩, _⟩ := I.list h'
  rw [e] at e'; cases e'
  rw [d] at d'
  injection d' with d1 _
  have : its = its' := by simpa using congrArg Array.toList d1
  subst this
  exact r.inj r'
theorem Inv.tuple_inj (I : Inv X pins σ H s) (h : SqT X.K H a xs) (h' : SqT X.K H a ys) : xs = ys := by
  obtain ⟨its, r, ⟨o, e, _, n, d⟩, _⟩ := I.tuple h
  obtain ⟨its', r', ⟨o', e', _, n', d'⟩, _⟩ := I.tuple h'
  rw [e] at e'; cases e'
  rw [d] at d'
  injection d' with d1 _
  have : its = its' := by simpa using congrArg Array.toList d1
  subst this
  exact r.inj r'
end

/-! ### another wish about exceptions -/
abbrev Cx.wish (X : Cx) (E : Value → Shared → Prop) : Cx := { X with xe := E }
/-- no exception leaves -/
abbrev Cx.nox (X : Cx) : Cx := X.wish fun _ _ => False
theorem Cx.Ok.wish {X : Cx} (ok : X.Ok) (E : Value → Shared → Prop) : (X.wish E).Ok :=
  ⟨ok.mod, ok.kind, ok.glob, ok.blt, ok.above, ok.inj, ok.has, ok.cab, ok.hd, ok.frames, ok.stk, ok.exf, ok.bs, ok.bsz, ok.noex, ok.exfs, ok.funs, ok.frf⟩
theorem Cx.Ok.unwish {X : Cx} {E : Value → Shared → Prop} (ok : (X.wish E).Ok) : X.Ok :=
  ⟨ok.mod, ok.kind, ok.glob, ok.blt, ok.above, ok.inj, ok.has, ok.cab, ok.hd, ok.frames, ok.stk, ok.exf, ok.bs, ok.bsz, ok.noex, ok.exfs, ok.funs, ok.frf⟩
section
variable {X : Cx} {pins : List (Addr × Obj)} {σ : St} {H : Hp} {s : Shared} {E : Value → Shared → Prop}
theorem Inv.wish (I : Inv X pins σ H s) (E : Value → Shared → Prop) : Inv (X.wish E) pins σ H s := ⟨I.ok.wish E, I.os, I.bare, I.base, I.loc, I.cell, I.free, I.freeC, I.pin, I.hok, I.len⟩
theorem Inv.unwish (I : Inv (X.wish E) pins σ H s) : Inv X pins σ H s := ⟨I.ok.unwish, I.os, I.bare, I.base, I.loc, I.cell, I.free, I.freeC, I.pin, I.hok, I.len⟩
theorem SP.unwish {D : Ends} {f : Flow} {s' : Shared} (h : SP (X.wish E) pins D f s') : SP X pins D f s' := by
  cases f with
  | next => obtain ⟨σ', H', I, q⟩ := h; exact ⟨σ', H', I.unwish, q⟩
  | brk => obtain ⟨σ', H', I, q⟩ := h; exact ⟨σ', H', I.unwish, q⟩
  | cont => obtain ⟨σ', H', I, q⟩ := h; exact ⟨σ', H', I.unwish, q⟩
  | ret u => obtain ⟨v, σ', H', I, r, q⟩ := h; exact ⟨v, σ', H', I.unwish, r, q⟩
theorem PE.nox {e : Expr} {t : TE} (h : PE X.nox e t) : PE X e t := fun pins s σ H Q I hw =>
  wpAny_mono (h pins s σ H Q (I.wish _) hw) (fun _ _ ⟨v, H', I', r, q⟩ => ⟨v, H', I'.unwish, r, q⟩) fun _ _ z => False.elim z
theorem PT.nox {e : Expr} {t : TT} (h : PT X.nox e t) : PT X e t := fun pins s σ H Q I hw =>
  wpAny_mono (h pins s σ H Q (I.wish _) hw) (fun _ _ ⟨H', I', q⟩ => ⟨H', I'.unwish, q⟩) fun _ _ z => False.elim z
theorem PSs.nox {st : List Stmt} {t : TS} (h : PSs X.nox st t) : PSs X st t := fun pins s σ H D I hw =>
  wpAny_mono (h pins s σ H D (I.wish _) hw) (fun _ _ q => q.unwish) fun _ _ z => False.elim z
end

/-! ### blocks and small statements -/
section
variable {X : Cx} {st : Stmt} {rest : List Stmt} {t u : TS} {e : Expr} {te : TE} {pos : Pos}
def tNext : TS := fun D σ H => D.nx σ H
def tSeq (t u : TS) : TS := fun D σ H => t { D with nx := u D } σ H
theorem pss_nil : PSs X [] tNext := fun _ _ σ H _ I h => wpAny_execs_nil ⟨σ, H, I, h⟩
theorem pss_cons (h1 : PS X st t) (h2 : PSs X rest u) : PSs X (st :: rest) (tSeq t u) := by
  intro pins s σ H D I h
  refine wpAny_execs_cons (thn (h1 pins s σ H { D with nx := u D } I h) fun f s1 q => ?_)
  cases f with
  | next =>
    obtain ⟨σ', H', I', q⟩ := q
    exact h2 pins s1 σ' H' D I' q
  | ret v => exact q
  | brk => exact q
  | cont => exact q
theorem pss_one (h1 : PS X st t) : PSs X [st] t := by
  intro pins s σ H D I h
  refine wpAny_execs_cons (thn (h1 pins s σ H D I h) fun f s1 q => ?_)
  cases f with
  | next => exact wpAny_execs_nil q
  | ret v => exact q
  | brk => exact q
  | cont => exact q
/-- in a def's body nothing is shown -/
theorem Inv.quiet {pins : List (Addr × Obj)} {σ : St} {H : Hp} {s : Shared} (I : Inv X pins σ H s) : interactive X.env = false := by simp [interactive, I.ok.kind]
/-- an expression whose value is dropped -/
def tDrop (te : TE) : TS := fun D σ H => te σ H fun _ H1 => D.nx σ H1
theorem ps_expr (he : PE X e te) (hs : swapsWith e none pos.line X.env = pure false := by rfl) : PS X (.Expr e pos) (tDrop te) := by
  intro pins s σ H D I h
  exact wpAny_Expr_any (thn (he pins s σ H _ I h) fun v s1 ⟨x, H1, I1, r1, q1⟩ => ⟨σ, H1, I1, q1⟩) I.quiet hs
def tRet (te : TE) : TS := fun D σ H => te σ H D.rt
theorem ps_ret (he : PE X e te) : PS X (.Return (some e) pos) (tRet te) := by
  intro pins s σ H D I h
  exact wpAny_Return_some (thn (he pins s σ H _ I h) fun v s1 ⟨x, H1, I1, r1, q1⟩ => ⟨x, σ, H1, I1, r1, q1⟩)
def tIfS (c : TT) (t u : TS) : TS := fun D σ H => c σ H fun b H1 => if b = true then t D σ H1 else u D σ H1
theorem ps_if {c : Expr} {a b : List Stmt} {tc : TT} (hc : PT X c tc) (ha : PSs X a t) (hb : PSs X b u) : PS X (.If c a b pos) (tIfS tc t u) := by
  intro pins s σ H D I h
  refine wpAny_If (thn (hc pins s σ H _ I h) fun d s1 ⟨H1, I1, q1⟩ => ?_)
  cases d with
  | true => exact ha pins s1 σ H1 D I1 q1
  | false => exact hb pins s1 σ H1 D I1 q1
end

/-! ### targets -/
abbrev TG := V → St → Hp → (St → Hp → Prop) → Prop
abbrev TGs := List V → St → Hp → (St → Hp → Prop) → Prop
def PG (X : Cx) (target : Expr) (t : TG) : Prop :=
  ∀ (pins : List (Addr × Obj)) (s : Shared) (σ : St) (H : Hp) (v : V) (u : Value) (Q : St → Hp → Prop), Inv X pins σ H s → RelV v u → t v σ H Q →
    wpAny (model X.prog X.w) X.A (assign target X.env u) (fun _ s' => ∃ σ' H', Inv X pins σ' H' s' ∧ Q σ' H') X.xe s
/-- several targets, one after another -/
def PGs (X : Cx) (ts : List Expr) (t : TGs) : Prop :=
  ∀ (pins : List (Addr × Obj)) (s : Shared) (σ : St) (H : Hp) (vs : List V) (us : List Value) (Q : St → Hp → Prop), Inv X pins σ H s → Vals vs us → t vs σ H Q →
    wpAny (model X.prog X.w) X.A (assignInOrder ((assignEach ts X.env).map (·.2)) us) (fun _ s' => ∃ σ' H', Inv X pins σ' H' s' ∧ Q σ' H') X.xe s
/-- o[i] = v, by values -/
abbrev TSet := V → V → V → Hp → (Hp → Prop) → Prop
def PSet (X : Cx) (t : TSet) : Prop :=
  ∀ (pins : List (Addr × Obj)) (s : Shared) (σ : St) (H : Hp) (o i v : V) (ov iv u : Value) (Q : Hp → Prop), Inv X pins σ H s → RelV o ov → RelV i iv → RelV v u → t o i v H Q →
    wpAny (model X.prog X.w) X.A (setItem ov iv u) (fun _ s' => ∃ H', Inv X pins σ H' s' ∧ Q H') X.xe s
section
variable {X : Cx} {pos : Pos}
def gName (i : Nat) : TG := fun v σ H Q => Q (σ.set i (some v)) H
theorem pg_name {i : Nat} {x : Str} (hN : X.N.Nodup) (hi : X.N[i]? = some x) (hx : Loc X.env.scope x) (hf : X.fn x = true ∨ X.env.scope.names.lookup x = some .local := by first | exact .inl rfl | exact .inr rfl | assumption) : PG X (.Name x pos) (gName i) := by
  intro pins s σ H v u Q I r h
  exact wpAny_assign_Name (store_ok I hN hi hx r (fun s' I' => ⟨_, H, I', h⟩) hf)
def gNil : TGs := fun vs σ H Q => vs = [] ∧ Q σ H
def gCons (t : TG) (u : TGs) : TGs := fun vs σ H Q => ∃ v r, vs = v :: r ∧ t v σ H fun σ' H' => u r σ' H' Q
theorem pgs_nil : PGs X [] gNil := by
  intro pins s σ H vs us Q I r h
  obtain ⟨e, h⟩ := h
  subst e
  cases r
  exact assignInOrder_nil ⟨σ, H, I, h⟩
theorem pgs_cons {e : Expr} {es : List Expr} {t : TG} {u : TGs} (h1 : PG X e t) (h2 : PGs X es u)
    (hs : (assignEach (e :: es) X.env).map (·.2) = assign e X.env :: (assignEach es X.env).map (·.2) := by rfl) : PGs X (e :: es) (gCons t u) := by
  intro pins s σ H vs us Q I r h
  obtain ⟨v, vr, e1, h⟩ := h
  subst e1
  cases r with
  | cons r rr =>
    rw [hs]
    refine assignInOrder_cons (thn (h1 pins s σ H _ _ _ I r h) fun _ s1 ⟨σ1, H1, I1, q1⟩ => ?_)
    exact h2 pins s1 σ1 H1 _ _ Q I1 rr q1
/-- (a, b, ..) = a tuple of that length -/
def gTup (K : PySem.W.Frag) (n : Nat) (t : TGs) : TG := fun v σ H Q => ∃ a xs, v = .ref a ∧ SqT K H a xs ∧ xs.length = n ∧ t xs σ H Q
theorem pg_tup {es : List Expr} {k : Nat} {t : TGs} {n : Nat} (hc : X.calm = true) (h : PGs X es t)
    (hn : (assignEach es X.env).length = n := by rfl) (hst : (assignEach es X.env).findIdx? (·.1) = none := by rfl) : PG X (.Tuple es k pos) (gTup X.K n t) := by
  intro pins s σ H v u Q I r hw
  obtain ⟨a, xs, e1, hq, hl, hw⟩ := hw
  subst e1
  cases r
  obtain ⟨its, rv, ht, hz⟩ := I.tuple hq
  refine assign_Tuple_tuple (I.ok.hd hc) ht (by simp [hn, ← hl, rv.length]) hst fun h' hx => ?_
  have I1 : Inv X pins σ H { s with heap := h' } := I.kept (t' := s.toks) fun b o e => hx b o (Nat.ne_of_lt (Heap.lt_size e)) e
  exact h pins _ σ H xs _ Q I1 (by simpa using rv) hw
/-- o[i] = .. -/
def gSub (to ti : TE) (t : TSet) : TG := fun v σ H Q => to σ H fun o H1 => ti σ H1 fun i H2 => t o i v H2 fun H3 => Q σ H3
theorem pg_sub {o i : Expr} {to ti : TE} {t : TSet} (ho : PE X o to) (hi : PE X i ti) (hs : PSet X t)
    (ha : ∀ v, assign (.Subscript o i pos) X.env v = (do
      let ov ← holding [v] (eval o X.env)
      let iv ← holding [v, ov] (eval i X.env)
      standAt pos
      holding [v, ov, iv] (setItem ov iv v)
      release [v, ov, iv] []) := by intro _; rfl) : PG X (.Subscript o i pos) (gSub to ti t) := by
  intro pins s σ H v u Q I r h
  rw [ha]
  refine wpAny_bind (wpAny_holding (thn (ho pins s σ H _ I h) fun ov s1 ⟨x, H1, I1, r1, q1⟩ => ?_))
  refine wpAny_bind (wpAny_holding (thn (hi pins s1 σ H1 _ I1 q1) fun iv s2 ⟨y, H2, I2, r2, q2⟩ => ?_))
  refine wpAny_bind (wpAny_standAt (wpAny_bind (wpAny_holding (thn (hs pins s2 σ H2 x y v ov iv u _ I2 r1 r2 r q2) fun _ s3 ⟨H3, I3, q3⟩ => ?_))))
  exact wpAny_release ⟨σ, H3, I3, q3⟩
/-- target = value -/
def tAsg (te : TE) (g : TG) : TS := fun D σ H => te σ H fun x H1 => g x σ H1 D.nx
theorem ps_asg {tg e : Expr} {te : TE} {g : TG} (he : PE X e te) (hg : PG X tg g) (hs : swapsWithSole [tg] e pos.line X.env = pure false := by rfl) (hw : swappedStores [tg] e X.env = pure none := by rfl)
    (h1 : (assignEach [tg] X.env).map (·.2) = [assign tg X.env] := by rfl) : PS X (.Assign [tg] e pos) (tAsg te g) := by
  intro pins s σ H D I h
  refine wpAny_Assign_stores (thn (he pins s σ H _ I h) fun v s1 ⟨x, H1, I1, r1, q1⟩ => ?_) hs hw
  rw [h1]
  exact thn (hg pins s1 σ H1 x v _ I1 r1 q1) fun _ s2 q => q
/-- name = value -/
theorem ps_set {i : Nat} {x : Str} {e : Expr} {te : TE} {pos' : Pos} (hN : X.N.Nodup) (hi : X.N[i]? = some x) (hx : Loc X.env.scope x) (he : PE X e te) (hs : swapsWith e (some (.Name x pos')) pos.line X.env = pure false := by rfl) (hf : X.fn x = true ∨ X.env.scope.names.lookup x = some .local := by first | exact .inl rfl | exact .inr rfl | assumption) :
    PS X (.Assign [.Name x pos'] e pos) (tAsg te (gName i)) := by
  intro pins s σ H D I h
  refine wpAny_Assign_Name (thn (he pins s σ H _ I h) fun v s1 ⟨y, H1, I1, r1, q1⟩ => ?_) hs
  exact store_ok I1 hN hi hx r1 (fun s2 I2 => ⟨_, H1, I2, q1⟩) hf
/-- a, b = x, y with plain local names: stored from the right; the pair itself is not tracked (the opening rows as in PyProof/Rows/TupAssign.lean:23) -/
def tPar (i j : Nat) (ta : TA) : TS := fun D σ H => ta σ H fun vs H1 => ∃ v w, vs = [v, w] ∧ D.nx ((σ.set i (some v)).set j (some w)) H1
theorem ps_par {i j : Nat} {x y : Str} {a b : Expr} {ta : TA} {px py pt : Pos} {kt k2 pt2} (hc : X.calm = true) (hN : X.N.Nodup) (hi : X.N[i]? = some x) (hj : X.N[j]? = some y) (hij : i ≠ j)
    (hx : X.env.scope.names.lookup x = some .local) (hy : X.env.scope.names.lookup y = some .local) (ha : PA X [a, b] ta)
    (hw : swappedStores [.Tuple [.Name x px, .Name y py] kt pt] (.Tuple [a, b] k2 pt2) X.env = pure (some [x, y]))
    (hs : swapsWithSole [.Tuple [.Name x px, .Name y py] kt pt] (.Tuple [a, b] k2 pt2) pos.line X.env = pure false := by rfl) :
    PS X (.Assign [.Tuple [.Name x px, .Name y py] kt pt] (.Tuple [a, b] k2 pt2) pos) (tPar i j ta) := by
  intro pins s σ H D I h
  rw [exec_Assign_arm]
  refine wpAny_bind (wpAny_standAt ?_)
  rw [hs]
  refine wpAny_bind (wpAny_pure ?_)
  rw [if_neg (by decide)]
  refine wpAny_bind (Tuple_ (thn (ha _ pins s σ H _ I h) fun us s1 ⟨vs, H1, I1, r1, q1⟩ => ?_))
  obtain ⟨v, w, e1, q1⟩ := q1
  subst e1
  obtain ⟨u1, u2, rfl, rv, rw'⟩ : ∃ u1 u2, us = [u1, u2] ∧ RelV v u1 ∧ RelV w u2 := by
    cases r1 with
    | cons p q =>
      cases q with
      | cons p' q' =>
        cases q'
        exact ⟨_, _, rfl, p, p'⟩
  refine wpAny_newObj_type ?_ (by show 2 ≤ sizeLine; decide)
  have I2 : Inv X pins σ H1 { s1 with heap := s1.heap.push { cls := .type "tuple", data := .seq [u1, u2].toArray } } := I1.kept (t' := s1.toks) fun b o e => Heap.get?_push_of_some _ e
  rw [hw]
  refine wpAny_bind (wpAny_pure ?_)
  show wpAny (model X.prog X.w) X.A (do rule "assign.swapped-stores"; let items ← unpackItems (.ref s1.heap.objs.size) 2 none; assignInOrder [fun v => bindName X.env y v, fun v => bindName X.env x v] items.reverse; pure Flow.next) _ _ _
  refine wpAny_bind (wpAny_rule (wpAny_bind (unpackItems_tuple (items := #[u1, u2]) (I.ok.hd hc) (IsTup.new s1.heap _) fun h' hx' => ?_)))
  have I3 := I2.kept (h' := h') (t' := s1.toks) fun b o e => hx' b o (Nat.ne_of_lt (Heap.lt_size e)) e
  show wpAny _ _ (assignInOrder [fun v => bindName X.env y v, fun v => bindName X.env x v] [u2, u1] >>= fun _ => pure Flow.next) _ _ _
  refine wpAny_bind (assignInOrder_cons (wpAny_bindName (store_ok I3 hN hj (.inl hy) rw' (fun s2 I4 => ?_) (.inr hy))))
  refine assignInOrder_cons (wpAny_bindName (store_ok I4 hN hi (.inl hx) rv (fun s3 I5 => assignInOrder_nil (wpAny_pure ?_)) (.inr hx)))
  rw [List.set_comm _ _ (Ne.symm hij)] at I5
  exact ⟨_, H1, I5, q1⟩
end

/-! ### while -/
section
variable {X : Cx} {pos : Pos}
/-- the invariant W with its measure -/
def tWhile (c : TT) (tb : TS) : TS := fun D σ H => ∃ W : Nat → St → Hp → Prop, (∃ m, W m σ H) ∧ ∀ m σ H, W m σ H →
  c σ H fun b H1 => if b = true then ∃ N : St → Hp → Prop, (∀ σ' H', N σ' H' → ∃ m', m' < m ∧ W m' σ' H') ∧ tb { D with nx := N, ct := N, bk := D.nx } σ H1 else D.nx σ H1
theorem ps_while {c : Expr} {body : List Stmt} {tc : TT} {tb : TS} (hp : PassesOwn (model X.prog X.w) X.A X.env X.xe) (hc : PT X c tc) (hb : PSs X body tb) : PS X (.While c body [] pos) (tWhile tc tb) := by
  intro pins s σ H D I h
  obtain ⟨W, ⟨m0, w0⟩, turn⟩ := h
  refine wpAny_While (codeAny_whileLoop (fun n s' => ∃ σ' H', Inv X pins σ' H' s' ∧ W n σ' H') ?_ m0 ⟨σ, H, I, w0⟩)
  rintro n s1 ⟨σ1, H1, I1, w1⟩
  refine wpAny_passesOwn hp (thn (hc pins s1 σ1 H1 _ I1 (turn n σ1 H1 w1)) fun b s2 ⟨H2, I2, q2⟩ => ?_)
  cases b with
  | true =>
    obtain ⟨N, hN, q2⟩ := q2
    rw [if_pos rfl]
    refine wpAny_passesOwn hp (thn (hb pins s2 σ1 H2 _ I2 q2) fun f s3 q3 => ?_)
    cases f with
    | next =>
      obtain ⟨σ3, H3, I3, n3⟩ := q3
      obtain ⟨m', hm, w3⟩ := hN σ3 H3 n3
      exact ⟨m', hm, σ3, H3, I3, w3⟩
    | cont =>
      obtain ⟨σ3, H3, I3, n3⟩ := q3
      obtain ⟨m', hm, w3⟩ := hN σ3 H3 n3
      exact ⟨m', hm, σ3, H3, I3, w3⟩
    | brk => exact q3
    | ret v => exact q3
  | false =>
    rw [if_neg Bool.false_ne_true]
    exact wpAny_execs_nil ⟨σ1, H2, I2, q2⟩
end

/-! ### what a loop or a comprehension walks -/
/-- at turn i: it yields x (the heap may grow), or it stops -/
structure It where
  go : Nat → Hp → Prop
  yld : Nat → Hp → V → Hp → Prop
  stop : Nat → Hp → Prop
/-- the iterator's own objects may turn: they are not the frame's, not pinned, younger than the entry (or a comprehension's own) -/
def FpOk (X : Cx) (pins : List (Addr × Obj)) (H : Hp) (b : Addr) : Prop :=
  H b = none ∧ b ≠ X.env.locals ∧ b ∉ X.fs ∧ (b ∈ X.ex ∨ X.s₀.heap.objs.size ≤ b) ∧ (∀ x c, X.env.cells.lookup x = some c → c ≠ b) ∧ ∀ p ∈ X.pn ++ pins, p.1 ≠ b
theorem Inv.fpOk {X : Cx} {pins : List (Addr × Obj)} {σ : St} {H H' : Hp} {s : Shared} {b : Addr} (I : Inv X pins σ H s) (hb : s.heap.objs.size ≤ b) (hn : H' b = none) : FpOk X pins H' b := by
  refine ⟨hn, Nat.ne_of_gt (Nat.lt_of_lt_of_le I.lt hb), I.nofs hb, .inr (Nat.le_trans I.sz hb), fun x c e z => ?_, fun p hp z => ?_⟩
  · obtain ⟨v, q⟩ := I.cell x c e
    exact absurd (Nat.lt_of_lt_of_le q.lt (by rw [z]; exact hb)) (Nat.lt_irrefl _)
  · exact absurd (Nat.lt_of_lt_of_le (Heap.lt_size (I.pin p hp).1) (by rw [z]; exact hb)) (Nat.lt_irrefl _)
structure Turn (P : Program) (w : World) (K : PySem.W.Frag) (tg : Expr) (J : It) (fp : List Addr) (it : Addr) (tn : Nat → Heap → Prop) : Prop where
  mem : it ∈ fp
  obj : ∀ i h, tn i h → ∀ b ∈ fp, ∃ o, h.get? b = some o ∧ ∀ v, o.data ≠ .cell v
  keep : ∀ i h h', tn i h → (∀ b ∈ fp, ∀ o, h.get? b = some o → h'.get? b = some o) → tn i h'
  item : ∀ (X : Cx), X.prog = P → X.w = w → X.K = K → X.calm = true → ∀ (i : Nat) (pins : List (Addr × Obj)) (s : Shared) (σ : St) (H : Hp) (E : Value → Shared → Prop), Inv X pins σ H s → (∀ b ∈ fp, FpOk X pins H b) → tn i s.heap → J.go i H →
    wpAny (model P w) X.A (pyNext (.ref it)) (fun r s1 => ∃ u, r = some u ∧
      wpAny (model P w) X.A (letOwnedTupleGo tg (.ref it) u) (fun _ s2 => ∃ x H', Inv X pins σ H' s2 ∧ RelV x u ∧ J.yld i H x H' ∧ tn (i + 1) s2.heap ∧ ∀ b ∈ fp, H' b = none) E s1) E s
  done : ∀ (X : Cx), X.prog = P → X.w = w → X.K = K → X.calm = true → ∀ (i : Nat) (pins : List (Addr × Obj)) (s : Shared) (σ : St) (H : Hp) (E : Value → Shared → Prop), Inv X pins σ H s → (∀ b ∈ fp, FpOk X pins H b) → tn i s.heap → J.stop i H →
    wpAny (model P w) X.A (pyNext (.ref it)) (fun r s1 => r = none ∧ Inv X pins σ H s1) E s
  self : ∀ (A : Around) (i : Nat) (s : Shared) (Q : Value → Shared → Prop) (E : Value → Shared → Prop), tn i s.heap → Q (.ref it) s → wpAny (model P w) A (pyIter (.ref it)) Q E s
abbrev TI := St → Hp → (It → Hp → Prop) → Prop
/-- an iterator has come -/
def PIE (X : Cx) (pins : List (Addr × Obj)) (σ : St) (tg : Expr) (R : It → Hp → Prop) (itv : Value) (s2 : Shared) : Prop :=
  ∃ (it : Addr) (fp : List Addr) (tn : Nat → Heap → Prop) (J : It) (H' : Hp), itv = .ref it ∧ Inv X pins σ H' s2 ∧ Turn X.prog X.w X.K tg J fp it tn ∧ tn 0 s2.heap ∧ (∀ b ∈ fp, FpOk X pins H' b) ∧ R J H'
def PI (X : Cx) (tg iter : Expr) (wi : TI) : Prop :=
  ∀ (pins : List (Addr × Obj)) (s : Shared) (σ : St) (H : Hp) (R : It → Hp → Prop), Inv X pins σ H s → wi σ H R →
    wpAny (model X.prog X.w) X.A (eval iter X.env) (fun v s1 => wpAny (model X.prog X.w) X.A (pyIter v) (PIE X pins σ tg R) X.xe s1) X.xe s

/-- the step ahead of the store is nothing for an iterator that keeps no tuple -/
theorem go_of {M : Model} {A : Around} {E : Value → Shared → Prop} {s : Shared} {tg : Expr} {it : Addr} {u : Value} {o : Obj} {n : String} {vs : Array Value} {Q : Unit → Shared → Prop} (ho : s.heap.get? it = some o) (hc : o.cls = .type n) (hd : o.data = .fields vs)
    (hn : ["enumerate", "zip", "dict_itemiterator", "dict_reverseitemiterator", "odict_iterator", "itertools.zip_longest", "itertools.pairwise"].contains n = false) (hQ : Q () s) : wpAny M A (letOwnedTupleGo tg (.ref it) u) Q E s := by
  unfold letOwnedTupleGo
  cases tg <;> first
    | exact wpAny_pure hQ
    | (cases u <;> first
        | exact wpAny_pure hQ
        | (refine wpAny_bind (wpAny_load ho ?_)
           rw [hc, hd]
           show wpAny M A (if (["enumerate", "zip", "dict_itemiterator", "dict_reverseitemiterator", "odict_iterator", "itertools.zip_longest", "itertools.pairwise"].contains n && vs[0]? == some (rawInt _)) = true then _ else _) Q E s
           rw [if_neg (by intro h; rw [hn, Bool.false_and] at h; cases h)]
           exact wpAny_pure hQ))

/-- the list at a, as it stands at each turn (a loop may append to it) -/
def Itl (K : PySem.W.Frag) (a : Addr) : It :=
  ⟨fun i H => ∃ xs x, SqL K H a xs ∧ xs[i]? = some x, fun i H x H' => H' = H ∧ ∀ xs, SqL K H a xs → xs[i]? = some x, fun i H => ∃ xs, SqL K H a xs ∧ xs.length ≤ i⟩
def Itt (K : PySem.W.Frag) (a : Addr) : It :=
  ⟨fun i H => ∃ xs x, SqT K H a xs ∧ xs[i]? = some x, fun i H x H' => H' = H ∧ ∀ xs, SqT K H a xs → xs[i]? = some x, fun i H => ∃ xs, SqT K H a xs ∧ xs.length ≤ i⟩
/-- lo, lo + 1, .. (n of them) -/
def Itr (lo : Int) (n : Nat) : It := ⟨fun i _ => i < n, fun i H x H' => H' = H ∧ x = .int (lo + i), fun i _ => n ≤ i⟩
theorem turn_list {P : Program} {w : World} {K : PySem.W.Frag} {tg : Expr} (a it : Addr) : Turn P w K tg (Itl K a) [it] it (fun i h => h.IsListIter it a i) where
  mem := by simp
  obj := fun i h st b hb => by
    have e : b = it := by simpa using hb
    subst e
    obtain ⟨o, e, c, d⟩ := st
    exact ⟨o, e, fun v z => by rw [d] at z; cases z⟩
  keep := fun i h h' st k => st.at fun o e => k it (by simp) o e
  item := by
    intro X hP hw hK hc i pins s σ H E I hf st hg
    subst hP hw hK
    obtain ⟨xs, x, hq, hx⟩ := hg
    obtain ⟨its, rv, p, hz⟩ := I.list hq
    obtain ⟨u, hu, ru⟩ := rv.get hx
    obtain ⟨f0, f1, f2, f3, f4, f5⟩ := hf it (by simp)
    refine wpAny_pyNext_list_item st p.isList (x := u) (by simpa using hu) fun h' st' sb => ?_
    have I1 : Inv X pins σ H { s with heap := h' } := I.turned (t' := s.toks) (fun b o hb e => (sb.2 b hb).trans e) f0 f1 f3 f4 f5
    obtain ⟨o, e, c, d⟩ := id st'
    exact ⟨u, rfl, go_of (s := { s with heap := h' }) e c d (by decide) ⟨x, H, I1, ru, ⟨rfl, fun ys hy => by rw [I.list_inj hy hq]; exact hx⟩, st', fun b hb => (hf b hb).1⟩⟩
  done := by
    intro X hP hw hK hc i pins s σ H E I hf st hg
    subst hP hw hK
    obtain ⟨xs, hq, hx⟩ := hg
    obtain ⟨its, rv, p, hz⟩ := I.list hq
    obtain ⟨f0, f1, f2, f3, f4, f5⟩ := hf it (by simp)
    have hl := rv.length
    exact wpAny_pyNext_list_end (I.ok.hd hc) st p.isList (by simp; omega) fun h' eb => ⟨rfl, I.turned (t' := s.toks) (fun b o hb e => eb b o hb e) f0 f1 f3 f4 f5⟩
  self := fun _ _ _ _ _ st h => wpAny_pyIter_listiter st h
theorem turn_tuple {P : Program} {w : World} {K : PySem.W.Frag} {tg : Expr} (a it : Addr) : Turn P w K tg (Itt K a) [it] it (fun i h => h.IsTupleIter it a i) where
  mem := by simp
  obj := fun i h st b hb => by
    have e : b = it := by simpa using hb
    subst e
    obtain ⟨o, e, c, d⟩ := st
    exact ⟨o, e, fun v z => by rw [d] at z; cases z⟩
  keep := fun i h h' st k => st.at fun o e => k it (by simp) o e
  item := by
    intro X hP hw hK hc i pins s σ H E I hf st hg
    subst hP hw hK
    obtain ⟨xs, x, hq, hx⟩ := hg
    obtain ⟨its, rv, p, hz⟩ := I.tuple hq
    obtain ⟨u, hu, ru⟩ := rv.get hx
    obtain ⟨f0, f1, f2, f3, f4, f5⟩ := hf it (by simp)
    refine wpAny_pyNext_tuple_item st (show s.heap.IsTuple a its.toArray from p) (x := u) (by simpa using hu) fun h' st' sb => ?_
    have I1 : Inv X pins σ H { s with heap := h' } := I.turned (t' := s.toks) (fun b o hb e => (sb.2 b hb).trans e) f0 f1 f3 f4 f5
    obtain ⟨o, e, c, d⟩ := id st'
    exact ⟨u, rfl, go_of (s := { s with heap := h' }) e c d (by decide) ⟨x, H, I1, ru, ⟨rfl, fun ys hy => by rw [I.tuple_inj hy hq]; exact hx⟩, st', fun b hb => (hf b hb).1⟩⟩
  done := by
    intro X hP hw hK hc i pins s σ H E I hf st hg
    subst hP hw hK
    obtain ⟨xs, hq, hx⟩ := hg
    obtain ⟨its, rv, p, hz⟩ := I.tuple hq
    obtain ⟨f0, f1, f2, f3, f4, f5⟩ := hf it (by simp)
    have hl := rv.length
    exact wpAny_pyNext_tuple_end (I.ok.hd hc) st (show s.heap.IsTuple a its.toArray from p) (by simp; omega) fun h' eb => ⟨rfl, I.turned (t' := s.toks) (fun b o hb e => eb b o hb e) f0 f1 f3 f4 f5⟩
  self := fun _ _ _ _ _ st h => wpAny_pyIter_tupleiter st h
theorem turn_range {P : Program} {w : World} {K : PySem.W.Frag} {tg : Expr} (it : Addr) (lo : Int) (n : Nat) : Turn P w K tg (Itr lo n) [it] it (fun i h => IsRangeIter h it (lo + (i : Nat) * 1) ((n : Int) - (i : Nat)) 1) where
  mem := by simp
  obj := fun i h st b hb => by
    have e : b = it := by simpa using hb
    subst e
    exact ⟨_, st, fun v z => by
      have z' : Data.fields _ = Data.cell v := z
      cases z'⟩
  keep := fun i h h' st k => k it (by simp) _ st
  item := by
    intro X hP hw hK hc i pins s σ H E I hf st hg
    subst hP hw hK
    obtain ⟨f0, f1, f2, f3, f4, f5⟩ := hf it (by simp)
    have W := Walks.range (prog := X.prog) (w := X.w) (I.ok.hd hc) it lo 1 n
    refine W.item i s _ _ hg st fun v h' tk hv st' kk => ?_
    obtain ⟨t, rfl⟩ := hv
    have I1 : Inv X pins σ H { s with heap := h', toks := tk } := I.turned (fun b o hb e => kk b o (by simpa using hb) e) f0 f1 f3 f4 f5
    refine ⟨_, rfl, go_of (s := { s with heap := h', toks := tk }) (n := "range_iterator") st' rfl rfl (by decide) ⟨.int (lo + i), H, I1, ⟨t, ?_⟩, ⟨rfl, rfl⟩, st', fun b hb => (hf b hb).1⟩⟩
    rw [Int.mul_one]
  done := by
    intro X hP hw hK hc i pins s σ H E I hf st hg
    subst hP hw hK
    obtain ⟨f0, f1, f2, f3, f4, f5⟩ := hf it (by simp)
    exact wpAny_pyNext_range_end (I.ok.hd hc) st (by have : n ≤ i := hg; omega) fun h' eb => ⟨rfl, I.turned (t' := s.toks) (fun b o hb e => eb b o hb e) f0 f1 f3 f4 f5⟩
  self := fun _ _ _ _ _ st h => wpAny_pyIter_rangeiter st h
end L2

namespace L2
open PySem PySem.Spec PyProof.Rows
section
variable {X : Cx} {tg : Expr}
def iList (K : PySem.W.Frag) (tl : TE) : TI := fun σ H R => tl σ H fun x H1 => ∃ a, x = .ref a ∧ (∃ xs, SqL K H1 a xs) ∧ R (Itl K a) H1
def iTup (K : PySem.W.Frag) (tl : TE) : TI := fun σ H R => tl σ H fun x H1 => ∃ a, x = .ref a ∧ (∃ xs, SqT K H1 a xs) ∧ R (Itt K a) H1
theorem pi_list {l : Expr} {tl : TE} (hl : PE X l tl) : PI X tg l (iList X.K tl) := by
  intro pins s σ H R I h
  refine thn (hl pins s σ H _ I h) fun v s1 ⟨x, H1, I1, r1, q1⟩ => ?_
  obtain ⟨a, e, ⟨xs, hq⟩, q⟩ := q1
  subst e
  cases r1
  obtain ⟨its, rv, p, hz⟩ := I1.list hq
  refine wpAny_pyIter_list p.isList ?_
  refine ⟨s1.heap.objs.size, [s1.heap.objs.size], _, _, H1, rfl, I1.kept (t' := s1.toks) fun b o e => Heap.get?_push_of_some _ e, turn_list a _, ⟨_, Heap.get?_push_size _ rfl, rfl, rfl⟩, fun b hb => ?_, q⟩
  have e : b = s1.heap.objs.size := by simpa using hb
  subst e
  exact I1.fpOk (Nat.le_refl _) (I1.hok.fresh (Nat.le_refl _))
theorem pi_tup {l : Expr} {tl : TE} (hl : PE X l tl) : PI X tg l (iTup X.K tl) := by
  intro pins s σ H R I h
  refine thn (hl pins s σ H _ I h) fun v s1 ⟨x, H1, I1, r1, q1⟩ => ?_
  obtain ⟨a, e, ⟨xs, hq⟩, q⟩ := q1
  subst e
  cases r1
  obtain ⟨its, rv, p, hz⟩ := I1.tuple hq
  refine wpAny_pyIter_tuple (show s1.heap.IsTuple a its.toArray from p) ?_
  refine ⟨s1.heap.objs.size, [s1.heap.objs.size], _, _, H1, rfl, I1.kept (t' := s1.toks) fun b o e => Heap.get?_push_of_some _ e, turn_tuple a _, ⟨_, Heap.get?_push_size _ rfl, rfl, rfl⟩, fun b hb => ?_, q⟩
  have e : b = s1.heap.objs.size := by simpa using hb
  subst e
  exact I1.fpOk (Nat.le_refl _) (I1.hok.fresh (Nat.le_refl _))
/-- a range object just made, walked -/
theorem range_it {pins : List (Addr × Obj)} {σ : St} {H : Hp} {s : Shared} {R : It → Hp → Prop} {E : Value → Shared → Prop} {lo hi : Int} {t u v : Tok} {tk : Nat} (I : Inv X pins σ H s) (h1 : -(2 ^ 62) ≤ lo) (h2 : lo < 2 ^ 62) (h3 : -(2 ^ 62) ≤ hi) (h4 : hi < 2 ^ 62)
    (q : R (Itr lo (hi - lo).toNat) H) : wpAny (model X.prog X.w) X.A (pyIter (.ref s.heap.objs.size)) (PIE X pins σ tg R) E { s with heap := s.heap.push { cls := .type "range", data := .fields #[.int lo t, .int hi u, .int 1 v] }, toks := tk } := by
  refine wpAny_pyIter_range (IsRange.new ..) (small_one h1 h2 h3 h4) ?_
  have I1 : Inv X pins σ H { s with heap := s.heap.push { cls := .type "range", data := .fields #[.int lo t, .int hi u, .int 1 v] }, toks := tk } := I.kept fun b o e => Heap.get?_push_of_some _ e
  refine ⟨(s.heap.push { cls := .type "range", data := .fields #[.int lo t, .int hi u, .int 1 v] }).objs.size, [(s.heap.push { cls := .type "range", data := .fields #[.int lo t, .int hi u, .int 1 v] }).objs.size], _, _, H, rfl,
    I1.kept (t' := tk) fun b o e => Heap.get?_push_of_some _ e, turn_range _ lo (hi - lo).toNat, ?_, fun b hb => ?_, q⟩
  · have e1 : lo + ((0 : Nat) : Int) * 1 = lo := by simp
    have e2 : (((hi - lo).toNat : Nat) : Int) - ((0 : Nat) : Int) = Builtin.Range.rangeSize lo hi 1 := by rw [rangeSize_one]; split <;> omega
    show IsRangeIter _ _ (lo + ((0 : Nat) : Int) * 1) ((((hi - lo).toNat : Nat) : Int) - ((0 : Nat) : Int)) 1
    rw [e1, e2]
    exact Heap.get?_push_size _ rfl
  · have e : b = (s.heap.push { cls := .type "range", data := .fields #[.int lo t, .int hi u, .int 1 v] }).objs.size := by simpa using hb
    subst e
    exact I1.fpOk (Nat.le_refl _) (I1.hok.fresh (Nat.le_refl _))
def iRng1 (ta : TA) : TI := fun σ H R => ta σ H fun vs H1 => ∃ j : Int, vs = [.int j] ∧ -(2 ^ 62) ≤ j ∧ j < 2 ^ 62 ∧ R (Itr 0 j.toNat) H1
theorem pi_range1 {a : Expr} {ta : TA} {p pos : Pos} (hg : Gl X "range") (hm : X.mg "range" = none) (ha : PA X [a] ta) (hs : starEach [a] X.env = [(false, eval a X.env)] := by rfl) : PI X tg (.Call (.Name "range" p) [a] [] pos) (iRng1 ta) := by
  intro pins s σ H R I h
  refine Call_ (ld_blt I hg hm boot_range (PyProof.Rows.callWith_type1 (thn (ha pos pins s σ H _ I h) fun us s1 ⟨vs, H1, I1, r1, q1⟩ => ?_) hs rfl))
  obtain ⟨j, e, q1, q2, q⟩ := q1
  subst e
  cases r1 with
  | cons r rr =>
    cases rr
    obtain ⟨t, rfl⟩ := r
    exact call_range_1 (range_it I1 (by omega) (by omega) q1 q2 (by simpa using q))
/-! ### for -/
/-- W: the invariant by the turn and a measure; N: what the body is to reach -/
def tFor (wi : TI) (g : TG) (tb : TS) : TS := fun D σ H => wi σ H fun J H1 => ∃ W : Nat → Nat → St → Hp → Prop, (∃ m, W 0 m σ H1) ∧ ∀ i m σ H, W i m σ H →
  (J.stop i H ∧ D.nx σ H) ∨ (J.go i H ∧ ∃ N : St → Hp → Prop, (∀ σ' H', N σ' H' → ∃ m', m' < m ∧ W (i + 1) m' σ' H') ∧ ∀ x H', J.yld i H x H' → g x σ H' fun σ2 H2 => tb { D with nx := N, ct := N, bk := D.nx } σ2 H2)
/-- the records at fp as they stand -/
def pinsAt (fp : List Addr) (h : Heap) : List (Addr × Obj) := fp.filterMap fun b => (h.get? b).map fun o => (b, o)
theorem mem_pinsAt {fp : List Addr} {h : Heap} {b : Addr} {o : Obj} (hb : b ∈ fp) (e : h.get? b = some o) : (b, o) ∈ pinsAt fp h := List.mem_filterMap.mpr ⟨b, hb, by rw [e]; rfl⟩
theorem of_pinsAt {fp : List Addr} {h : Heap} {p : Addr × Obj} (hp : p ∈ pinsAt fp h) : p.1 ∈ fp ∧ h.get? p.1 = some p.2 := by
  obtain ⟨b, hb, e⟩ := List.mem_filterMap.mp hp
  cases q : h.get? b with
  | none => rw [q] at e; cases e
  | some o =>
    rw [q] at e
    have e' : (b, o) = p := Option.some.inj e
    subst e'
    exact ⟨hb, q⟩
theorem Inv.pinned {pins : List (Addr × Obj)} {σ : St} {H : Hp} {s : Shared} {fp : List Addr} (I : Inv X pins σ H s) (hf : ∀ b ∈ fp, FpOk X pins H b) (ho : ∀ b ∈ fp, ∃ o, s.heap.get? b = some o ∧ ∀ v, o.data ≠ .cell v) : Inv X (pins ++ pinsAt fp s.heap) σ H s :=
  I.pins_of fun p hp => (List.mem_append.mp hp).elim (fun z => I.pin p (List.mem_append_right _ z)) fun z => by
    obtain ⟨hb, e⟩ := of_pinsAt z
    obtain ⟨f0, f1, f2, _⟩ := hf p.1 hb
    obtain ⟨o, e', d⟩ := ho p.1 hb
    rw [e] at e'; cases e'
    exact ⟨e, f0, f1, f2, d⟩
theorem Inv.unpinned {pins pl : List (Addr × Obj)} {σ : St} {H : Hp} {s : Shared} (I : Inv X (pins ++ pl) σ H s) : Inv X pins σ H s := I.pins_of fun p hp => I.pin p (List.mem_append_right _ (List.mem_append_left _ hp))
theorem ps_for {iter : Expr} {body : List Stmt} {wi : TI} {g : TG} {tb : TS} {pos : Pos} (hp : PassesOwn (model X.prog X.w) X.A X.env X.xe) (hc : X.calm = true) (hi : PI X tg iter wi) (hg : PG X tg g) (hb : PSs X body tb)
    (hs : ∀ x, foldedSetIterable iter X.env x = pure x := by intro _; rfl) : PS X (.For tg iter body [] pos) (tFor wi g tb) := by
  intro pins s σ H D I h
  refine wpAny_For (thn (hi pins s σ H _ I h) fun v s1 h1 => thn h1 fun itv s2 h2 => ?_) hs
  obtain ⟨it, fp, tn, J, H2, e, I2, T, st2, f2, W, ⟨m0, w0⟩, turn⟩ := h2
  subst e
  -- what stays true of the iterator's objects through the loop
  have stat : ∀ {H' : Hp}, (∀ b ∈ fp, H' b = none) → ∀ b ∈ fp, FpOk X pins H' b := fun hn b hb => ⟨hn b hb, (f2 b hb).2⟩
  refine codeAny_forLoop_any (fun n s' => ∃ i σ' H', Inv X pins σ' H' s' ∧ tn i s'.heap ∧ (∀ b ∈ fp, H' b = none) ∧ W i n σ' H') ?_ m0 ⟨0, σ, H2, I2, st2, fun b hb => (f2 b hb).1, w0⟩
  rintro n s3 ⟨i, σ3, H3, I3, st3, fr3, w3⟩
  rcases turn i n σ3 H3 w3 with ⟨stop, qn⟩ | ⟨go, N, hN, step⟩
  · refine wpAny_passesOwn hp (thn (T.done X rfl rfl rfl hc i pins s3 σ3 H3 X.xe I3 (stat fr3) st3 stop) fun r s4 ⟨hr, I4⟩ => ?_)
    subst hr
    exact wpAny_execs_nil ⟨σ3, H3, I4, qn⟩
  · refine wpAny_passesOwn hp (thn (T.item X rfl rfl rfl hc i pins s3 σ3 H3 X.xe I3 (stat fr3) st3 go) fun r s4 ⟨u, hr, h4⟩ => ?_)
    subst hr
    refine wpAny_passesOwn hp (thn h4 fun _ s5 ⟨x, H5, I5, r5, y5, st5, fr5⟩ => ?_)
    have I5' := I5.pinned (stat fr5) (T.obj _ _ st5)
    refine wpAny_passesOwn hp (thn (hg _ s5 σ3 H5 x u _ I5' r5 (step x H5 y5)) fun _ s6 ⟨σ6, H6, I6, q6⟩ => ?_)
    refine wpAny_passesOwn hp (thn (hb _ s6 σ6 H6 _ I6 q6) fun f s7 q7 => ?_)
    have again : ∀ {σ7 : St} {H7 : Hp}, Inv X (pins ++ pinsAt fp s5.heap) σ7 H7 s7 → N σ7 H7 → ∃ m, m < n ∧ ∃ i σ' H', Inv X pins σ' H' s7 ∧ tn i s7.heap ∧ (∀ b ∈ fp, H' b = none) ∧ W i m σ' H' := fun {σ7 H7} I7 n7 => by
      obtain ⟨m', hm, w7⟩ := hN σ7 H7 n7
      refine ⟨m', hm, i + 1, σ7, H7, I7.unpinned, T.keep _ _ _ st5 fun b hb o e => (I7.pin (b, o) (List.mem_append_right _ (List.mem_append_right _ (mem_pinsAt hb e)))).1, fun b hb => ?_, w7⟩
      obtain ⟨o, e, d⟩ := T.obj _ _ st5 b hb
      exact (I7.pin (b, o) (List.mem_append_right _ (List.mem_append_right _ (mem_pinsAt hb e)))).2.1
    cases f with
    | next => obtain ⟨σ7, H7, I7, n7⟩ := q7; exact again I7 n7
    | cont => obtain ⟨σ7, H7, I7, n7⟩ := q7; exact again I7 n7
    | brk => obtain ⟨σ7, H7, I7, q7⟩ := q7; exact ⟨σ7, H7, I7.unpinned, q7⟩
    | ret v => obtain ⟨x7, σ7, H7, I7, r7, q7⟩ := q7; exact ⟨x7, σ7, H7, I7.unpinned, r7, q7⟩
end

/-! ### the forms one uses -/
end L2

namespace L2
open PySem PySem.Spec PyProof.Rows

abbrev R2 := V → V → Hp → VK → Prop
/-- a two-place operation on values: f is binaryOp op, inplaceOp op or compareOp op -/
def OpR (X : Cx) (f : Value → Value → Sem Value) (r : R2) : Prop :=
  ∀ (pins : List (Addr × Obj)) (s : Shared) (σ : St) (H : Hp) (x y : V) (v u : Value) (Q : VK), Inv X pins σ H s → RelV x v → RelV y u → r x y H Q →
    wpAny (model X.prog X.w) X.A (f v u) (EP X pins σ Q) X.xe s
/-- a call of a value that is known (a builtin, a type) with values -/
def CallR (X : Cx) (f : Value) (r : List V → Hp → VK → Prop) : Prop :=
  ∀ (pins : List (Addr × Obj)) (s : Shared) (σ : St) (H : Hp) (xs : List V) (us : List Value) (Q : VK), Inv X pins σ H s → Vals xs us → r xs H Q →
    wpAny (model X.prog X.w) X.A (call f us) (EP X pins σ Q) X.xe s
/-- a value's truth -/
def TruR (X : Cx) (r : V → Hp → (Bool → Hp → Prop) → Prop) : Prop :=
  ∀ (pins : List (Addr × Obj)) (s : Shared) (σ : St) (H : Hp) (x : V) (v : Value) (Q : Bool → Hp → Prop), Inv X pins σ H s → RelV x v → r x H Q →
    wpAny (model X.prog X.w) X.A (truthy v) (TP X pins σ Q) X.xe s

def tOp (r : R2) (ta tb : TE) : TE := fun σ H Q => ta σ H fun x H1 => tb σ H1 fun y H2 => r x y H2 Q
/-- ints in, under C, and a value out -/
def rI (C : Int → Int → Prop) (g : Int → Int → V) : R2 := fun x y H Q => ∃ i j, x = .int i ∧ y = .int j ∧ C i j ∧ Q (g i j) H
def rI0 (g : Int → Int → V) : R2 := fun x y H Q => ∃ i j, x = .int i ∧ y = .int j ∧ Q (g i j) H
section
variable {X : Cx} {a b c : Expr} {ta tb tc : TE} {pos : Pos}

theorem binT (ha : PE X a ta) (hb : PE X b tb) {pins : List (Addr × Obj)} {s : Shared} {σ : St} {H : Hp} {R : V → V → Hp → Prop} (I : Inv X pins σ H s)
    (h : ta σ H fun x H1 => tb σ H1 fun y H2 => R x y H2) {Q : Value → Shared → Prop} {f : Value → Value → Sem Value}
    (hf : ∀ v u s2 x y H2, Inv X pins σ H2 s2 → RelV x v → RelV y u → R x y H2 → wpAny (model X.prog X.w) X.A (f v u) Q X.xe s2) :
    wpAny (model X.prog X.w) X.A (eval a X.env) (fun v s₁ => wpAny (model X.prog X.w) X.A (eval b X.env) (fun u s₂ => wpAny (model X.prog X.w) X.A (f v u) Q X.xe s₂) X.xe s₁) X.xe s := by
  refine thn (ha pins s σ H _ I h) fun v s1 ⟨x, H1, I1, r1, q1⟩ => ?_
  refine thn (hb pins s1 σ H1 _ I1 q1) fun u s2 ⟨y, H2, I2, r2, q2⟩ => ?_
  exact hf v u s2 x y H2 I2 r1 r2 q2

theorem pe_op {op : Operator} {r : R2} (ho : OpR X (binaryOp op) r) (ha : PE X a ta) (hb : PE X b tb) : PE X (.BinOp a op b pos) (tOp r ta tb) := by
  intro pins s σ H Q I h
  exact wpAny_BinOp (binT ha hb I h fun v u s2 x y H2 I2 rx ry q => ho pins s2 σ H2 x y v u Q I2 rx ry q)
/-! ### ints -/
theorem opI {f : Value → Value → Sem Value} {C : Int → Int → Prop} {g : Int → Int → Int}
    (rule : ∀ (i j : Int) (t u : Tok) (s : Shared) (Q : Value → Shared → Prop) (E : Value → Shared → Prop), C i j → Q (.int (g i j) s.toks) { s with toks := s.toks + 1 } → wpAny (model X.prog X.w) X.A (f (.int i t) (.int j u)) Q E s) :
    OpR X f (rI C fun i j => .int (g i j)) := by
  intro pins s σ H x y v u Q I rx ry h
  obtain ⟨i, j, rfl, rfl, hc, q⟩ := h
  obtain ⟨t, rfl⟩ := rx
  obtain ⟨t', rfl⟩ := ry
  exact rule i j t t' s _ _ hc ⟨.int (g i j), H, I.tok _, ⟨_, rfl⟩, q⟩
theorem opI0 {f : Value → Value → Sem Value} {g : Int → Int → Int}
    (rule : ∀ (i j : Int) (t u : Tok) (s : Shared) (Q : Value → Shared → Prop) (E : Value → Shared → Prop), Q (.int (g i j) s.toks) { s with toks := s.toks + 1 } → wpAny (model X.prog X.w) X.A (f (.int i t) (.int j u)) Q E s) :
    OpR X f (rI0 fun i j => .int (g i j)) := by
  intro pins s σ H x y v u Q I rx ry h
  obtain ⟨i, j, rfl, rfl, q⟩ := h
  obtain ⟨t, rfl⟩ := rx
  obtain ⟨t', rfl⟩ := ry
  exact rule i j t t' s _ _ ⟨.int (g i j), H, I.tok _, ⟨_, rfl⟩, q⟩
theorem opB0 {f : Value → Value → Sem Value} {g : Int → Int → Bool}
    (rule : ∀ (i j : Int) (t u : Tok) (s : Shared) (Q : Value → Shared → Prop) (E : Value → Shared → Prop), Q (.bool (g i j)) s → wpAny (model X.prog X.w) X.A (f (.int i t) (.int j u)) Q E s) :
    OpR X f (rI0 fun i j => .bl (g i j)) := by
  intro pins s σ H x y v u Q I rx ry h
  obtain ⟨i, j, rfl, rfl, q⟩ := h
  obtain ⟨t, rfl⟩ := rx
  obtain ⟨t', rfl⟩ := ry
  exact rule i j t t' s _ _ ⟨.bl (g i j), H, I, rfl, q⟩

def CPow (i j : Int) : Prop := 0 ≤ j ∧ j ≤ 1000000 ∧ i.natAbs < 2 ^ 64
def CMul (i j : Int) : Prop := (-(2 ^ 64) < i ∧ i < 2 ^ 64) ∨ (-(2 ^ 64) < j ∧ j < 2 ^ 64)
theorem CMul.ok {i j : Int} (h : CMul i j) : IntMulOk i j := by
  rcases h with ⟨h1, h2⟩ | ⟨h1, h2⟩
  · exact .of_left (intBits_le_64 h1 h2)
  · exact .of_right (intBits_le_64 h1 h2)
theorem op_add : OpR X (binaryOp .Add) (rI0 fun i j => .int (i + j)) := opI0 fun _ _ _ _ _ _ _ q => add_int q
theorem op_sub : OpR X (binaryOp .Sub) (rI0 fun i j => .int (i - j)) := opI0 fun _ _ _ _ _ _ _ q => sub_int q
/-- % by a positive divisor of any size -/
theorem op_mod : OpR X (binaryOp .Mod) (rI (fun _ j => 0 < j) fun i j => .int (i % j)) := opI fun i j _ _ _ _ _ hc q => by
  have h1 : (0 : Int) < j := hc
  exact mod_int' (by omega) (by rw [Int.fmod_eq_emod_of_nonneg i (by omega)]; exact q)
theorem op_pow : OpR X (binaryOp .Pow) (rI CPow fun i j => .int (i ^ j.toNat)) := opI fun _ _ _ _ _ _ _ hc q => pow_int_small hc.1 hc.2.1 hc.2.2 q
/-! ### bools among ints: n += (a < b) -/
end

/-! ### comparisons -/
section
variable {X : Cx} {a b c : Expr} {ta tb tc : TE} {pos : Pos}
theorem op_lt : OpR X (compareOp .Lt) (rI0 fun i j => .bl (decide (i < j))) := opB0 fun _ _ _ _ _ _ _ q => lt_int q
theorem op_le : OpR X (compareOp .LtE) (rI0 fun i j => .bl (decide (i ≤ j))) := opB0 fun _ _ _ _ _ _ _ q => le_int q
theorem op_gt : OpR X (compareOp .Gt) (rI0 fun i j => .bl (decide (j < i))) := opB0 fun _ _ _ _ _ _ _ q => gt_int q
theorem op_ge : OpR X (compareOp .GtE) (rI0 fun i j => .bl (decide (j ≤ i))) := opB0 fun _ _ _ _ _ _ _ q => ge_int q
/-- two rules for one operation: by cases -/
theorem OpR.or {f : Value → Value → Sem Value} {r r' : R2} (h : OpR X f r) (h' : OpR X f r') : OpR X f (fun x y H Q => r x y H Q ∨ r' x y H Q) := by
  intro pins s σ H x y v u Q I rx ry q
  rcases q with q | q
  · exact h pins s σ H x y v u Q I rx ry q
  · exact h' pins s σ H x y v u Q I rx ry q

theorem nomark (b : Expr) {op : CmpOp} (h : op ≠ .In := by decide) (h2 : op ≠ .NotIn := by decide) : behindInMarks op b = false := by
  have e1 : (op == CmpOp.In) = false := by cases op <;> first | rfl | exact absurd rfl h
  have e2 : (op == CmpOp.NotIn) = false := by cases op <;> first | rfl | exact absurd rfl h2
  cases b <;> simp [behindInMarks, e1, e2]
/-- a comparison as a value; hm: nomark b, or (for in, not in) by with_unfolding_all rfl -/
theorem pe_cmpR {op : CmpOp} {r : R2} (ho : OpR X (compareOp op) r) (ha : PE X a ta) (hb : PE X b tb) (hm : behindInMarks op b = false) : PE X (.Compare a [op] [b] pos) (tOp r ta tb) := by
  intro pins s σ H Q I h
  exact wpAny_Compare1 (binT ha hb I h fun v u s2 x y H2 I2 rx ry q => ho pins s2 σ H2 x y v u Q I2 rx ry q) hm
/-- a reading of a value as a test -/
def tTest (t : TE) : TT := fun σ H Q => t σ H fun x H' => ∃ k, x = .bl k ∧ Q k H'
theorem pt_cmpR {op : CmpOp} {r : R2} (ho : OpR X (compareOp op) r) (ha : PE X a ta) (hb : PE X b tb) (hm : behindInMarks op b = false) : PT X (.Compare a [op] [b] pos) (tTest (tOp r ta tb)) := by
  intro pins s σ H Q I h
  refine wpAny_isTrue_Compare1 (thn (ha pins s σ H _ I h) fun v s1 ⟨x, H1, I1, r1, q1⟩ => thn (hb pins s1 σ H1 _ I1 q1) fun u s2 ⟨y, H2, I2, r2, q2⟩ =>
    thn (ho pins s2 σ H2 x y v u _ I2 r1 r2 q2) fun c s3 ⟨z, H3, I3, r3, k, e, q3⟩ => ?_) hm
  subst e
  cases r3
  exact wpAny_truthy_bool ⟨H3, I3, q3⟩
/-- a op1 b op2 c -/
def tChain (r r' : R2) (ta tb tc : TE) : TE := fun σ H Q => ta σ H fun x H1 => tb σ H1 fun y H2 => r x y H2 fun z H3 => ∃ k, z = .bl k ∧
  (if k = true then tc σ H3 fun w' H4 => r' y w' H4 Q else Q (.bl false) H3)
theorem pe_chain {op op' : CmpOp} {r r' : R2} (ho : OpR X (compareOp op) r) (ho' : OpR X (compareOp op') r') (ha : PE X a ta) (hb : PE X b tb) (hc : PE X c tc)
    (hm : lastMarks [op, op'] [b, c] = false := by with_unfolding_all rfl) : PE X (.Compare a [op, op'] [b, c] pos) (tChain r r' ta tb tc) := by
  intro pins s σ H Q I h
  refine Compare_chain (thn (ha pins s σ H _ I h) fun v s1 ⟨x, H1, I1, r1, q1⟩ => chain_link (thn (hb pins s1 σ H1 _ I1 q1) fun u s2 ⟨y, H2, I2, r2, q2⟩ =>
    thn (ho pins s2 σ H2 x y v u _ I2 r1 r2 q2) fun d s3 ⟨z, H3, I3, r3, k, e, q3⟩ => ?_)) hm
  subst e
  cases r3
  refine wpAny_truthy_bool ?_
  cases k with
  | false => exact ite_ff ⟨.bl false, H3, I3, rfl, q3⟩
  | true => exact ite_tt (chain_last (thn (hc pins s3 σ H3 _ I3 q3) fun w' s4 ⟨z', H4, I4, r4, q4⟩ => ho' pins s4 σ H4 y z' u w' Q I4 r2 r4 q4))
theorem pt_chain {op op' : CmpOp} {r r' : R2} (ho : OpR X (compareOp op) r) (ho' : OpR X (compareOp op') r') (ha : PE X a ta) (hb : PE X b tb) (hc : PE X c tc)
    (hm : lastMarks [op, op'] [b, c] = false := by with_unfolding_all rfl) : PT X (.Compare a [op, op'] [b, c] pos) (tTest (tChain r r' ta tb tc)) := by
  intro pins s σ H Q I h
  refine isTrue_chain (thn (ha pins s σ H _ I h) fun v s1 ⟨x, H1, I1, r1, q1⟩ => test_link (thn (hb pins s1 σ H1 _ I1 q1) fun u s2 ⟨y, H2, I2, r2, q2⟩ =>
    thn (ho pins s2 σ H2 x y v u _ I2 r1 r2 q2) fun d s3 ⟨z, H3, I3, r3, k, e, q3⟩ => ?_)) hm
  subst e
  cases r3
  refine wpAny_truthy_bool ?_
  cases k with
  | false =>
    obtain ⟨k', e', q'⟩ := q3
    cases e'
    exact ite_ff ⟨H3, I3, q'⟩
  | true =>
    refine ite_tt (test_last (thn (hc pins s3 σ H3 _ I3 q3) fun w' s4 ⟨z', H4, I4, r4, q4⟩ => thn (ho' pins s4 σ H4 y z' u w' _ I4 r2 r4 q4) fun d' s5 ⟨z2, H5, I5, r5, k2, e2, q5⟩ => ?_))
    subst e2
    cases r5
    exact wpAny_truthy_bool ⟨H5, I5, q5⟩

/-! ### truth -/
/-- a value's truth by the abstract heap -/
def TruV (K : PySem.W.Frag) (x : V) (H : Hp) (k : Bool) : Prop :=
  match x with
  | .non => k = false
  | .bl b => k = b
  | .int i => k = (i != 0)
  | .str y => y.length ≤ sizeLine ∧ k = ((y.length : Int) != 0)
  | .byt y => y.size ≤ sizeLine ∧ k = ((y.size : Int) != 0)
  | .ref p => (∃ xs, SqL K H p xs ∧ k = !xs.isEmpty) ∨ (∃ xs, SqT K H p xs ∧ k = !xs.isEmpty) ∨ ∃ kvs, H p = some (.dK kvs) ∧ k = !kvs.isEmpty
  | _ => False
theorem isEmpty_kv {κ : Type} {kvs : List (κ × V)} {vs : List (κ × Value)} (r : KV kvs vs) : (!vs.isEmpty) = !kvs.isEmpty := by
  cases r <;> rfl
theorem isEmpty_of {xs : List V} {its : List Value} (r : Vals xs its) : (!its.toArray.isEmpty) = !xs.isEmpty := by
  cases r <;> simp
theorem line63 : (sizeLine : Nat) < 2 ^ 63 := by rw [sizeLine_eq]; decide
theorem tru_ok : TruR X (fun x H Q => ∃ k, TruV X.K x H k ∧ Q k H) := by
  intro pins s σ H x v Q I rx h
  obtain ⟨k, e, q⟩ := h
  have hl := line63
  have hs : sizeLine = 16777216 := sizeLine_eq
  cases x with
  | non =>
    cases rx
    have e' : k = false := e
    subst e'
    exact truthy_none ⟨H, I, q⟩
  | bl b =>
    cases rx
    have e' : k = b := e
    subst e'
    exact wpAny_truthy_bool ⟨H, I, q⟩
  | int i =>
    obtain ⟨t, rfl⟩ := rx
    have e' : k = (i != 0) := e
    subst e'
    exact PySem.P.truthy_int ⟨H, I, q⟩
  | str y =>
    obtain ⟨t, rfl⟩ := rx
    obtain ⟨hy, e'⟩ : y.length ≤ sizeLine ∧ k = ((y.length : Int) != 0) := e
    subst e'
    exact PySem.P.truthy_str (by omega) ⟨H, I.tok _, q⟩
  | byt y =>
    obtain ⟨t, rfl⟩ := rx
    obtain ⟨hy, e'⟩ : y.size ≤ sizeLine ∧ k = ((y.size : Int) != 0) := e
    subst e'
    exact PySem.W.truthy_bytes (by omega) ⟨H, I.tok _, q⟩
  | ref p =>
    cases rx
    have e' : (∃ xs, SqL X.K H p xs ∧ k = !xs.isEmpty) ∨ (∃ xs, SqT X.K H p xs ∧ k = !xs.isEmpty) ∨ ∃ kvs, H p = some (.dK kvs) ∧ k = !kvs.isEmpty := e
    rcases e' with ⟨xs, hx, e'⟩ | ⟨xs, hx, e'⟩ | ⟨kvs, hx, e'⟩
    · subst e'
      obtain ⟨its, r, pl, hz⟩ := I.list hx
      have hlen := r.length
      exact wpAny_truthy_list pl.isList (by simp only [List.size_toArray]; omega) ⟨H, I.tok _, by rw [isEmpty_of r]; exact q⟩
    · subst e'
      obtain ⟨its, r, pl, hz⟩ := I.tuple hx
      have hlen := r.length
      exact truthy_tuple pl (by simp only [List.size_toArray]; omega) ⟨H, I.tok _, by rw [isEmpty_of r]; exact q⟩
    · subst e'
      obtain ⟨hz, hS, vs, r, m⟩ : kvs.length ≤ sizeLine ∧ (p == sysModules) = false ∧ ∃ vs, KV kvs vs ∧ s.heap.DictOf (mixKind X.prog X.w) p vs := I.hok p _ hx
      have hlen : kvs.length = vs.length := Paired.length r
      exact wpAny_truthy_dict hS m (by omega) ⟨H, I.tok _, by rw [isEmpty_kv r]; exact q⟩
  | _ => exact (show False from e).elim
/-- any expression whose test is its value's truth (a name, a call, a subscript, a field ..: he by fun _ => rfl) -/
theorem pt_truth (ha : PE X a ta) (he : ∀ whole, isTrue a X.env whole = (do let v ← whole; standAt a.pos; holding [v] (truthy v))) :
    PT X a (fun σ H Q => ta σ H fun x H' => ∃ k, TruV X.K x H' k ∧ Q k H') := by
  intro pins s σ H Q I h
  exact isTrue_plain (thn (ha pins s σ H _ I h) fun v s1 ⟨x, H1, I1, r1, q1⟩ => tru_ok pins s1 σ H1 x v Q I1 r1 q1) (he _)

/-! ### strs and bytes -/
/-! ### scalar builtins, by CallR -/
theorem vals1 {x : V} {us : List Value} (r : Vals [x] us) : ∃ u, us = [u] ∧ RelV x u := by
  cases r with
  | cons r1 r2 => cases r2; exact ⟨_, rfl, r1⟩
theorem vals2 {x y : V} {us : List Value} (r : Vals [x, y] us) : ∃ u w', us = [u, w'] ∧ RelV x u ∧ RelV y w' := by
  cases r with
  | cons r1 r2 =>
    cases r2 with
    | cons r3 r4 => cases r4; exact ⟨_, _, rfl, r1, r3⟩
theorem call_abs : CallR X (.builtin "abs") (fun xs H Q => ∃ i, xs = [.int i] ∧ Q (.int (if i < 0 then -i else i)) H) := by
  intro pins s σ H xs us Q I r h
  obtain ⟨i, rfl, q⟩ := h
  obtain ⟨u, rfl, t, rfl⟩ := vals1 r
  exact call_abs_int fun u tk => ⟨.int (if i < 0 then -i else i), H, I.tok _, ⟨_, rfl⟩, q⟩
theorem call_max2 (hc : X.calm = true) : CallR X (.builtin "max") (fun xs H Q => ∃ i j, xs = [.int i, .int j] ∧ Q (.int (if j > i then j else i)) H) := by
  intro pins s σ H xs us Q I r h
  obtain ⟨i, j, rfl, q⟩ := h
  obtain ⟨u, w', rfl, ⟨t, rfl⟩, ⟨t', rfl⟩⟩ := vals2 r
  refine max_two_ints (I.ok.hd hc) fun h' tk k => ⟨_, H, I.kept k, ?_, q⟩
  by_cases hj : j > i
  · rw [if_pos hj, if_pos hj]; exact ⟨_, rfl⟩
  · rw [if_neg hj, if_neg hj]; exact ⟨_, rfl⟩
theorem call_min2 (hc : X.calm = true) : CallR X (.builtin "min") (fun xs H Q => ∃ i j, xs = [.int i, .int j] ∧ Q (.int (if j < i then j else i)) H) := by
  intro pins s σ H xs us Q I r h
  obtain ⟨i, j, rfl, q⟩ := h
  obtain ⟨u, w', rfl, ⟨t, rfl⟩, ⟨t', rfl⟩⟩ := vals2 r
  refine min_two_ints (I.ok.hd hc) fun h' tk k => ⟨_, H, I.kept k, ?_, q⟩
  by_cases hj : j < i
  · rw [if_pos hj, if_pos hj]; exact ⟨_, rfl⟩
  · rw [if_neg hj, if_neg hj]; exact ⟨_, rfl⟩
theorem call_int1 : CallR X (.type "int") (fun xs H Q => (∃ i, xs = [.int i] ∧ Q (.int i) H) ∨ ∃ k, xs = [.bl k] ∧ Q (.int (if k then 1 else 0)) H) := by
  intro pins s σ H xs us Q I r h
  rcases h with ⟨i, rfl, q⟩ | ⟨k, rfl, q⟩
  · obtain ⟨u, rfl, t, rfl⟩ := vals1 r
    exact call_int_int ⟨.int i, H, I, ⟨_, rfl⟩, q⟩
  · obtain ⟨u, rfl, r1⟩ := vals1 r
    cases r1
    exact call_int_bool ⟨.int (if k then 1 else 0), H, I.tok _, ⟨_, rfl⟩, q⟩
end
end L2

namespace L2
open PySem PySem.Spec PyProof.Rows

/-! ### an instance, its attributes a map -/
structure ObjM (h : Heap) (x dx C : Addr) (mA : Str → Option Value) : Prop where
  obj : h.get? x = some (PySem.W.instObj C dx)
  ns : h.Ns1 dx mA
  ne : dx ≠ x

section
variable {prog : Program} {w : World} {A : Around} {E : Value → Shared → Prop} {s : Shared} {K : PySem.W.Frag} {x dx C f : Addr} {mA : Str → Option Value} {name : Str} {v : Value}

end

/-! ### the attributes as a list of pairs -/
section
variable {P : Program} {w : World} {H H' : Hp} {h h' : Heap} {a C dx : Addr} {fs fs' : List (Str × V)}
end

/-! ### what of the text a class must have -/
structure Cls (K : PySem.W.Frag) (C : Addr) : Prop where
  pg : PySem.W.plainGet K C Str.empty = true
  hd : PySem.W.hasDictIn K C = true
  po : PySem.W.plainOver K C = true
  sa : PySem.W.findIn K (.ref C) "__setattr__" = some (some (.builtin "object.__setattr__"))
theorem Cls.get {K : PySem.W.Frag} {C : Addr} (c : Cls K C) (f : Str) : PySem.W.plainGet K C f = true := c.pg
/-- a constant of the class -/
structure Con (K : PySem.W.Frag) (C : Addr) (f : Str) (v : V) (u : Value) : Prop where
  at_ : PySem.W.findIn K (.ref C) f = some (some u)
  rel : RelV v u
  get : PySem.W.specialIn K u "__get__" = some none
  cp : PySem.W.copiedNames.contains f = false
/-- a method: a plain def of the class or of one above it -/
structure Meth (K : PySem.W.Frag) (C : Addr) (m : Str) (f : Addr) : Prop where
  at_ : PySem.W.findIn K (.ref C) m = some (some (.ref f))
  fn : PySem.W.isFn K (.ref f) = true
  kp : PySem.W.keepIn K (.ref f) = true

section
variable {X : Cx} {pins : List (Addr × Obj)} {σ : St} {H : Hp} {s : Shared} {a C dx : Addr} {fs : List (Str × V)} {f : Str} {v : V} {A : Around} {E : Value → Shared → Prop}

/-- a new instance, tracked, without attributes -/
theorem Inv.made (I : Inv X pins σ H s) : Inv X pins σ (upd (upd H s.heap.objs.size (.own (s.heap.objs.size + 1))) (s.heap.objs.size + 1) (.ins C s.heap.objs.size []))
    { s with heap := (s.heap.push PySem.W.emptyDict).push (PySem.W.instObj C s.heap.objs.size) } := by
  have e1 : (s.heap.push PySem.W.emptyDict).get? s.heap.objs.size = some PySem.W.emptyDict := Heap.get?_push_size s.heap rfl
  have e2 : ((s.heap.push PySem.W.emptyDict).push (PySem.W.instObj C s.heap.objs.size)).get? (s.heap.objs.size + 1) = some (PySem.W.instObj C s.heap.objs.size) := by
    have := Heap.get?_push_size (s.heap.push PySem.W.emptyDict) (o := PySem.W.instObj C s.heap.objs.size) rfl
    rwa [Heap.size_push] at this
  have e3 : (s.heap.push PySem.W.emptyDict).Ns s.heap.objs.size (fun _ => none) := ⟨PySem.W.emptyDict, #[], _, e1, rfl, (fun e he => absurd he (by simp)), fun _ => rfl⟩
  have I1 := I.laid (a := s.heap.objs.size) (o := .own (s.heap.objs.size + 1)) (h' := s.heap.push PySem.W.emptyDict) (t' := s.toks) (fun b u q => Heap.get?_push_of_some _ q) (Nat.le_refl _) ⟨_, e1⟩
  refine I1.laid (a := s.heap.objs.size + 1) (o := .ins C s.heap.objs.size []) (t' := s.toks) (fun b u q => Heap.get?_push_of_some _ q) (Nat.le_of_eq (Heap.size_push _ _)) ?_
  have ne : s.heap.objs.size ≠ s.heap.objs.size + 1 := Nat.ne_of_lt (Nat.lt_succ_self _)
  refine ⟨by rw [upd_ne ne, upd_same], Nat.zero_le _, ne, e2, fun _ => none, (Heap.Ns1.of_empty e3).at fun o q => Heap.get?_push_of_some _ q, fun _ => True.intro, fun y hy => absurd rfl hy⟩

end

/-! ### readings and rules -/
section
variable {X : Cx} {o e value : Expr} {f : Str} {pos pos' tpos : Pos} {ta tv : TE}
end

/-! ### isinstance -/
section
variable {X : Cx} {pins : List (Addr × Obj)} {σ : St} {H : Hp} {s : Shared} {A : Around} {E : Value → Shared → Prop} {Q : Value → Shared → Prop} {c : Value} {b : Bool}
/-- the type of a value, as the fragment's deciders take it; for an instance its class -/
inductive TyOf (K : PySem.W.Frag) (H : Hp) : V → Value → Prop where
  | non : TyOf K H .non (.type "NoneType")
  | bl (x : Bool) : TyOf K H (.bl x) (.type "bool")
  | int (i : Int) : TyOf K H (.int i) (.type "int")
  | str (x : Str) : TyOf K H (.str x) (.type "str")
  | flt (x : UInt64) : TyOf K H (.flt x) (.type "float")
  | lst {a : Addr} {xs : List V} (e : H a = some (.lst xs)) : TyOf K H (.ref a) (.type "list")
  | frz {a : Addr} {o : Obj} {xs : List V} (e : H a = some (.frz o (.lst xs))) : TyOf K H (.ref a) (.type "list")
  | tup {a : Addr} {xs : List V} (e : H a = some (.tup xs)) : TyOf K H (.ref a) (.type "tuple")
  | dK {a : Addr} {kvs : List (Key × V)} (e : H a = some (.dK kvs)) : TyOf K H (.ref a) (.type "dict")
  | dT {a : Addr} {kvs : List (List Key × V)} (e : H a = some (.dT kvs)) : TyOf K H (.ref a) (.type "dict")
  | ins {a C dx : Addr} {fs : List (Str × V)} (e : H a = some (.ins C dx fs)) (cl : Cls K C) (ha : PySem.W.findIn K (.ref C) "__class__" = some (some (.builtin "object.__class__")))
      (hn : PySem.W.specialIn K (.builtin "object.__class__") "__get__" = some (some (.builtin "getset_descriptor.__get__"))) (htk : PySem.W.takesIn K (.builtin "object.__class__") = some true)
      (hm : PySem.W.mroIn K C (.type "object") = some true) : TyOf K H (.ref a) (.ref C)
end
end L2

namespace L2
open PySem PySem.Spec PyProof.Rows

/-! ### room -/
structure Room (k : Nat) (A : Around) : Prop where
  hd : A.handled = none
  dp : A.depth + 3 * k + 5 < recursionLimit
  un : A.units + 16 * k + 200 < cLine
theorem Room.mono {j k : Nat} {A : Around} (r : Room k A) (h : j ≤ k) : Room j A := ⟨r.hd, by have := r.dp; omega, by have := r.un; omega⟩
theorem Room.deeper {k : Nat} {A : Around} (r : Room (k + 1) A) (env : Env) : Room k (A.deeper env) :=
  ⟨r.hd, by have := r.dp; show A.depth + 1 + 3 * k + 5 < _; omega, by have := r.un; show A.units + 3 + 16 * k + 200 < _; omega⟩
theorem Room.in1 {k : Nat} {A : Around} (r : Room (k + 1) A) : Room k A.in1 :=
  ⟨r.hd, by have := r.dp; show A.depth + 3 * k + 5 < _; omega, by have := r.un; show A.units + 1 + 16 * k + 200 < _; omega⟩
theorem Room.depth {k : Nat} {A : Around} (r : Room k A) : A.depth < recursionLimit := by have := r.dp; omega
theorem Room.units {k : Nat} {A : Around} (r : Room k A) : A.units + 64 < cLine := by have := r.un; omega
/-! ### argument lists and displays -/
def tNil : TA := fun _ H Q => Q [] H
def tCons (ta : TE) (tr : TA) : TA := fun σ H Q => ta σ H fun x H1 => tr σ H1 fun xs H2 => Q (x :: xs) H2
section
variable {X : Cx} {e : Expr} {es : List Expr} {te : TE} {t : TA} {pos : Pos}
theorem pa_nil : PA X [] tNil := fun _ _ _ _ H Q I h => Calls.spliced_nil ⟨[], H, I, .nil, h⟩
theorem pa_cons (ha : PE X e te) (hr : PA X es t) (hs : starEach (e :: es) X.env = (false, eval e X.env) :: starEach es X.env := by rfl) : PA X (e :: es) (tCons te t) := by
  intro pos pins s σ H Q I h
  rw [hs]
  show wpAny _ _ (spliced ((false, eval e X.env) :: backTo pos (starEach es X.env))) _ _ s
  refine Calls.spliced_cons (thn (ha pins s σ H _ I h) fun u s1 ⟨x, H1, I1, r1, q1⟩ => ?_)
  exact thn (hr pos pins s1 σ H1 _ I1 q1) fun us s2 ⟨xs, H2, I2, r2, q2⟩ => ⟨x :: xs, H2, I2, .cons r1 r2, q2⟩

/-- a tuple, a list of written items -/
def tTup (t : TA) : TE := fun σ H Q => t σ H fun xs H1 => xs.length ≤ sizeLine ∧ ∀ p, H1 p = none → Q (.ref p) (upd H1 p (.tup xs))
def tLst (t : TA) : TE := fun σ H Q => t σ H fun xs H1 => xs.length ≤ sizeLine ∧ ∀ p, H1 p = none → Q (.ref p) (upd H1 p (.lst xs))
theorem pe_tup {x1} (h : PA X es t) : PE X (.Tuple es x1 pos) (tTup t) := by
  intro pins s σ H Q I hq
  refine wpAny_Tuple_spliced (thn (h pos pins s σ H _ I hq) fun us s1 ⟨xs, H1, I1, r, z, q⟩ => ⟨by rw [← r.length]; exact z, ?_⟩)
  have hf : H1 s1.heap.objs.size = none := I1.hok.fresh (Nat.le_refl _)
  refine ⟨.ref s1.heap.objs.size, upd H1 s1.heap.objs.size (.tup xs), I1.laid (t' := s1.toks) (fun b u e => Heap.get?_push_of_some _ e) (Nat.le_refl _) ?_, rfl, q _ hf⟩
  exact ⟨z, us, r, ⟨_, Heap.get?_push_size _ rfl, rfl, _, rfl⟩, _, Heap.get?_push_size _ rfl, rfl⟩
theorem pe_lst (h : PA X es t) : PE X (.List es pos) (tLst t) := by
  intro pins s σ H Q I hq
  refine wpAny_List_spliced (thn (h pos pins s σ H _ I hq) fun us s1 ⟨xs, H1, I1, r, z, q⟩ => ⟨by rw [← r.length]; exact z, ?_⟩)
  have hf : H1 s1.heap.objs.size = none := I1.hok.fresh (Nat.le_refl _)
  refine ⟨.ref s1.heap.objs.size, upd H1 s1.heap.objs.size (.lst xs), I1.laid (t' := s1.toks) (fun b u e => Heap.get?_push_of_some _ e) (Nat.le_refl _) ?_, rfl, q _ hf⟩
  exact ⟨z, us, 0, r, Heap.get?_push_size _ rfl⟩
end

/-! ### what a def promises -/
/-- a def's promise: the bound arguments in the parameters' order, the heap, the wanted end, the wanted exception -/
abbrev Sp := List V → Hp → VK → XK → Prop
/-- how an exception lies behind a call (file 08 gives it): the callers' frames, abstract heap and state ahead of the call, the wish, the exception, the state -/
abbrev CXT := List Env → Hp → Shared → XK → Value → Shared → Prop

/-- the state at a call -/
structure Env0 (P : Program) (w : World) (K : PySem.W.Frag) (mg : Str → Option Value) (base : Heap) (A : Around) (outer : List Env) (s : Shared) (H : Hp) : Prop where
  frames : A.frames = some outer
  mod : Mod K mg base
  bs : ∀ b o, base.get? b = some o → s.heap.get? b = some o ∧ H b = none
  bsz : base.objs.size ≤ s.heap.objs.size
  funs : s.heap.FunFrames base outer
  frf : ∀ b ∈ frs outer, H b = none
  hok : HOk P w H s.heap
  bare : AllBare s.gens
/-- a call's end -/
def CE (outer : List Env) (P : Program) (w : World) (H : Hp) (s : Shared) (Q : VK) (u : Value) (s' : Shared) : Prop :=
  ∃ v H', s'.os = s.os ∧ AllBare s'.gens ∧ Un (frs outer) [] H H' s.heap s'.heap ∧ HOk P w H' s'.heap ∧ RelV v u ∧ Q v H'
def CR (CX : CXT) (outer : List Env) (P : Program) (w : World) (H : Hp) (s : Shared) (Q : VK) (E : XK) (r : Result) (s' : Shared) : Prop :=
  match r with
  | .ok (.ret u) => CE outer P w H s Q u s'
  | .ok _ => False
  | .error e => CX outer H s E e s'
structure FnOk (P : Program) (w : World) (K : PySem.W.Frag) (mg : Str → Option Value) (base : Heap) (CX : CXT) (k : Nat) (f : Addr) (fd : FuncData) (ps : List Str) (sp : Sp) : Prop where
  len : ∀ vs H Q E, sp vs H Q E → vs.length = ps.length
  run : ∀ (A : Around) (outer : List Env) (s : Shared) (H : Hp) (args : Args) (us : List Value) (vs : List V) (Q : VK) (E : XK), Room k A → Env0 P w K mg base A outer s H → BindsTo s fd args (ps.zip us) → Vals vs us → sp vs H Q E →
    codeAny (model P w) A (.call (.ref f) args) (CR CX outer P w H s Q E) s
theorem FnOk.mono {P : Program} {w : World} {K : PySem.W.Frag} {mg : Str → Option Value} {base : Heap} {CX : CXT} {j k : Nat} {f : Addr} {fd : FuncData} {ps : List Str} {sp : Sp} (F : FnOk P w K mg base CX j f fd ps sp) (h : j ≤ k) :
    FnOk P w K mg base CX k f fd ps sp := ⟨F.len, fun A outer s H args us vs Q E hr => F.run A outer s H args us vs Q E (hr.mono h)⟩
/-- a weaker promise -/
theorem FnOk.imp {P : Program} {w : World} {K : PySem.W.Frag} {mg : Str → Option Value} {base : Heap} {CX : CXT} {k : Nat} {f : Addr} {fd : FuncData} {ps : List Str} {sp sp' : Sp} (F : FnOk P w K mg base CX k f fd ps sp)
    (h : ∀ vs H Q E, sp' vs H Q E → sp vs H Q E) : FnOk P w K mg base CX k f fd ps sp' :=
  ⟨fun vs H Q E q => F.len vs H Q E (h _ _ _ _ q), fun A outer s H args us vs Q E hr he hb hv hs => F.run A outer s H args us vs Q E hr he hb hv (h _ _ _ _ hs)⟩

theorem Env0.in1 {P : Program} {w : World} {K : PySem.W.Frag} {mg : Str → Option Value} {base : Heap} {A : Around} {outer : List Env} {s : Shared} {H : Hp} (e : Env0 P w K mg base A outer s H) :
    Env0 P w K mg base A.in1 outer s H := ⟨e.frames, e.mod, e.bs, e.bsz, e.funs, e.frf, e.hok, e.bare⟩

section
variable {X : Cx} {pins : List (Addr × Obj)} {σ : St} {H : Hp} {s s' : Shared}
/-- from a body: what a callee wants -/
theorem Inv.env0 (I : Inv X pins σ H s) : Env0 X.prog X.w X.K X.mg X.base X.A X.stack s H :=
  ⟨I.ok.frames, I.ok.mod, I.bs, Nat.le_trans I.ok.bsz I.sz, I.stack, I.stkFree, I.hok, I.bare⟩
/-- behind a call -/
theorem Inv.after {Q : VK} {u : Value} (I : Inv X pins σ H s) (h : CE X.stack X.prog X.w H s Q u s') : EP X pins σ Q u s' := by
  obtain ⟨v, H', os, bare, un, hok, r, q⟩ := h
  obtain ⟨hh, g, d, t, os'⟩ := s'
  obtain rfl : os' = s.os := os
  exact ⟨v, H', I.call (h' := hh) (g' := g) (d' := d) (t' := t) (ch := []) un hok bare (fun b z => absurd z (by simp)), r, q⟩
end

/-! ### calls -/
/-- f(..): the written arguments, then the defaults dvs; E: what is wanted of an exception -/
def tCall (sp : Sp) (dvs : List V) (E : XK) (t : TA) : TE := fun σ H Q => t σ H fun vs H1 => sp (vs ++ dvs) H1 Q E
/-- how the parameters are bound: us the positional arguments, kw the keywords' values by name, ds the defaults that fill up -/
def Binds (K : PySem.W.Frag) (fd : FuncData) (ps : List Str) (ds : List Value) : Prop :=
  ∀ (s : Shared) (us : List Value), K.In s.heap → (us ++ ds).length = ps.length → BindsTo s fd ⟨us, []⟩ (ps.zip (us ++ ds))
/-- every parameter is given -/
theorem Binds.all {K : PySem.W.Frag} {fd : FuncData} {ps : List Str} (h : ∀ us : List Value, us.length = ps.length → bindArgs fd ⟨us, []⟩ = pure (ps.zip us)) : Binds K fd ps [] := fun s us _ hl => by
  rw [List.append_nil] at hl ⊢
  exact .of_eq (h us hl)

/-- an exception of a callee reaches what this body wants of exceptions -/
def Passes (CX : CXT) (X : Cx) (E : XK) : Prop := ∀ (pins : List (Addr × Obj)) (σ : St) (H : Hp) (s : Shared) (e : Value) (s' : Shared), Inv X pins σ H s → CX X.stack H s E e s' → X.xe e s'

section
variable {X : Cx} {CX : CXT} {k : Nat} {f C : Addr} {fd : FuncData} {ps : List Str} {sp : Sp} {dvs : List V} {ds : List Value} {E : XK} {x m : Str} {p pos apos : Pos} {e o : Expr} {es : List Expr} {ta : TE} {t : TA}

/-- the callee runs -/
theorem run_fn {pins : List (Addr × Obj)} {σ : St} {H : Hp} {s : Shared} {Q : VK} {us : List Value} {vs : List V} (F : FnOk X.prog X.w X.K X.mg X.base CX k f fd ps sp) (hr : Room k X.A) (hb : Binds X.K fd ps ds) (hd : Vals dvs ds) (hx : Passes CX X E)
    (I : Inv X pins σ H s) (r : Vals vs us) (h : sp (vs ++ dvs) H Q E) : wpAny (model X.prog X.w) X.A (call (.ref f) us) (EP X pins σ Q) X.xe s := by
  have r2 : Vals (vs ++ dvs) (us ++ ds) := r.append hd
  have hl : (us ++ ds).length = ps.length := by rw [← r2.length]; exact F.len _ _ _ _ h
  refine wpAny_call (codeAny_mono (F.run X.A X.stack s H ⟨us, []⟩ (us ++ ds) (vs ++ dvs) Q E hr I.env0 (hb s us I.kIn hl) r2 h) fun r s' hq => ?_)
  cases r with
  | error e => exact hx pins σ H s e s' I hq
  | ok fl =>
    cases fl with
    | ret u => exact I.after hq
    | next => exact False.elim hq
    | brk => exact False.elim hq
    | cont => exact False.elim hq

theorem pe_call (F : FnOk X.prog X.w X.K X.mg X.base CX k f fd ps sp) (hr : Room k X.A) (hg : Gl X x) (hm : X.mg x = some (.ref f)) (hk : PySem.W.keepIn X.K (.ref f) = true) (hb : Binds X.K fd ps ds) (hd : Vals dvs ds) (hx : Passes CX X E)
    (ha : PA X (e :: es) t) (hdb : (x == ("__debug__" : Str)) = false := by decide) (he : starEach (e :: es) X.env = (false, eval e X.env) :: starEach es X.env := by rfl) (hpl : (backTo pos (starEach es X.env)).any (·.1) = false := by rfl) :
    PE X (.Call (.Name x p) (e :: es) [] pos) (tCall sp dvs E t) := by
  intro pins s σ H Q I h
  refine wpAny_Call_Name_kw (ld_glob I hg hm ?_ hdb)
  refine PySem.W.callWith_K (h₀ := X.base) I.ok.mod.kin hk (thn (ha pos pins s σ H _ I h) fun us s1 ⟨vs, H1, I1, r, q⟩ => ⟨I1.kIn, ?_⟩) he hpl
  exact run_fn F hr hb hd hx I1 r q
/-- what a class must have to be made -/
structure Mk (K : PySem.W.Frag) (C f : Addr) : Prop where
  makes : PySem.W.makesIn K C = true
  init : PySem.W.findIn K (.ref C) "__init__" = some (some (.ref f))
  fn : PySem.W.isFn K (.ref f) = true
  kp : PySem.W.keepIn K (.ref C) = true

end

/-! ### keywords -/
section
variable {X : Cx} {CX : CXT} {k : Nat} {f C : Addr} {fd : FuncData} {ps ks : List Str} {sp : Sp} {E : XK} {x m : Str} {p pos apos kpos : Pos} {e o : Expr} {es : List Expr} {kws : List Keyword} {te ta : TE} {t tk : TA} {nm : Option Str}
/-- how a call with keywords binds: g puts the positional values us and the keywords' values ws (names ks) in the parameters' order, defaults among them -/
structure KBinds (K : PySem.W.Frag) (fd : FuncData) (ps ks : List Str) (g : List Value → List Value → List Value) (gV : List V → List V → List V) : Prop where
  to : ∀ (s : Shared) (us ws : List Value), K.In s.heap → (g us ws).length = ps.length → BindsTo s fd ⟨us, ks.zip ws⟩ (ps.zip (g us ws))
  rel : ∀ {vs : List V} {us : List Value} {zs : List V} {ws : List Value}, Vals vs us → Vals zs ws → Vals (gV vs zs) (g us ws)
variable {g : List Value → List Value → List Value} {gV : List V → List V → List V}
end

/-! ### a def's body keeps its promise -/
/-- names: the parameters first -/
structure FnScope (N P : List Str) (sc : Scope) : Prop where
  kind : sc.kind = .function
  co : sc.isCoroutine = false
  gen : sc.isGenerator = false
  nd : N.Nodup
  pre : N.take P.length = P
  par : ∀ x ∈ P, sc.names.lookup x = some .local ∨ sc.names.lookup x = some .cell
  nofree : ∀ y ∈ sc.names, y.2 ≠ .free

theorem bindL_out {kindOf : Str → Option NameKind} {x : Str} : ∀ {binds : List (Str × Value)} {m : Str → Option Value}, (∀ v, (x, v) ∉ binds) → bindL kindOf binds m x = m x
  | [], _, _ => rfl
  | (n, v) :: r, m, h => by
    unfold bindL
    rw [bindL_out fun w hw => h w (List.mem_cons_of_mem _ hw)]
    split
    · have : x ≠ n := by rintro rfl; exact h v List.mem_cons_self
      simp [this]
    · rfl
theorem bindC_out {kindOf : Str → Option NameKind} {x : Str} : ∀ {binds : List (Str × Value)} {m : Str → Option Value}, (∀ v, (x, v) ∉ binds) → bindC kindOf binds m x = m x
  | [], _, _ => rfl
  | (n, v) :: r, m, h => by
    unfold bindC
    rw [bindC_out fun w hw => h w (List.mem_cons_of_mem _ hw)]
    split
    · rfl
    · have : x ≠ n := by rintro rfl; exact h v List.mem_cons_self
      simp [this]
theorem bindL_get {kindOf : Str → Option NameKind} {x : Str} {v : Value} : ∀ {P : List Str} {vs : List Value} {i : Nat} {m : Str → Option Value}, P.Nodup → P[i]? = some x → vs[i]? = some v → kindOf x = some .local →
    bindL kindOf (P.zip vs) m x = some v
  | [], _, _, _, _, h, _, _ => by simp at h
  | _ :: _, [], _, _, _, _, h, _ => by simp at h
  | p :: P, w :: vs, 0, m, nd, h1, h2, hk => by
    simp at h1 h2; subst h1; subst h2
    show bindL kindOf ((p, w) :: P.zip vs) m p = _
    unfold bindL
    rw [bindL_out fun v hv => (List.nodup_cons.mp nd).1 (List.of_mem_zip hv).1, if_pos hk]
    simp
  | p :: P, w :: vs, i + 1, m, nd, h1, h2, hk => by
    show bindL kindOf ((p, w) :: P.zip vs) m x = _
    unfold bindL
    exact bindL_get (i := i) (List.nodup_cons.mp nd).2 (by simpa using h1) (by simpa using h2) hk
theorem bindC_get {kindOf : Str → Option NameKind} {x : Str} {v : Value} : ∀ {P : List Str} {vs : List Value} {i : Nat} {m : Str → Option Value}, P.Nodup → P[i]? = some x → vs[i]? = some v → kindOf x ≠ some .local →
    bindC kindOf (P.zip vs) m x = some v
  | [], _, _, _, _, h, _, _ => by simp at h
  | _ :: _, [], _, _, _, _, h, _ => by simp at h
  | p :: P, w :: vs, 0, m, nd, h1, h2, hk => by
    simp at h1 h2; subst h1; subst h2
    show bindC kindOf ((p, w) :: P.zip vs) m p = _
    unfold bindC
    rw [bindC_out fun v hv => (List.nodup_cons.mp nd).1 (List.of_mem_zip hv).1, if_neg hk]
    simp
  | p :: P, w :: vs, i + 1, m, nd, h1, h2, hk => by
    show bindC kindOf ((p, w) :: P.zip vs) m x = _
    unfold bindC
    exact bindC_get (i := i) (List.nodup_cons.mp nd).2 (by simpa using h1) (by simpa using h2) hk

/-- the names' values at the entry -/
def start (N : List Str) (vs : List V) : St := vs.map some ++ List.replicate (N.length - vs.length) none

/-- the context of a def's body, at its entry; an exception leaves the frame, then lies as CX says -/
def cxOf (CX : CXT) (P : Program) (w : World) (K : PySem.W.Frag) (mg : Str → Option Value) (base : Heap) (N : List Str) (qual : Str) (scope : Scope) (f : Addr) (cd : Value) (A : Around) (outer : List Env) (s : Shared) (H : Hp) (E : XK) : Cx where
  prog := P
  w := w
  K := K
  mg := mg
  base := base
  A := A.deeper (envOfC qual scope s.heap.objs.size f cd)
  N := N
  s₀ := s
  H₀ := H
  env := envOfC qual scope s.heap.objs.size f cd
  outer := outer
  stack := envOfC qual scope s.heap.objs.size f cd :: outer
  ex := []
  calm := true
  fn := fun _ => true
  pn := []
  xe := fun e s' => wpAny (model P w) (A.deeper (envOfC qual scope s.heap.objs.size f cd)) (leaving (envOfC qual scope s.heap.objs.size f cd) e) (fun _ s'' => CX outer H s E e s'') (fun e' s'' => CX outer H s E e' s'') s'

theorem cell_has {sc : Scope} {n : Nat} {x : Str} (h : sc.names.lookup x = some .cell) : ∃ c, (cellsFrom n sc.names []).lookup x = some c := by
  have q := PySem.W.cellsFrom_some sc.names n [] (.inl h)
  exact Option.isSome_iff_exists.mp q

theorem inv_start {CX : CXT} {P : Program} {w : World} {K : PySem.W.Frag} {mg : Str → Option Value} {base : Heap} {N ps : List Str} {qual : Str} {scope : Scope} {f : Addr} {cd : Value} {A : Around} {outer : List Env} {s s1 : Shared} {H : Hp} {E : XK} {us : List Value} {vs : List V}
    (S : FnScope N ps scope) (hd : A.handled = none) (e0 : Env0 P w K mg base A outer s H) (hl : vs.length = ps.length) (r : Vals vs us)
    (x : InCallC s s.heap.objs.size (bindL (envOfC qual scope s.heap.objs.size f cd).kindOf (ps.zip us) fun _ => none) (cellsFrom (s.heap.objs.size + 1) scope.names []) (bindC (envOfC qual scope s.heap.objs.size f cd).kindOf (ps.zip us) fun _ => none) s1) :
    Inv (cxOf CX P w K mg base N qual scope f cd A outer s H E) [] (start N vs) H s1 := by
  have hpl : ps.length ≤ N.length := by have := congrArg List.length S.pre; rw [List.length_take] at this; omega
  obtain ⟨h1, tk, rfl, hk⟩ := x.done
  have noA : ∀ b : Addr, b ∉ (cxOf CX P w K mg base N qual scope f cd A outer s H E).ex := fun b z => absurd (show b ∈ ([] : List Addr) from z) (by simp)
  refine ⟨⟨e0.mod, S.kind, rfl, rfl, Nat.le_refl _, fun y z c h1 h2 => ?_, fun y hy => ?_, fun y c _ h => ?_, fun _ => hd, Around.frames_deeper e0.frames, .inr ⟨rfl, rfl⟩, fun b z => absurd z (noA b), e0.bs, e0.bsz, fun b _ _ => noA b, fun b z => absurd z (noA b), e0.funs, e0.frf⟩,
    rfl, e0.bare, Un.kept hk, ⟨_, x.toInCall.ns, fun i y v h1 h2 h3 => ?_⟩, fun y c h => ⟨_, x.cell y c h⟩, e0.hok.fresh (Nat.le_refl _), fun y c h => ?_, fun p hp => absurd (show p ∈ ([] : List (Addr × Obj)) from hp) (by simp), e0.hok.kept hk, ?_⟩
  · exact name_of_addr x.apart (PySem.mem_of_lookup h1) (PySem.mem_of_lookup h2)
  · have hy : scope.names.lookup y = some .cell ∨ scope.names.lookup y = some .free := hy
    rcases hy with hy | hy
    · exact cell_has hy
    · exact absurd rfl (S.nofree _ (PySem.mem_of_lookup hy))
  · exact Nat.le_of_lt (x.above y c (PySem.mem_of_lookup h))
  · have hi : i < vs.length := by
      unfold start at h2
      by_cases hi : i < vs.length
      · exact hi
      · rw [List.getElem?_append_right (by simpa using hi)] at h2
        rw [List.getElem?_replicate] at h2
        split at h2 <;> cases h2
    have ha : vs[i]? = some v := by
      unfold start at h2
      rw [List.getElem?_append_left (by simpa using hi), List.getElem?_map] at h2
      cases e : vs[i]? with
      | none => rw [e] at h2; cases h2
      | some a => rw [e] at h2; cases h2; rfl
    obtain ⟨u, hu, rv⟩ := r.get ha
    have hp : ps[i]? = some y := by
      rw [← S.pre, List.getElem?_take_of_lt (by omega)]; exact h1
    have ndP : ps.Nodup := by rw [← S.pre]; exact S.nd.sublist (List.take_sublist _ _)
    refine ⟨u, rv, ?_⟩
    rcases S.par y (List.mem_of_getElem? hp) with k | k
    · exact .inl ⟨k, bindL_get ndP hp hu k⟩
    · obtain ⟨c, e⟩ := cell_has (n := s.heap.objs.size + 1) k
      refine .inr ⟨.inl k, c, e, ?_⟩
      have q := x.cell y c e
      rw [bindC_get ndP hp hu (by show scope.names.lookup y ≠ _; rw [k]; decide)] at q
      exact q
  · exact e0.hok.fresh (Nat.le_of_lt (x.above y c (PySem.mem_of_lookup h)))
  · unfold start
    show _ = N.length
    rw [List.length_append, List.length_map, List.length_replicate]
    omega

/-- THE RULE: a def (or a method) of the text, by its body. The body's reading t is chosen for each entry; it is run at the parameters' values -/
theorem fn_of {CX : CXT} {P : Program} {w : World} {K : PySem.W.Frag} {mg : Str → Option Value} {base : Heap} {k : Nat} {f : Addr} {name qual : Str} {params : Arguments} {body : List Stmt} {scope : Scope} {dV kV doc pm cdv ct oc : Value} {an od : Option Addr}
    {osl : Array (Option Value)} {N ps : List Str} {sp : Sp} (lk : K.lookup f = some ⟨oc, od, .func (PySem.W.fnOf name qual params body scope dV kV doc pm an cdv ct), osl⟩) (hcd : PySem.W.codeIn K cdv qual = true) (S : FnScope N ps scope)
    (len : ∀ vs H Q E, sp vs H Q E → vs.length = ps.length)
    (hbody : ∀ (A : Around) (outer : List Env) (s : Shared) (H : Hp) (vs : List V) (Q : VK) (E : XK), Room k (A.deeper (envOfC qual scope s.heap.objs.size f cdv)) → sp vs H Q E →
      ∃ t, PSs (cxOf CX P w K mg base N qual scope f cdv A outer s H E) body t ∧ t { nx := fun _ H' => Q .non H', rt := Q } (start N vs) H) :
    FnOk P w K mg base CX (k + 1) f (PySem.W.fnOf name qual params body scope dV kV doc pm an cdv ct) ps sp := by
  refine ⟨len, fun A outer s H args us vs Q E hr e0 hb r hsp => ?_⟩
  have hl := len _ _ _ _ hsp
  have KX : K.In s.heap := e0.mod.kin.keeps fun b o e => (e0.bs b o e).1
  have lim : s.heap.NoLimit := e0.mod.nolimit.keeps fun b o e => (e0.bs b o e).1
  have hkind : ∀ y ∈ ps.zip us, scope.names.lookup y.1 = some .local ∨ (scope.names.lookup y.1 = some .cell ∧ ((cellsFrom (s.heap.objs.size + 1) scope.names []).lookup y.1).isSome = true) := fun ⟨n, v⟩ hy => by
    rcases S.par n (List.of_mem_zip hy).1 with q | q
    · exact .inl q
    · exact .inr ⟨q, PySem.W.cellsFrom_some _ _ _ (.inl q)⟩
  refine codeAny_call_function hr.depth (KX _ _ lk) rfl S.co S.gen rfl (PySem.W.codeRec_of KX hcd) (hb _ _ _ _ ?_)
  refine wpAny_newFunctionEnv_cells S.kind hkind fun env he s1 x => ?_
  subst he
  refine ⟨lim.keeps x.toInCall.keep, codeAny_func ?_⟩
  obtain ⟨t, ht, hq⟩ := hbody A outer s H vs Q E (hr.deeper _) hsp
  have I : Inv (cxOf CX P w K mg base N qual scope f cdv A outer s H E) [] (start N vs) H s1 := inv_start S hr.hd e0 hl r x
  refine wpAny_mono (ht [] s1 (start N vs) H _ I hq) (fun fl s' hs => ?_) fun e s' hs => hs
  have fin : ∀ {σ' : St} {H' : Hp} {v : V} {u : Value}, Inv (cxOf CX P w K mg base N qual scope f cdv A outer s H E) [] σ' H' s' → RelV v u → Q v H' → CE outer P w H s Q u s' :=
    fun {σ' H' v u} J rv q => ⟨v, H', J.os, J.bare, J.base, J.hok, rv, q⟩
  cases fl with
  | ret u =>
    obtain ⟨v, σ', H', J, rv, q⟩ := hs
    exact fin J rv q
  | next =>
    obtain ⟨σ', H', J, q⟩ := hs
    exact fin (v := V.non) (u := Value.none) J rfl q
  | brk =>
    obtain ⟨_, _, _, q⟩ := hs
    exact False.elim q
  | cont =>
    obtain ⟨_, _, _, q⟩ := hs
    exact False.elim q
end L2

namespace L2
open PySem PySem.Spec PyProof.Rows
section
variable {X : Cx} {x : Str} {p pos : Pos} {e : Expr} {es : List Expr} {t : TA} {id T : String} {r : List V → Hp → VK → Prop}

def tCB (r : List V → Hp → VK → Prop) (t : TA) : TE := fun σ H Q => t σ H fun vs H1 => r vs H1 Q
/-- f(e, ..), f a built-in function -/
theorem pe_callB (hc : CallR X (.builtin id) r) (hg : Gl X x) (hm : X.mg x = none) (hv : bootBuiltins x = some (.builtin id)) (ha : PA X (e :: es) t) (hn : x ≠ "__name__" := by decide) (hdb : (x == ("__debug__" : Str)) = false := by decide)
    (he : starEach (e :: es) X.env = (false, eval e X.env) :: starEach es X.env := by rfl) (hpl : (backTo pos (starEach es X.env)).any (·.1) = false := by rfl) : PE X (.Call (.Name x p) (e :: es) [] pos) (tCB r t) := by
  intro pins s σ H Q I h
  refine wpAny_Call_Name_kw (ld_blt I hg hm hv ?_ hn hdb)
  exact PyProof.Rows.callWith_builtin1 (thn (ha pos pins s σ H _ I h) fun us s1 ⟨vs, H1, I1, r1, q1⟩ => hc pins s1 σ H1 vs us Q I1 r1 q1) he hpl
/-- T(e, ..), T a built-in type -/
theorem pe_callTy (hc : CallR X (.type T) r) (hg : Gl X x) (hm : X.mg x = none) (hv : bootBuiltins x = some (.type T)) (ha : PA X (e :: es) t) (hn : x ≠ "__name__" := by decide) (hdb : (x == ("__debug__" : Str)) = false := by decide)
    (he : starEach (e :: es) X.env = (false, eval e X.env) :: starEach es X.env := by rfl) (hpl : (backTo pos (starEach es X.env)).any (·.1) = false := by rfl) : PE X (.Call (.Name x p) (e :: es) [] pos) (tCB r t) := by
  intro pins s σ H Q I h
  refine wpAny_Call_Name_kw (ld_blt I hg hm hv ?_ hn hdb)
  exact PyProof.Rows.callWith_type1 (thn (ha pos pins s σ H _ I h) fun us s1 ⟨vs, H1, I1, r1, q1⟩ => hc pins s1 σ H1 vs us Q I1 r1 q1) he hpl
end
end L2

namespace HT
open PySem PyProof.Rows

section
open PySem.SeqAt
open PySem.AutoSeq1 (wpAny_loadPart')
open PySem.MeetsSeq PySem.MeetsSeq2 PySem.MeetsSeq3

end

section
variable {prog : Program} {w : World} {A : Around} {E : Value → Shared → Prop} {s : Shared}

/-! ### t[a:b], not the whole -/
end
end HT

namespace L2
open PySem PySem.Spec PyProof.Rows

/-! ### the parts of a slice -/
abbrev TO := St → Hp → (Option Int → Hp → Prop) → Prop
/-- a slice's part (left out, or an int) -/
def PO (X : Cx) (e : Option Expr) (t : TO) : Prop :=
  ∀ (pins : List (Addr × Obj)) (s : Shared) (σ : St) (H : Hp) (Q : Option Int → Hp → Prop), Inv X pins σ H s → t σ H Q →
    wpAny (model X.prog X.w) X.A (evalPart e X.env) (fun u s' => ∃ o H', Inv X pins σ H' s' ∧ IsPart u o ∧ Q o H') X.xe s
section
variable {X : Cx} {e : Expr} {te : TE} {lo hi : Option Expr} {tl th : TO} {pos p2 : Pos}

/-- what a slice of a value is, by values: the slice object stands at sl -/
def SlR (X : Cx) (r : V → Option Int → Option Int → Hp → VK → Prop) : Prop :=
  ∀ (pins : List (Addr × Obj)) (s : Shared) (σ : St) (H : Hp) (x : V) (v vl vu : Value) (lo hi : Option Int) (sl : Addr) (Q : VK), Inv X pins σ H s → RelV x v → s.heap.IsSliceOf sl vl vu .none → IsPart vl lo → IsPart vu hi → r x lo hi H Q →
    ∃ T id, typeLookup (.type T) "__getitem__" = pure (some (.builtin id)) ∧ s.TypeIs v T ∧ wpAny (model X.prog X.w) X.A (getItem v (.ref sl)) (EP X pins σ Q) X.xe s
theorem SlR.or {r r' : V → Option Int → Option Int → Hp → VK → Prop} (h : SlR X r) (h' : SlR X r') : SlR X (fun x lo hi H Q => r x lo hi H Q ∨ r' x lo hi H Q) := by
  intro pins s σ H x v vl vu lo hi sl Q I rx hs pl pu q
  rcases q with q | q
  · exact h pins s σ H x v vl vu lo hi sl Q I rx hs pl pu q
  · exact h' pins s σ H x v vl vu lo hi sl Q I rx hs pl pu q
/-! ### t < u, t + u -/
end
end L2

namespace L2
open PySem PySem.Spec PyProof.Rows

/-! ### places -/
/-- the place that an index of any sign means -/
def ixN (n : Nat) (i : Int) : Option Nat := if 0 ≤ i then (if i < n then some i.toNat else none) else if -(n : Int) ≤ i then some (i + n).toNat else none
def atI {α : Type} (xs : List α) (i : Int) : Option α := (ixN xs.length i).bind fun j => xs[j]?
theorem ixN_seq {n : Nat} {i : Int} {j : Nat} (h : ixN n i = some j) : seqIndex? i n = some j ∧ j < n ∧ -(n : Int) ≤ i ∧ i < n := by
  unfold ixN at h
  by_cases h0 : 0 ≤ i
  · rw [if_pos h0] at h
    by_cases h1 : i < n
    · rw [if_pos h1] at h
      have e : i.toNat = j := Option.some.inj h
      exact ⟨by rw [seqIndex_of h0 h1, e], by omega, by omega, h1⟩
    · rw [if_neg h1] at h; cases h
  · rw [if_neg h0] at h
    by_cases h1 : -(n : Int) ≤ i
    · rw [if_pos h1] at h
      have e : (i + n).toNat = j := Option.some.inj h
      exact ⟨by rw [seqIndex_neg (by omega) h1, e], by omega, h1, by omega⟩
    · rw [if_neg h1] at h; cases h
theorem atI_get {α : Type} {xs : List α} {i : Int} {v : α} (h : atI xs i = some v) : ∃ j, seqIndex? i xs.length = some j ∧ xs[j]? = some v ∧ j < xs.length ∧ -(xs.length : Int) ≤ i ∧ i < xs.length := by
  unfold atI at h
  cases e : ixN xs.length i with
  | none => rw [e] at h; cases h
  | some j =>
    rw [e] at h
    obtain ⟨h1, h2, h3, h4⟩ := ixN_seq e
    exact ⟨j, h1, h, h2, h3, h4⟩
theorem atI_nat {α : Type} {xs : List α} {j : Nat} {v : α} (h : xs[j]? = some v) : atI xs (j : Int) = some v := by
  have hj : j < xs.length := (List.getElem?_eq_some_iff.mp h).1
  have e : ixN xs.length (j : Int) = some j := by
    unfold ixN
    rw [if_pos (by omega), if_pos (by omega)]; simp
  unfold atI; rw [e]; exact h
/-! ### what may be subscripted -/
/-- what stands as an index of a plain subscript -/
def PlainIx (b : Expr) : Prop := ∀ o i, subscripted b false o i = operate [o, i] (getItem o i)
/-- a subscript by values -/
def IxR (X : Cx) (r : R2) : Prop :=
  ∀ (value slice : Expr) (pins : List (Addr × Obj)) (s : Shared) (σ : St) (H : Hp) (x y : V) (v u : Value) (Q : VK), Inv X pins σ H s → RelV x v → RelV y u → r x y H Q →
    subscripted slice false v u = operate [v, u] (getItem v u) → wpAny (model X.prog X.w) X.A (subscriptTail value slice v u) (EP X pins σ Q) X.xe s
/-- a call of a builtin's method by values: the receiver, the arguments -/
def MtR (X : Cx) (id : String) (r : V → List V → Hp → VK → Prop) : Prop :=
  ∀ (pins : List (Addr × Obj)) (s : Shared) (σ : St) (H : Hp) (x : V) (xs : List V) (v : Value) (us : List Value) (Q : VK), Inv X pins σ H s → RelV x v → Vals xs us → r x xs H Q →
    wpAny (model X.prog X.w) X.A (call (.builtin id) (v :: us)) (EP X pins σ Q) X.xe s
section
variable {X : Cx} {a b : Expr} {ta tb : TE} {pos : Pos}
theorem IxR.or {r r' : R2} (h : IxR X r) (h' : IxR X r') : IxR X (fun x y H Q => r x y H Q ∨ r' x y H Q) := by
  intro value slice pins s σ H x y v u Q I rx ry q hs
  rcases q with q | q
  · exact h value slice pins s σ H x y v u Q I rx ry q hs
  · exact h' value slice pins s σ H x y v u Q I rx ry q hs
theorem MtR.or {id : String} {r r' : V → List V → Hp → VK → Prop} (h : MtR X id r) (h' : MtR X id r') : MtR X id (fun x xs H Q => r x xs H Q ∨ r' x xs H Q) := by
  intro pins s σ H x xs v us Q I rx rs q
  rcases q with q | q
  · exact h pins s σ H x xs v us Q I rx rs q
  · exact h' pins s σ H x xs v us Q I rx rs q
/-- a[b] -/
theorem pe_ix {r : R2} (hr : IxR X r) (ha : PE X a ta) (hb : PE X b tb) (hs : PlainIx b) : PE X (.Subscript a b pos) (tOp r ta tb) := by
  intro pins s σ H Q I h
  exact Subscript_ (binT ha hb I h fun v u s2 x y H2 I2 rx ry q => hr a b pins s2 σ H2 x y v u Q I2 rx ry q (hs _ _))

def rIxL (K : PySem.W.Frag) : R2 := fun x y H Q => ∃ p xs i v, x = .ref p ∧ y = .int i ∧ SqL K H p xs ∧ atI xs i = some v ∧ Q v H
def rIxT (K : PySem.W.Frag) : R2 := fun x y H Q => ∃ p xs i v, x = .ref p ∧ y = .int i ∧ SqT K H p xs ∧ atI xs i = some v ∧ Q v H
def rIxS : R2 := fun x y H Q => ∃ z i c, x = .str z ∧ y = .int i ∧ z.length ≤ sizeLine ∧ atI z.cps.toList i = some c ∧ Q (.str ⟨#[c]⟩) H
theorem ix_list : IxR X (rIxL X.K) := by
  intro value slice pins s σ H x y v u Q I rx ry h hs
  obtain ⟨p, xs, i, z, rfl, rfl, hq, he, q⟩ := h
  cases rx
  obtain ⟨t, rfl⟩ := ry
  obtain ⟨its, r, pl, hz⟩ := I.list hq
  obtain ⟨j, h1, h2, h3, h4, h5⟩ := atI_get he
  obtain ⟨w, ew, rw'⟩ := r.get h2
  have hl := r.length
  have hn := line63
  have fin : EP X pins σ Q w s := ⟨z, H, I, rw', q⟩
  by_cases h0 : 0 ≤ i
  · have hj : i.toNat = j := by
      rw [seqIndex_of h0 h5] at h1
      exact Option.some.inj h1
    exact item_listR pl.isList h0 (by omega) (by rw [hj]; simpa using ew) fin hs
  · have hj : (i + (its.toArray.size : Int)).toNat = j := by
      rw [seqIndex_neg (by omega) h4] at h1
      rw [List.size_toArray, ← hl]
      exact Option.some.inj h1
    exact subscriptTail_builtinR (x := w) pl.isList.typeIs slot_list_getitem.lookup
      (wpAny_getItem_list_neg (Q := fun r s' => r = w ∧ EP X pins σ Q r s') pl.isList (by omega) (by rw [List.size_toArray] <;> omega) (by omega) (by rw [hj]; simpa using ew) ⟨rfl, fin⟩) hs
theorem ix_tup : IxR X (rIxT X.K) := by
  intro value slice pins s σ H x y v u Q I rx ry h hs
  obtain ⟨p, xs, i, z, rfl, rfl, hq, he, q⟩ := h
  cases rx
  obtain ⟨t, rfl⟩ := ry
  obtain ⟨its, r, pl, hz⟩ := I.tuple hq
  obtain ⟨j, h1, h2, h3, h4, h5⟩ := atI_get he
  obtain ⟨w, ew, rw'⟩ := r.get h2
  have hl := r.length
  have hn := line63
  have fin : EP X pins σ Q w s := ⟨z, H, I, rw', q⟩
  exact subscriptTail_builtinR (x := w) pl.typeIs slot_tuple_getitem.lookup
    (getItem_tuple (j := j) (Q := fun r s' => r = w ∧ EP X pins σ Q r s') pl (by omega) (by omega) (by rw [List.size_toArray, ← hl]; exact h1) (by simpa using ew) ⟨rfl, fin⟩) hs
theorem ix_str : IxR X rIxS := by
  intro value slice pins s σ H x y v u Q I rx ry h hs
  obtain ⟨z, i, c, rfl, rfl, hz, he, q⟩ := h
  obtain ⟨t, rfl⟩ := rx
  obtain ⟨t', rfl⟩ := ry
  obtain ⟨j, h1, h2, h3, h4, h5⟩ := atI_get he
  have hl : z.cps.toList.length = z.length := by simp [Str.length]
  rw [hl] at h1 h4 h5
  have hn := line63
  exact tail_any (typeIs_str s z t) slot_str_getitem.lookup (getItem_str (c := c) (by
    have e1 : decide (i < -(2 ^ 63 : Int)) = false := decide_eq_false (by omega)
    have e2 : decide (i ≥ 2 ^ 63) = false := decide_eq_false (by omega)
    rw [e1, e2, Bool.or_false]) (by rw [h1]; simpa using h2) ⟨.str ⟨#[c]⟩, H, I.tok _, ⟨_, rfl⟩, q⟩) hs
/-- list, tuple or str -/
def rIx (K : PySem.W.Frag) : R2 := fun x y H Q => rIxL K x y H Q ∨ rIxT K x y H Q ∨ rIxS x y H Q
theorem ix_seq : IxR X (rIx X.K) := ix_list.or (ix_tup.or ix_str)

/-! ### xs[i] = v, any sign -/
/-- the list's object behind a store -/
theorem mapSeq_set (its : List Value) (n j : Nat) (u : Value) : Obj.mapSeq (·.setIfInBounds j u) { cls := .type "list", data := .seq its.toArray n } = { cls := .type "list", data := .seq (its.set j u).toArray n } := by
  simp [Obj.mapSeq]
theorem Inv.lst {pins : List (Addr × Obj)} {σ : St} {H : Hp} {s : Shared} {p : Addr} {xs : List V} (I : Inv X pins σ H s) (h : H p = some (.lst xs)) :
    ∃ (its : List Value) (n : Nat), Vals xs its ∧ s.heap.get? p = some { cls := .type "list", data := .seq its.toArray n } ∧ xs.length ≤ sizeLine := by
  obtain ⟨z, its, n, r, e⟩ := I.hok p _ h
  exact ⟨its, n, r, e, z⟩
/-- the list at p is written by an update of its object -/
theorem Inv.lstUpd {pins : List (Addr × Obj)} {σ : St} {H : Hp} {s : Shared} {p : Addr} {xs ys : List V} {its its' : List Value} {n n' : Nat} {f : Obj → Obj} (I : Inv X pins σ H s) (h : H p = some (.lst xs))
    (ho : s.heap.get? p = some { cls := .type "list", data := .seq its.toArray n }) (hf : f { cls := .type "list", data := .seq its.toArray n } = { cls := .type "list", data := .seq its'.toArray n' }) (r : Vals ys its') (hz : ys.length ≤ sizeLine) (t : Nat) :
    Inv X pins σ (upd H p (.lst ys)) { s with heap := s.heap.update p f, toks := t } := by
  have e : (s.heap.update p f).get? p = some { cls := .type "list", data := .seq its'.toArray n' } := by
    rw [Heap.get?_update_self f ho (by rw [hf] <;> rfl), hf]
  refine I.write (x := p) (e := p) (by rw [h]; trivial) (.inl rfl) (fun b u hb q => (Heap.get?_update_other _ _ (Ne.symm hb)).trans q) ⟨_, e⟩ ?_
  exact ⟨hz, its', n', r, e⟩
def rSetL : V → V → V → Hp → (Hp → Prop) → Prop := fun o i v H Q => ∃ p xs k j, o = .ref p ∧ i = .int k ∧ H p = some (.lst xs) ∧ ixN xs.length k = some j ∧ Q (upd H p (.lst (xs.set j v)))
theorem set_list : PSet X rSetL := by
  intro pins s σ H o i v ov iv u Q I ro ri rv h
  obtain ⟨p, xs, k, j, rfl, rfl, hp, hj, q⟩ := h
  cases ro
  obtain ⟨t, rfl⟩ := ri
  obtain ⟨its, n, r, ho, hz⟩ := I.lst hp
  obtain ⟨h1, h2, h3, h4⟩ := ixN_seq hj
  have hl := r.length
  have hn := line63
  have I' : Inv X pins σ (upd H p (.lst (xs.set j v))) { s with heap := s.heap.update p (Obj.mapSeq (·.setIfInBounds j u)) } :=
    I.lstUpd hp ho (mapSeq_set its n j u) (r.set rv j) (by rw [List.length_set]; exact hz) s.toks
  by_cases h0 : 0 ≤ k
  · have hk : k.toNat = j := by
      rw [seqIndex_of h0 h4] at h1
      exact Option.some.inj h1
    exact PySem.W.ki_setAt ho h0 (by omega) (by rw [List.size_toArray, ← hl]; exact h4) (by rw [hk]; exact ⟨_, I', q⟩)
  · have hk : (k + (its.toArray.size : Int)).toNat = j := by
      rw [seqIndex_neg (by omega) h3] at h1
      rw [List.size_toArray, ← hl]
      exact Option.some.inj h1
    exact PySem.W.ki_setBack ho (by omega) (by rw [List.size_toArray, ← hl]; exact h3) (by omega) (by rw [hk]; exact ⟨_, I', q⟩)

/-! ### slices -/
/-! ### in, not in: flat items -/
/-! ### len, list(x), tuple(x) of any list or tuple that is read -/
theorem call_len_seq : CallR X (.builtin "len") (fun xs H Q => ∃ p ys, xs = [.ref p] ∧ (SqL X.K H p ys ∨ SqT X.K H p ys) ∧ Q (.int ys.length) H) := by
  intro pins s σ H xs us Q I r h
  obtain ⟨p, ys, rfl, hq, q⟩ := h
  obtain ⟨u, rfl, rx⟩ := vals1 r
  cases rx
  have hn := line63
  rcases hq with hq | hq
  · obtain ⟨its, r', pl, hz⟩ := I.list hq
    have hlen := r'.length
    exact Calls.call_len_list pl.isList (by simp only [List.size_toArray] <;> omega) ⟨.int ys.length, H, I.tok _, ⟨s.toks + 1, by rw [List.size_toArray, hlen]⟩, q⟩
  · obtain ⟨its, r', pl, hz⟩ := I.tuple hq
    have hlen := r'.length
    exact len_tuple pl (by simp only [List.size_toArray] <;> omega) ⟨.int ys.length, H, I.tok _, ⟨s.toks + 1, by rw [List.size_toArray, hlen]⟩, q⟩
theorem CallR.or {f : Value} {r r' : List V → Hp → VK → Prop} (h : CallR X f r) (h' : CallR X f r') : CallR X f (fun xs H Q => r xs H Q ∨ r' xs H Q) := by
  intro pins s σ H xs us Q I rs q
  rcases q with q | q
  · exact h pins s σ H xs us Q I rs q
  · exact h' pins s σ H xs us Q I rs q
theorem call_list_of : CallR X (.type "list") (fun xs H Q => ∃ p ys, xs = [.ref p] ∧ (SqL X.K H p ys ∨ SqT X.K H p ys) ∧ ∀ l, H l = none → Q (.ref l) (upd H l (.lst ys))) := by
  intro pins s σ H xs us Q I r h
  obtain ⟨p, ys, rfl, hq, q⟩ := h
  obtain ⟨u, rfl, rx⟩ := vals1 r
  cases rx
  have fin : ∀ (its : List Value), Vals ys its → ys.length ≤ sizeLine → ∀ (h' : Heap) (c' : Nat), (∀ b o', s.heap.get? b = some o' → h'.get? b = some o') →
      h'.get? s.heap.objs.size = some { cls := .type "list", dict := none, data := .seq its.toArray c', slots := #[] } → EP X pins σ Q (.ref s.heap.objs.size) { s with heap := h' } := fun its r' hz h' c' kp e =>
    ⟨.ref s.heap.objs.size, _, I.laid (t' := s.toks) kp (Nat.le_refl _) (show ObjOk X.prog X.w _ h' _ (.lst ys) from ⟨hz, its, c', r', e⟩), rfl, q _ (I.hok.fresh (Nat.le_refl _))⟩
  rcases hq with hq | hq
  · obtain ⟨its, r', pl, hz⟩ := I.list hq
    have hlen := r'.length
    obtain ⟨o, ho, hc, n, hd⟩ := pl.isList
    exact call_list_seq p (.inl rfl) ho hc hd (fun h' c' kp e => fin its r' hz h' c' kp e) (by simp only [List.size_toArray] <;> omega)
  · obtain ⟨its, r', pl, hz⟩ := I.tuple hq
    have hlen := r'.length
    obtain ⟨o, ho, hc, n, hd⟩ := pl
    exact call_list_seq p (.inr rfl) ho hc hd (fun h' c' kp e => fin its r' hz h' c' kp e) (by simp only [List.size_toArray] <;> omega)
theorem call_tuple_of : CallR X (.type "tuple") (fun xs H Q => ∃ p ys, xs = [.ref p] ∧ ((SqL X.K H p ys ∧ ∀ l, H l = none → Q (.ref l) (upd H l (.tup ys))) ∨ (SqT X.K H p ys ∧ Q (.ref p) H))) := by
  intro pins s σ H xs us Q I r h
  obtain ⟨p, ys, rfl, h⟩ := h
  obtain ⟨u, rfl, rx⟩ := vals1 r
  cases rx
  rcases h with ⟨hq, q⟩ | ⟨hq, q⟩
  · obtain ⟨its, r', pl, hz⟩ := I.list hq
    have hlen := r'.length
    refine call_tuple_list pl.isList (fun h' kp => ?_) (by simp only [List.size_toArray] <;> omega)
    have I1 : Inv X pins σ H { s with heap := h' } := I.kept (t' := s.toks) kp
    have I2 : Inv X pins σ (upd H h'.objs.size (.tup ys)) { s with heap := h'.push { cls := .type "tuple", data := .seq its.toArray } } :=
      I1.laid (t' := s.toks) (fun b o e => Heap.get?_push_of_some _ e) (Nat.le_refl _) (show ObjOk X.prog X.w _ _ _ (.tup ys) from ⟨hz, its, r', IsTup.new _ _, _, Heap.get?_push_size _ rfl, rfl⟩)
    exact ⟨.ref h'.objs.size, _, I2, rfl, q _ (I1.hok.fresh (Nat.le_refl _))⟩
  · obtain ⟨its, r', pl, hz⟩ := I.tuple hq
    exact call_tuple_same pl ⟨.ref p, H, I, rfl, q⟩

/-! ### the call of a builtin's method: o.m(..) -/
/-- the value is of that builtin type -/
def tyV (K : PySem.W.Frag) (T : String) (x : V) (H : Hp) : Prop := match x with
  | .str _ => T = "str"
  | .int _ => T = "int"
  | .ref p => (T = "list" ∧ ∃ xs, SqL K H p xs) ∨ (T = "tuple" ∧ ∃ xs, SqT K H p xs) ∨
      (T = "dict" ∧ ((∃ kvs, H p = some (.dK kvs)) ∨ ∃ kvs, H p = some (.dT kvs))) ∨ (T = "set" ∧ ∃ S n, H p = some (.set S n)) ∨ (T = "set" ∧ ∃ xs, H p = some (.tst xs))
  | _ => False
theorem tyV_is {pins : List (Addr × Obj)} {σ : St} {H : Hp} {s : Shared} {T : String} {x : V} {v : Value} (I : Inv X pins σ H s) (r : RelV x v) (ty : tyV X.K T x H) :
    s.TypeIs v T ∧ ∀ a, v = .ref a → ∃ ob, s.heap.get? a = some ob ∧ ob.dict = none := by
  cases x with
  | str z =>
    obtain ⟨t, rfl⟩ := r
    cases (show T = "str" from ty)
    exact ⟨typeIs_str s z t, fun _ e => nomatch e⟩
  | int i =>
    obtain ⟨t, rfl⟩ := r
    cases (show T = "int" from ty)
    exact ⟨typeIs_int s i t, fun _ e => nomatch e⟩
  | ref p =>
    cases r
    rcases ty with ⟨rfl, xs, hq⟩ | ⟨rfl, xs, hq⟩ | ⟨rfl, hk⟩ | ⟨rfl, S, n, hk⟩ | ⟨rfl, xs, hk⟩
    · obtain ⟨its, _, pl, _⟩ := I.list hq
      refine ⟨pl.isList.typeIs, fun a e => ?_⟩
      cases e
      obtain ⟨o, n, e, c, hd, _⟩ := pl
      exact ⟨o, e, hd⟩
    · obtain ⟨⟨ob, ho, hc⟩, o2, h2, hd⟩ := I.tupleN hq
      refine ⟨⟨ob, ho, hc⟩, fun a e => ?_⟩
      cases e
      exact ⟨o2, h2, hd⟩
    · have z : ∃ o, s.heap.get? p = some o ∧ o.ExactDict := by
        rcases hk with ⟨kvs, hk⟩ | ⟨kvs, hk⟩
        · obtain ⟨_, _, _, _, o, _, _, e, ex, _⟩ := I.hok p _ hk
          exact ⟨o, e, ex⟩
        · obtain ⟨_, _, _, _, o, _, _, e, ex, _⟩ := I.hok p _ hk
          exact ⟨o, e, ex⟩
      obtain ⟨o, e, ex⟩ := z
      refine ⟨⟨o, e, ex.1⟩, fun a e2 => ?_⟩
      cases e2
      exact ⟨o, e, ex.2.1⟩
    · obtain ⟨o, _, _, _, e, ex, _⟩ := I.hok p _ hk
      refine ⟨⟨o, e, ex.1⟩, fun a e2 => ?_⟩
      cases e2
      exact ⟨o, e, ex.2.1⟩
    · obtain ⟨o, _, _, _, e, ex⟩ := I.hok p _ hk
      refine ⟨⟨o, e, ex.ex.1⟩, fun a e2 => ?_⟩
      cases e2
      exact ⟨o, e, ex.ex.2.1⟩
  | _ => exact False.elim ty
def tBM (K : PySem.W.Frag) (T : String) (r : V → List V → Hp → VK → Prop) (to : TE) (t : TA) : TE := fun σ H Q => to σ H fun x H1 => tyV K T x H1 ∧ t σ H1 fun xs H2 => r x xs H2 Q
variable {o e : Expr} {es : List Expr} {to : TE} {t : TA} {name : Str} {apos cpos : Pos} {T id : String} {r : V → List V → Hp → VK → Prop}
theorem pe_bm (pa : PlainAttrs T) (slot : Slot T name id) (hty : typeOf (.builtin id) = pure (.type "method_descriptor")) (hm : MtR X id r) (ho : PE X o to) (ha : PA X (e :: es) t)
    (hbase : attributeBase o name X.env (eval o X.env) = eval o X.env := by rfl)
    (hfew : ((backTo cpos (starEach (e :: es) X.env)).all (fun x => !x.1) && (backToKw cpos (keywordEach [] X.env)).all (fun x => x.1.isSome)
      && decide ((e :: es).length + ([] : List Keyword).length + (if ([] : List Keyword).isEmpty then 0 else 1) < 30)) = true := by rfl)
    (hline : (apos.endLine == cpos.line) = true := by rfl) (hs : starEach (e :: es) X.env = (false, eval e X.env) :: starEach es X.env := by rfl) (hplain : (backTo cpos (starEach es X.env)).any (·.1) = false := by rfl) :
    PE X (.Call (.Attribute o name apos) (e :: es) [] cpos) (tBM X.K T r to t) := by
  intro pins s σ H Q I h
  refine wpAny_Call_method_late hbase hfew hline rfl (thn (ho pins s σ H _ I h) fun v s1 ⟨x, H1, I1, r1, ty, q1⟩ => ?_)
  obtain ⟨h1, h2⟩ := tyV_is I1 r1 ty
  refine ⟨T, id, pa, slot, hty, h1, h2, ?_⟩
  have hA := ha cpos pins s1 σ H1 _ I1 q1
  rw [hs] at hA ⊢
  refine Calls.callWith_builtin (by show (false || (backTo cpos (starEach es X.env)).any (·.1)) = false; rw [hplain] <;> rfl) (Calls.evalArgs_plain ?_)
  exact thn hA fun us s2 ⟨vs, H2, I2, r2, q2⟩ => hm pins s2 σ H2 x vs v us Q I2 r1 r2 q2
/- xs.append(e), list.index on a module's tuple .. are MtR facts of 06m -/
end
end L2

namespace L2
open PySem PySem.Spec PyProof.Rows

def MtM (X : Cx) (id : String) (r : V → List V → Hp → VK → Prop) : Prop :=
  ∀ (pins : List (Addr × Obj)) (s : Shared) (σ : St) (H : Hp) (x : V) (xs : List V) (v : Value) (us : List Value) (Q : VK), Inv X pins σ H s → RelV x v → Vals xs us → r x xs H Q →
    wpAny (model X.prog X.w) X.A (call (.builtin id) (v :: us)) (EP X pins σ Q) X.xe s

/-! ### lists of values -/
theorem Vals.one : ∀ {x : V} {us : List Value}, Vals [x] us → ∃ u, us = [u] ∧ RelV x u
  | _, _, .cons r .nil => ⟨_, rfl, r⟩
theorem Vals.two : ∀ {x y : V} {us : List Value}, Vals [x, y] us → ∃ u v, us = [u, v] ∧ RelV x u ∧ RelV y v
  | _, _, _, .cons r (.cons q .nil) => ⟨_, _, rfl, r, q⟩
theorem Vals.zero : ∀ {us : List Value}, Vals [] us → us = []
  | _, .nil => rfl
theorem Vals.eraseIdx : ∀ {xs : List V} {us : List Value} (i : Nat), Vals xs us → Vals (xs.eraseIdx i) (us.eraseIdx i)
  | _, _, _, .nil => .nil
  | _, _, 0, .cons _ t => t
  | _, _, i + 1, .cons r t => .cons r (Vals.eraseIdx i t)
theorem Vals.reverse {xs : List V} {us : List Value} (h : Vals xs us) : Vals xs.reverse us.reverse := by
  induction h with
  | nil => exact .nil
  | cons r t ih => rw [List.reverse_cons, List.reverse_cons]; exact Vals.append ih (.cons r .nil)
theorem Vals.rep {xs : List V} {us : List Value} (h : Vals xs us) : ∀ k : Nat, Vals (List.replicate k xs).flatten (List.replicate k us).flatten
  | 0 => .nil
  | k + 1 => by
    rw [List.replicate_succ, List.replicate_succ, List.flatten_cons, List.flatten_cons]
    exact Vals.append h (Vals.rep h k)
theorem len_erase {α : Type} : ∀ (l : List α) (i : Nat), (l.eraseIdx i).length ≤ l.length
  | [], _ => Nat.le_refl _
  | _ :: _, 0 => Nat.le_succ _
  | _ :: r, i + 1 => Nat.succ_le_succ (len_erase r i)
section
variable {X : Cx} {pins : List (Addr × Obj)} {σ : St} {H : Hp} {s : Shared} {l b : Addr} {xs ys zs : List V}

/-! ### the two steps: a tracked list is rewritten, a new list is laid -/
theorem Inv.lset {its its' : List Value} {n : Nat} {f : Array Value → Array Value} {t' : Nat} (I : Inv X pins σ H s) (hH : H l = some (.lst xs))
    (e : s.heap.get? l = some { cls := .type "list", data := .seq its.toArray n }) (hf : f its.toArray = its'.toArray) (hv : Vals ys its') (hz : ys.length ≤ sizeLine) :
    Inv X pins σ (upd H l (.lst ys)) { s with heap := s.heap.update l (Obj.mapSeq f), toks := t' } := by
  have q := PySem.IsL.update e f
  rw [hf] at q
  refine I.write (x := l) (e := l) (by rw [hH]; exact trivial) (.inl rfl) (fun b' u hb hu => (Heap.get?_update_other s.heap (Obj.mapSeq f) (Ne.symm hb)).trans hu) ⟨_, q⟩ ?_
  exact ⟨hz, its', _, hv, q⟩
theorem Inv.lnew {its : List Value} {t' : Nat} (I : Inv X pins σ H s) (hv : Vals ys its) (hz : ys.length ≤ sizeLine) :
    Inv X pins σ (upd H s.heap.objs.size (.lst ys)) { s with heap := s.heap.push { cls := .type "list", data := .seq its.toArray }, toks := t' } :=
  I.laid (fun _ _ q => Heap.get?_push_of_some _ q) (Nat.le_refl _) ⟨hz, its, 0, hv, Heap.get?_push_size _ rfl⟩
theorem Inv.fresh (I : Inv X pins σ H s) : H s.heap.objs.size = none := I.hok.fresh (Nat.le_refl _)
theorem Inv.lstM (I : Inv X pins σ H s) (hH : H l = some (.lst xs)) : xs.length ≤ sizeLine ∧ ∃ (its : List Value) (n : Nat), Vals xs its ∧ xs.length = its.length ∧ s.heap.get? l = some { cls := .type "list", data := .seq its.toArray n } := by
  obtain ⟨z, its, n, r, e⟩ := I.hok l _ hH
  exact ⟨z, its, n, r, r.length, e⟩

end

section
variable {X : Cx}

/-! ### methods -/
def rAppend : V → List V → Hp → VK → Prop := fun x vs H Q => ∃ l xs y, x = .ref l ∧ vs = [y] ∧ H l = some (.lst xs) ∧ xs.length < sizeLine ∧ Q .non (upd H l (.lst (xs ++ [y])))
theorem mt_append : MtM X "list.append" rAppend := by
  intro pins s σ H x vs v us Q I rx rv h
  obtain ⟨l, xs, y, rfl, rfl, hH, hz, q⟩ := h
  cases rx
  obtain ⟨u, rfl, ru⟩ := rv.one
  obtain ⟨z, its, n, r, hl, e⟩ := I.lstM hH
  refine call_meets F.slot_list_append ⟨_, e, rfl⟩ F.entry_list_append (F.args_list_append_2 _ _) (PySem.list_append l its.toArray n u (by rw [List.size_toArray]; omega)) ⟨e, ?_⟩
  refine ⟨.non, _, I.lset (its' := its ++ [u]) hH e (by simp) (r.append (.cons ru .nil)) ?_, rfl, q⟩
  rw [List.length_append, List.length_singleton]
  omega

def rPopAt : V → List V → Hp → VK → Prop := fun x vs H Q => ∃ l xs i k y, x = .ref l ∧ vs = [.int i] ∧ H l = some (.lst xs) ∧ -(2 ^ 63) ≤ i ∧ i < 2 ^ 63 ∧ seqIndex? i xs.length = some k ∧ xs[k]? = some y ∧ Q y (upd H l (.lst (xs.eraseIdx k)))
theorem mt_popAt : MtM X "list.pop" rPopAt := by
  intro pins s σ H x vs v us Q I rx rv h
  obtain ⟨l, xs, i, k, y, rfl, rfl, hH, h1, h2, hk, hy, q⟩ := h
  cases rx
  obtain ⟨u, rfl, ru⟩ := rv.one
  obtain ⟨t, rfl⟩ := ru
  obtain ⟨z, its, n, r, hl, e⟩ := I.lstM hH
  obtain ⟨w, hw, rw'⟩ := r.get hy
  refine call_meets F.slot_list_pop ⟨_, e, rfl⟩ F.entry_list_pop (F.args_list_pop_2 _ _)
    (MeetsSeq.list_pop_at l its.toArray n i t k w (fitsIndex_both h1 h2) (by rw [List.size_toArray, ← hl]; exact hk) (by rw [← Array.getElem?_toList]; exact hw) (by rw [List.size_toArray]; omega)) ⟨e, ?_⟩
  refine ⟨y, _, I.lset (its' := its.eraseIdx k) hH e ?_ (r.eraseIdx k) ?_, rw', q⟩
  · show its.toArray.eraseIdxIfInBounds k = (its.eraseIdx k).toArray
    rw [List.eraseIdxIfInBounds_toArray]
  · have := len_erase xs k
    omega

/-! ### list + list, list += list, list * int -/
/-! ### del xs[i] -/
end

/-! ### xs[a:b] = ys -/
section
variable {prog : Program} {w : World} {A : Around} {E : Value → Shared → Prop} {s : Shared}
end

section
variable {X : Cx}
end
end L2

namespace Att
open PySem PySem.W PySem.Calls PyProof.Rows

/-! ### the script -/
theorem ints_of_wellAll {P : Params} {h : Heap} : ∀ (ns : List Int) (vs : List Value), WellAll P h vs (ns.map WData.int) → IntsAre vs ns := by
  intro ns
  induction ns with
  | nil =>
    intro vs w
    rw [List.map_nil] at w
    cases w
    exact .nil
  | cons n ns ih =>
    intro vs w
    rw [List.map_cons] at w
    cases w with
    | cons a b =>
      cases a
      exact .cons _ _ (ih _ b)

theorem script_of {l : OpenLaw} {n : Nat} (hn : l.most = some n) {P : Params} {h : Heap} {args : List WData} {vals : List Value}
    (hpre : l.row.toRowW.claim.pre args = true) (hwl : WellAll P h vals args) :
    ∃ a vs ns, vals = [Value.ref a] ∧ args = [WData.list (ns.map WData.int)] ∧ h.get? a = some { cls := .type "list", data := .seq vs.toArray } ∧ IntsAre vs ns ∧ ns.length ≤ n := by
  have hsh : WShape.hasAll [] args [.list .int] = true := (pre_splitW hpre).1
  have hc : l.pre.holds [] { args := args } = true := (pre_splitW hpre).2
  obtain ⟨d, r, rfl, h1, h2⟩ := hasAllW_cons hsh
  obtain rfl := hasAllW_nil h2
  obtain ⟨xs, rfl, h3⟩ := hasW_list h1
  obtain ⟨ns, rfl⟩ := items_int h3
  have hlen : ns.length ≤ n := by
    unfold OpenLaw.pre at hc
    have h4 : (WTm.not (.lt (.lit (.int (n : Int))) (.len (.arg 0)))).holds [] { args := [.list (ns.map .int)] } = true := by
      have h4 := (holds_andW hc).1
      rw [hn] at h4
      exact h4
    have h5 := condW_of h4 (w_not (w_lt w_lit (w_len_list (w_arg rfl))))
    rw [List.length_map] at h5
    refine Nat.le_of_not_lt fun q => ?_
    have q' : (n : Int) < ((ns.length : Nat) : Int) := by omega
    first
      | (rw [decide_eq_true q'] at h5; exact absurd h5 (by decide))
      | (simp at h5; omega)
  cases hwl with
  | cons w1 w2 =>
    cases w2
    cases w1 with
    | list ho hall => exact ⟨_, _, ns, rfl, rfl, ho, ints_of_wellAll ns _ hall, hlen⟩

theorem post_true (l : OpenLaw) (args : List WData) : l.row.toRowW.claim.post args (.bool true) args = true :=
  postW_of (r := l.row.toRowW) (X := (true == true))
    (show WShape.has [] (.bool true) .bool = true by first | rfl | decide | simp [WShape.has, WShape.arms, WShape.armsAll])
    (show (WTm.eq .res (.lit (.bool true))).value [] { args := args, res := some (.bool true), after := args } = some (.bool (true == true)) from w_eq_bool (w_res rfl) w_lit) rfl

/-! ### the attachment: holds_open's last premise (the goal 'hc' behind k_head) from a wpAny of the law's body -/
/-- the same from a codeAny of the CALL (for a layer whose function contracts speak of calls) -/
theorem attach_call {l : OpenLaw} {n : Nat} {q : Program} {loose : List Str} {XP : (Str → Option Value) → Heap → Prop} {YP : World → Heap → Prop} {d : DefRec}
    (hn : l.most = some n) (hdf : d.params.defaults = [])
    (call : ∀ (w : World) (s₀ s₁ : Shared) (mg mb : Str → Option Value) (fa : Addr) (o : Obj) (pm cd doc : Value) (a : Addr) (vs : List Value) (ns : List Int),
      Ground q loose [] XP w s₀ mg mb s₁.heap → YP w s₁.heap →
      s₁.heap.get? fa = some o → o.data = .func (docDef d.name d.params d.body d.scope pm cd doc) → s₁.heap.CodeRec cd d.name → mg d.name = some (.ref fa) →
      s₁.heap.get? a = some { cls := .type "list", data := .seq vs.toArray } → IntsAre vs ns → ns.length ≤ n → s₁.gens = #[] →
      codeAny (model l.prog w) callerA (.call (.ref fa) ⟨[.ref a], []⟩) (fun r s' => r = .ok (.ret (.bool true)) ∧ OldK s₁.heap s'.heap ∧ s'.os = s₁.os ∧ AllBare s'.gens) s₁) :
    WalkO q loose XP YP l.row.toRowW d [] (fun f vs => PySem.call f vs) := by
  intro w s₀ s₁ mg mb G Y fa o pm cd doc dV kV ho hd hcd hD hmg hg args vals as hpre hlay hrd hwl hlo
  obtain rfl : dV = .none := Dflts.none hD hdf
  obtain rfl : kV = .none := Dflts.noKw hD
  obtain ⟨a, vs, ns, rfl, rfl, hobj, hints, hlen⟩ := script_of hn hpre hwl
  refine enter_call (codeAny_mono (call w s₀ s₁ mg mb fa o pm cd doc a vs ns G Y ho (fd_plain hd) hcd hmg hobj hints hlen hg) fun r s' hq => ?_)
  obtain ⟨rfl, h2, h3, h4⟩ := hq
  exact ⟨.inl ⟨.bool true, .bool true, [], rfl, fun _ => rfl, .bool true, post_true l _, fun _ => ⟨List.Pairwise.nil, fun _ hm => (nomatch hm)⟩⟩, h2, h3, h4⟩

/-! ### rules over ANY heap (no ledger) from facts about the written part K: the library's own take a ledger (News) for what they write -/
section
variable {prog : Program} {w : World} {A : Around} {E : Value → Shared → Prop} {s : Shared} {K : Frag}

/-! the whole heap as the ledger: makes every rule that writes through a ledger a rule over any heap -/
def ledger (h : Heap) (L d : Addr) : List (Addr × Obj) := (List.range h.objs.size).filterMap fun a => if a = L ∨ a = d then none else (h.get? a).map fun o => (a, o)
end
end Att

namespace L2
open PySem PySem.Spec PyProof.Rows

theorem vals_ints : ∀ {vs : List Value} {ns : List Int}, IntsAre vs ns → Vals (ns.map V.int) vs
  | _, _, .nil => .nil
  | _, _, .cons n t h => .cons ⟨t, rfl⟩ (vals_ints h)

/-- nothing is tracked but the script, known to the object (or it is an object of the module) -/
def Only (H : Hp) : Prop := ∀ b, H b = none ∨ ∃ o xs, H b = some (.frz o (.lst xs))

/-- THE HEAD: the law's promise, at the heap behind the top. F, the promise of the law's def, may use that base is part of the heap (so K.In base, base.Ns mainGlobals mg stand in Mod) -/
theorem law_call {P : Program} {w : World} {K : PySem.W.Frag} {mg mb : Str → Option Value} {CX : CXT} {k : Nat} {fa a : Addr} {fd : FuncData} {x : Str} {sp : Sp} {s₁ : Shared} {vs : List Value} {ns : List Int}
    (KX : K.In s₁.heap) (hns : s₁.heap.Ns mainGlobals mg) (hb : s₁.heap.Ns builtinsNs mb) (hbb : ∀ x : Str, x ≠ "__name__" → mb x = bootBuiltins x) (hlim : s₁.heap.NoLimit) (hg : s₁.gens = #[])
    (ha : s₁.heap.get? a = some { cls := .type "list", data := .seq vs.toArray }) (hi : IntsAre vs ns) (hl : ns.length ≤ sizeLine) (hr : Room k callerA)
    (F : ∀ base : Heap, K.In base → base.Ns mainGlobals mg → FnOk P w K mg base CX k fa fd [x] sp) (hbind : ∀ (s : Shared) (u : Value), BindsTo s fd ⟨[u], []⟩ [(x, u)])
    (hsp : ∀ H : Hp, Only H → SqL K H a (ns.map V.int) → sp [.ref a] H (fun v _ => v = .bl true) fun _ _ _ => False)
    (hCX : ∀ H e s', CX [] H s₁ (fun _ _ _ => False) e s' → False) :
    codeAny (model P w) callerA (.call (.ref fa) ⟨[.ref a], []⟩) (fun r s' => r = .ok (.ret (.bool true)) ∧ OldK s₁.heap s'.heap ∧ s'.os = s₁.os ∧ AllBare s'.gens) s₁ := by
  have rv := vals_ints hi
  have lenV := hi.length
  -- from an abstract heap in which nothing but the script may be tracked
  have core : ∀ H : Hp, Only H → SqL K H a (ns.map V.int) → HOk P w H s₁.heap → (∀ b, H b ≠ none → b = a) → (H a ≠ none → K.lookup a = none) →
      codeAny (model P w) callerA (.call (.ref fa) ⟨[.ref a], []⟩) (fun r s' => r = .ok (.ret (.bool true)) ∧ OldK s₁.heap s'.heap ∧ s'.os = s₁.os ∧ AllBare s'.gens) s₁ := by
    intro H hO hS hok hA hK
    have base_of : ∀ {b : Addr} {o : Obj}, s₁.heap.get? b = some o → H b = none → (hidT s₁.heap H).get? b = some o := fun e n => hidT_get e n
    have noA : ∀ {b : Addr} {o : Obj} {es : Array DictEntry} {ep : Nat}, s₁.heap.get? b = some o → o.data = .dict es ep → H b = none := fun {b o es ep} e d => by
      cases q : H b with
      | none => rfl
      | some u =>
        have e' : b = a := hA b (by rw [q]; simp)
        subst e'
        rw [ha] at e; cases e
        have d' : Data.seq vs.toArray _ = Data.dict es ep := d
        cases d'
    have nsK : ∀ {b : Addr} {m : Str → Option Value}, s₁.heap.Ns b m → (hidT s₁.heap H).Ns b m := fun {b m} ⟨o, es, ep, e, d, r⟩ => ⟨o, es, ep, base_of e (noA e d), d, r⟩
    have hKb : K.In (hidT s₁.heap H) := fun b o e => base_of (KX b o e) (by
      cases q : H b with
      | none => rfl
      | some u =>
        have e' : b = a := hA b (by rw [q]; simp)
        subst e'
        rw [hK (by rw [q]; simp)] at e; cases e)
    have hM : Mod K mg (hidT s₁.heap H) := ⟨hKb, nsK hns, ⟨mb, nsK hb, hbb⟩, let ⟨mc, h1, h2⟩ := hlim; ⟨mc, nsK h1, h2⟩⟩
    have e0 : Env0 P w K mg (hidT s₁.heap H) callerA [] s₁ H := ⟨rfl, hM, fun b o e => of_hidT e, Nat.le_of_eq (hidT_size _ _), trivial, fun b hb => absurd (show b ∈ ([] : List Addr) from hb) (by simp), hok, .of_eq hg⟩
    refine codeAny_mono ((F _ hKb (nsK hns)).run callerA [] s₁ H ⟨[.ref a], []⟩ [.ref a] [.ref a] _ _ hr e0 (hbind s₁ (.ref a)) (.cons rfl .nil) (hsp H hO hS)) fun r s' h => ?_
    cases r with
    | error e => exact (hCX H e s' h).elim
    | ok fl =>
      cases fl with
      | next => exact False.elim h
      | brk => exact False.elim h
      | cont => exact False.elim h
      | ret u =>
        obtain ⟨v, H', os, bare, un, hok', r', q⟩ := h
        have q' : v = .bl true := q
        subst q'
        obtain rfl : u = Value.bool true := r'
        refine ⟨rfl, OldK.of_keep fun b o e => ?_, os, bare⟩
        cases q : H b with
        | none => exact un.keep b o e q (by intro z; exact absurd (show b ∈ ([] : List Addr) from z) (by simp)) (by simp)
        | some u =>
          rcases hO b with z | ⟨ob, xs, z⟩
          · rw [q] at z; cases z
          · have z2 := un.frzs b ob _ z
            obtain ⟨e1, _⟩ := hok b _ z
            obtain ⟨e2, _⟩ := hok' b _ z2
            rw [e] at e1; cases e1
            exact e2
  cases hk : K.lookup a with
  | some o =>
    -- the script is one of the module's own objects
    have e := KX a o hk
    rw [ha] at e
    cases e
    refine core (fun _ => none) (fun _ => .inl rfl) (.inr ⟨_, vs.toArray, _, hk, rfl, rfl, rfl, by rw [List.size_toArray, lenV]; exact hl, by simpa using rv⟩) (fun b u z => by have z' : (none : Option HO) = some u := z; cases z') (fun b z => absurd rfl z) fun z => absurd rfl z
  | none =>
    refine core (fun b => if b = a then some (.frz { cls := .type "list", data := .seq vs.toArray } (.lst (ns.map V.int))) else none) (fun b => ?_) (.inl (.inr ⟨{ cls := .type "list", data := .seq vs.toArray }, if_pos rfl⟩)) (fun b u z => ?_) (fun b z => ?_) fun _ => hk
    · by_cases hb : b = a
      · exact .inr ⟨_, _, if_pos hb⟩
      · exact .inl (if_neg hb)
    · by_cases hb : b = a
      · have z' := (if_pos hb).symm.trans z
        cases z'
        subst hb
        exact ⟨ha, by rw [List.length_map]; exact hl, vs, _, rv, ha⟩
      · have z' := (if_neg hb).symm.trans z
        cases z'
    · by_cases hb : b = a
      · exact hb
      · exact absurd (if_neg hb) z
end L2

namespace L2
open PySem PySem.Spec PyProof.Rows

abbrev KOf {K : PySem.W.Frag} {h : Heap} (_ : K.In h) : PySem.W.Frag := K

/-- the goal that k_head leaves (case hc), from the law's promise. F gives the function object fd (K's own) once, then the promise over every base -/
theorem walk_of {l : PySem.W.OpenLaw} {n k : Nat} {q : Program} {loose : List Str} {XP : (Str → Option Value) → Heap → Prop} {YP : World → Heap → Prop} {d : DefRec} {K : Params → PySem.W.Frag} {CX : World → CXT} {sp : World → Sp} {x : Str}
    (hn : l.most = some n) (hn2 : n ≤ sizeLine) (hdf : d.params.defaults = []) (hr : Room k callerA)
    (hY : ∀ (w : World) (h : Heap), YP w h → (K w.params).In h)
    (F : ∀ (w : World) (mg : Str → Option Value) (fa : Addr) (h : Heap), (K w.params).In h → h.Ns mainGlobals mg → mg d.name = some (.ref fa) →
      ∃ fd : FuncData, (∀ (s : Shared) (u : Value), BindsTo s fd ⟨[u], []⟩ [(x, u)]) ∧
        ∀ base : Heap, (K w.params).In base → base.Ns mainGlobals mg → FnOk l.prog w (K w.params) mg base (CX w) k fa fd [x] (sp w))
    (hsp : ∀ (w : World) (H : Hp) (a : Addr) (ns : List Int), ns.length ≤ n → Only H → SqL (K w.params) H a (ns.map V.int) → sp w [.ref a] H (fun v _ => v = .bl true) fun _ _ _ => False)
    (hCX : ∀ (w : World) (H : Hp) (s : Shared) (e : Value) (s' : Shared), CX w [] H s (fun _ _ _ => False) e s' → False) :
    PySem.W.WalkO q loose XP YP l.row.toRowW d [] (fun f vs => PySem.call f vs) := by
  refine Att.attach_call hn hdf fun w s₀ s₁ mg mb fa o pm cd doc a vs ns G Y ho hd hcd hmg hobj hints hlen hg => ?_
  have KX := hY w _ Y
  obtain ⟨fd, hb, hF⟩ := F w mg fa _ KX G.T.g hmg
  exact law_call KX G.T.g G.T.b G.T.builtins G.T.nolimit hg hobj hints (Nat.le_trans hlen hn2) hr hF hb (fun H hO hS => hsp w H a ns hlen hO hS) fun H e s' => hCX w H s₁ e s'
end L2

/- THE LAST THEOREM (shape; LID, My.* are yours):
   My.Adr: a structure of the addresses that your layer names (classes, functions); My.Txt K t: a structure (Prop) of the equations over K;
   My.txt_mk : {K} {implicit addresses ..} (e1 : nsIn K mainGlobals "law" = some (some (.ref f))) (e2 : K.lookup f = some ⟨oc, od, .func (fnOf "law" "law" params body scope dV kV doc pm an cdv ct), sl⟩) (e3 : codeIn K cdv "law" = true) .. : ∃ t, My.Txt K t

set_option maxRecDepth 100000 in
set_option maxHeartbeats 0 in
theorem PySem.Challenge.cw_LID_holds : PySem.Challenge.rw_LID.Holds := by
  w_on; o_law; k_head; (case hw => w_witness2)
  k_fill
  refine L2.walk_of (l := PySem.Challenge.rw_LID) (n := 63) (k := 40) (x := "script") (CX := fun w => ..) (sp := fun _ => My.sp_law) rfl (by decide) rfl ⟨rfl, by decide, by decide⟩ (fun w h Y => PySem.W.kIn_of Y) ?F ?S ?C
  case F =>
    intro w mg fa h KX G hmg
    have T : ∃ t, My.Txt (L2.KOf KX) t := by
      dsimp only [L2.KOf]                          -- K must stand as «<heap const> w.params» for k_is
      refine' My.txt_mk ?e1 ?e2 ?e3 ..
      (case e1 => PySem.W.k_is)                    -- in the order: a name -> its address -> its object -> its parts
      (case e2 => PySem.W.k_is)
      ..
    obtain ⟨t, T⟩ := T
    have e0 := hmg.symm.trans (PySem.W.mg_of KX G T.law)
    cases e0                                       -- fa is the law's own address
    exact ⟨_, fun s u => .of_eq rfl, fun base kb nb => My.law_fn T kb nb⟩     -- if «.of_eq rfl» comes too early: refine' ⟨_, ?b, fun base kb nb => My.law_fn T kb nb⟩; exact fun s u => .of_eq rfl
  case S => exact fun w H a ns hl hO hS => ..
  case C => exact ..
(the tactic k_is has no namespace: write k_is) -/

/-! SHORT WORDS over the layer: a def of the text, its body, what a loop and a test want. -/
namespace L2
open PySem PySem.Spec PyProof.Rows

/-! ### the text by places -/
def defArgs (s : Stmt) : Arguments := match s with
  | .FunctionDef _ a _ _ _ _ _ _ _ _ => a
  | _ => { posonlyargs := [], args := [], vararg := none, kwonlyargs := [], kw_defaults := [], kwarg := none, defaults := [] }
def defBody (s : Stmt) : List Stmt := match s with
  | .FunctionDef _ _ b _ _ _ _ _ _ _ => b
  | _ => []
def defScope (s : Stmt) : Scope := match s with
  | .FunctionDef _ _ _ _ _ _ sc _ _ _ => sc
  | _ => { kind := .function, names := [], isGenerator := false, isCoroutine := false }

/-! ### no exception leaves a def -/
abbrev CX0 : CXT := fun _ _ _ _ _ _ => False
abbrev E0 : XK := fun _ _ _ => False
theorem pass0 {X : Cx} : Passes CX0 X E0 := fun _ _ _ _ _ _ _ h => h.elim

/-! ### a def (or method) of the text as it stands behind the top -/
structure Fun (K : PySem.W.Frag) (x qual : Str) (st : Stmt) (f : Addr) (fd : FuncData) : Prop where
  ex : ∃ (oc : Value) (od : Option Addr) (kV doc pm : Value) (an : Option Addr) (cdv ct : Value) (osl : Array (Option Value)),
    fd = PySem.W.fnOf x qual (defArgs st) (defBody st) (defScope st) .none kV doc pm an cdv ct ∧ K.lookup f = some ⟨oc, od, .func fd, osl⟩ ∧ PySem.W.codeIn K cdv qual = true
  kp : PySem.W.keepIn K (.ref f) = true
section
variable {P : Program} {w : World} {K : PySem.W.Frag} {mg : Str → Option Value} {base : Heap}
/-- THE RULE for a def: its body as a term of rules, and the reading of that term -/
theorem Fun.ok {x qual : Str} {st : Stmt} {f : Addr} {fd : FuncData} {N ps : List Str} {k : Nat} {sp : Sp} (F : Fun K x qual st f fd) (S : FnScope N ps (defScope st)) (len : ∀ vs H Q E, sp vs H Q E → vs.length = ps.length)
    (hbody : ∀ (cdv : Value) (A : Around) (outer : List Env) (s : Shared) (H : Hp) (vs : List V) (Q : VK) (E : XK), Room k (A.deeper (envOfC qual (defScope st) s.heap.objs.size f cdv)) → sp vs H Q E →
      ∃ t, PSs (cxOf CX0 P w K mg base N qual (defScope st) f cdv A outer s H E).nox (defBody st) t ∧ t { nx := fun _ H' => Q .non H', rt := Q } (start N vs) H) : FnOk P w K mg base CX0 (k + 1) f fd ps sp := by
  obtain ⟨oc, od, kV, doc, pm, an, cdv, ct, osl, rfl, lk, hcd⟩ := F.ex
  refine fn_of lk hcd S len fun A outer s H vs Q E hr hsp => ?_
  obtain ⟨t, h, q⟩ := hbody cdv A outer s H vs Q E hr hsp
  exact ⟨t, h.nox, q⟩
/-- how its arguments bind (no defaults): h is «fun _ _ _ _ _ _ us hl => match us, hl with | [_, _], _ => rfl», one _ a parameter -/
theorem Fun.binds {x qual : Str} {st : Stmt} {f : Addr} {fd : FuncData} {ps : List Str} (F : Fun K x qual st f fd)
    (h : ∀ (kV doc pm : Value) (an : Option Addr) (cdv ct : Value) (us : List Value), us.length = ps.length → bindArgs (PySem.W.fnOf x qual (defArgs st) (defBody st) (defScope st) .none kV doc pm an cdv ct) ⟨us, []⟩ = pure (ps.zip us)) : Binds K fd ps [] := by
  obtain ⟨oc, od, kV, doc, pm, an, cdv, ct, osl, rfl, lk, hcd⟩ := F.ex
  exact .all (h kV doc pm an cdv ct)
theorem fun_mk {x qual : Str} {st : Stmt} {f : Addr} {oc : Value} {od an : Option Addr} {osl : Array (Option Value)} {kV doc pm cdv ct : Value} (l : K.lookup f = some ⟨oc, od, .func (PySem.W.fnOf x qual (defArgs st) (defBody st) (defScope st) .none kV doc pm an cdv ct), osl⟩)
    (c : PySem.W.codeIn K cdv qual = true) (k : PySem.W.keepIn K (.ref f) = true) : Fun K x qual st f (PySem.W.fnOf x qual (defArgs st) (defBody st) (defScope st) .none kV doc pm an cdv ct) := ⟨⟨oc, od, kV, doc, pm, an, cdv, ct, osl, rfl, l, c⟩, k⟩
end
theorem small1000 {n : Nat} (h : n ≤ 1000) : n < sizeLine := Nat.lt_of_le_of_lt h (by decide)

/-! ### expressions in short: the name that stands in the i-th slot -/
section
variable {X : Cx}
theorem pv (i : Nat) {x : Str} {pos : Pos} (hN : X.N[i]? = some x := by rfl) (hv : Vis X.env.scope x := by first | exact Or.inl rfl | exact Or.inr (Or.inl rfl) | exact Or.inr (Or.inr rfl)) (hd : (x == ("__debug__" : Str)) = false := by decide)
    (hcd : (x == ("__classdict__" : Str)) = false := by decide) : PE X (.Name x pos) (tVar i) := pe_var hN hv hd hcd
end

/-! ### tests -/
theorem iteF {A B : Prop} (h : B) : if false = true then A else B := by
  rw [if_neg Bool.false_ne_true]
  exact h
theorem iteT {A B : Prop} (h : A) : if true = true then A else B := by
  rw [if_pos rfl]
  exact h
/-! ### heaps -/
/-- all that was tracked is as it was -/
def Same (H H' : Hp) : Prop := ∀ b o, H b = some o → H' b = some o
theorem Same.refl (H : Hp) : Same H H := fun _ _ h => h
theorem Same.trans {H H1 H2 : Hp} (a : Same H H1) (b : Same H1 H2) : Same H H2 := fun c o h => b c o (a c o h)
theorem Same.free {H H' : Hp} (e : Same H H') {l : Addr} (h : H' l = Option.none) : H l = Option.none := by
  cases q : H l with
  | none => rfl
  | some o =>
    rw [e l o q] at h
    cases h
theorem Same.seq {K : PySem.W.Frag} {H H' : Hp} {a : Addr} {xs : List V} (e : Same H H') (h : SqL K H a xs) : SqL K H' a xs := by
  rcases h with (h | ⟨o, h⟩) | h
  · exact .inl (.inl (e _ _ h))
  · exact .inl (.inr ⟨o, e _ _ h⟩)
  · exact .inr h

end L2
set_option Elab.async false
set_option linter.all false
set_option maxRecDepth 100000
namespace L2
open PySem PySem.Spec PyProof.Rows

/-! data without addresses -/
inductive D where
  | non | bl (b : Bool) | int (i : Int) | str (x : Str) | tup (ds : List D) | lst (ds : List D)
  /-- a list that is only read: the script -/
  | scr (ds : List D)

def SqR (K : PySem.W.Frag) (H : Hp) (a : Addr) (xs : List V) : Prop :=
  (∃ o, H a = some (.frz o (.lst xs))) ∨
    ∃ (o : Obj) (its : Array Value) (n : Nat), K.lookup a = some o ∧ o.cls = .type "list" ∧ o.dict = none ∧ o.data = .seq its n ∧ its.size ≤ sizeLine ∧ Vals xs its.toList
theorem SqR.seq {K : PySem.W.Frag} {H : Hp} {a : Addr} {xs : List V} (h : SqR K H a xs) : SqL K H a xs := h.elim (fun h => .inl (.inr h)) .inr
theorem Same.seqR {K : PySem.W.Frag} {H H' : Hp} {a : Addr} {xs : List V} (e : Same H H') (h : SqR K H a xs) : SqR K H' a xs := h.elim (fun ⟨o, h⟩ => .inl ⟨o, e _ _ h⟩) .inr

mutual
inductive Rep (K : PySem.W.Frag) (F : Hp) : V → D → Prop
  | non : Rep K F .non .non
  | bl {b : Bool} : Rep K F (.bl b) (.bl b)
  | int {i : Int} : Rep K F (.int i) (.int i)
  | str {x : Str} : Rep K F (.str x) (.str x)
  | tup {a : Addr} {xs : List V} {ds : List D} : SqT K F a xs → Reps K F xs ds → Rep K F (.ref a) (.tup ds)
  | lst {a : Addr} {xs : List V} {ds : List D} : F a = some (.lst xs) → Reps K F xs ds → Rep K F (.ref a) (.lst ds)
  | scr {a : Addr} {xs : List V} {ds : List D} : SqR K F a xs → Reps K F xs ds → Rep K F (.ref a) (.scr ds)
inductive Reps (K : PySem.W.Frag) (F : Hp) : List V → List D → Prop
  | nil : Reps K F [] []
  | cons {x : V} {d : D} {xs : List V} {ds : List D} : Rep K F x d → Reps K F xs ds → Reps K F (x :: xs) (d :: ds)
end

theorem Same.seqT {K : PySem.W.Frag} {H H' : Hp} {a : Addr} {xs : List V} (e : Same H H') (h : SqT K H a xs) : SqT K H' a xs := by
  rcases h with (h | ⟨o, h⟩) | h
  · exact .inl (.inl (e _ _ h))
  · exact .inl (.inr ⟨o, e _ _ h⟩)
  · exact .inr h

mutual
theorem Rep.mono {K : PySem.W.Frag} {F G : Hp} (s : Same F G) : ∀ {v : V} {d : D}, Rep K F v d → Rep K G v d
  | _, _, .non => .non
  | _, _, .bl => .bl
  | _, _, .int => .int
  | _, _, .str => .str
  | _, _, .tup h r => .tup (Same.seqT s h) (Reps.mono s r)
  | _, _, .lst h r => .lst (s _ _ h) (Reps.mono s r)
  | _, _, .scr h r => .scr (Same.seqR s h) (Reps.mono s r)
theorem Reps.mono {K : PySem.W.Frag} {F G : Hp} (s : Same F G) : ∀ {v : List V} {d : List D}, Reps K F v d → Reps K G v d
  | _, _, .nil => .nil
  | _, _, .cons r t => .cons (Rep.mono s r) (Reps.mono s t)
end

section
variable {K : PySem.W.Frag} {F G H : Hp}
theorem Reps.length : ∀ {xs : List V} {ds : List D}, Reps K F xs ds → xs.length = ds.length
  | _, _, .nil => rfl
  | _, _, .cons _ t => by simp [t.length]
theorem Reps.get : ∀ {xs : List V} {ds : List D} {i : Nat} {d : D}, Reps K F xs ds → ds[i]? = some d → ∃ x, xs[i]? = some x ∧ Rep K F x d
  | _, _, _, _, .nil, e => by simp at e
  | _, _, 0, _, .cons r _, e => by simp at e; subst e; exact ⟨_, rfl, r⟩
  | _, _, i + 1, d, .cons _ t, e => by
    obtain ⟨u, h1, h2⟩ := Reps.get (i := i) (d := d) t (by simpa using e)
    exact ⟨u, by simpa using h1, h2⟩
theorem Reps.get' {xs : List V} {ds : List D} {i : Nat} {x : V} (r : Reps K F xs ds) (e : xs[i]? = some x) : ∃ d, ds[i]? = some d ∧ Rep K F x d := by
  have hl := r.length
  have hi := (List.getElem?_eq_some_iff.mp e).1
  have e2 : ds[i]? = some ds[i] := List.getElem?_eq_getElem (by omega)
  obtain ⟨y, h1, h2⟩ := r.get e2
  rw [e] at h1; cases h1
  exact ⟨_, e2, h2⟩
theorem Reps.append : ∀ {xs ys : List V} {us ws : List D}, Reps K F xs us → Reps K F ys ws → Reps K F (xs ++ ys) (us ++ ws)
  | _, _, _, _, .nil, s => s
  | _, _, _, _, .cons r t, s => .cons r (Reps.append t s)
theorem Reps.set {x : V} {u : D} (r : Rep K F x u) : ∀ {xs : List V} {us : List D} (i : Nat), Reps K F xs us → Reps K F (xs.set i x) (us.set i u)
  | _, _, _, .nil => .nil
  | _, _, 0, .cons _ t => .cons r t
  | _, _, i + 1, .cons q t => .cons q (Reps.set r i t)
theorem Reps.eraseIdx : ∀ {xs : List V} {us : List D} (i : Nat), Reps K F xs us → Reps K F (xs.eraseIdx i) (us.eraseIdx i)
  | _, _, _, .nil => .nil
  | _, _, 0, .cons _ t => t
  | _, _, i + 1, .cons q t => .cons q (Reps.eraseIdx i t)
theorem Reps.reverse {xs : List V} {us : List D} (h : Reps K F xs us) : Reps K F xs.reverse us.reverse := by
  induction xs generalizing us with
  | nil => cases h; exact .nil
  | cons x xs ih =>
    cases h with
    | cons r t => simp only [List.reverse_cons]; exact (ih t).append (.cons r .nil)
theorem Reps.take : ∀ {xs : List V} {us : List D} (n : Nat), Reps K F xs us → Reps K F (xs.take n) (us.take n)
  | _, _, 0, _ => .nil
  | _, _, _ + 1, .nil => .nil
  | _, _, n + 1, .cons r t => .cons r (Reps.take n t)
theorem Reps.drop : ∀ {xs : List V} {us : List D} (n : Nat), Reps K F xs us → Reps K F (xs.drop n) (us.drop n)
  | _, _, 0, r => r
  | _, _, _ + 1, .nil => .nil
  | _, _, n + 1, .cons _ t => Reps.drop n t
end

/-! what is hidden -/
abbrev Hid := Addr → Bool
def vw (H : Hp) (hid : Hid) : Hp := fun b => if hid b = true then none else H b
def hadd (hid : Hid) (a : Addr) : Hid := fun b => hid b || decide (b = a)
def hdel (hid : Hid) (a : Addr) : Hid := fun b => hid b && !decide (b = a)
theorem vw_some {H : Hp} {hid : Hid} {b : Addr} {o : HO} : vw H hid b = some o ↔ hid b = false ∧ H b = some o := by
  unfold vw
  cases hb : hid b <;> simp
theorem vw_le (H : Hp) (hid : Hid) : Same (vw H hid) H := fun b o h => (vw_some.mp h).2
theorem vw_same {H H' : Hp} {hid : Hid} (s : Same H H') : Same (vw H hid) (vw H' hid) := fun b o h => vw_some.mpr ⟨(vw_some.mp h).1, s _ _ (vw_some.mp h).2⟩
theorem vw_keep {H H' : Hp} {hid : Hid} (s : ∀ b o, H b = some o → hid b = false → H' b = some o) : Same (vw H hid) (vw H' hid) := fun b o h => vw_some.mpr ⟨(vw_some.mp h).1, s _ _ (vw_some.mp h).2 (vw_some.mp h).1⟩
theorem vw_upd {H : Hp} {hid : Hid} {a : Addr} {o : HO} (h : hid a = true) : vw (upd H a o) hid = vw H hid := by
  funext b
  unfold vw upd
  by_cases e : b = a
  · subst e; simp [h]
  · simp [e]
theorem vw_less {H : Hp} {hid hid' : Hid} (h : ∀ b, hid' b = true → hid b = true) : Same (vw H hid) (vw H hid') := fun b o q => by
  obtain ⟨q1, q2⟩ := vw_some.mp q
  refine vw_some.mpr ⟨?_, q2⟩
  cases e : hid' b with
  | false => rfl
  | true => rw [h b e] at q1; cases q1
theorem vw_new {H : Hp} {hid : Hid} {a : Addr} {o : HO} (h : H a = none) : vw (upd H a o) (hadd hid a) = vw H hid := by
  funext b
  unfold vw upd hadd
  by_cases e : b = a
  · subst e
    cases hb : hid b <;> simp [h]
  · simp [e]

/-! the slots of a frame -/
/-- other things that a slot may hold: a caught exception, a dict held alone -/
inductive Ob where
  | exc (x : Str) (n : Int)
  | dK (kvs : List (Key × D))
  | dT (kvs : List (List Key × D))
  | set (ds : List D)
  | old (d : D)
  | jnk
  | tset (ks : List (List Int))
  | dF (kvs : List (List Key × D))
inductive Sl where
  | no
  | v (d : D)
  | own (ds : List D)
  | arg (ds : List D)
  | ob (b : Ob)
abbrev Rho := List Sl

structure Ct where
  H₀ : Hp
  hid₀ : Hid
  mu : Addr → Bool

/-- a caught exception of the class that is known by the name x -/
def ExcAt (K : PySem.W.Frag) (x : Str) (n : Int) (a : Addr) (h : Heap) : Prop := ∃ C o, PySem.W.nsIn K mainGlobals x = some (some (.ref C)) ∧ h.get? a = some o ∧ o.cls = .ref C ∧ o.dict = none ∧ PySem.W.notCls o = true
/-- the lists that are new since the frame began (and all else), and what was there -/
def isLO : Option HO → Bool
  | some (.lst _) => true
  | _ => false
def fv (c : Ct) (F : Hp) : Hp := fun b => if (c.H₀ b).isSome = true ∧ isLO (F b) = true then none else F b
def ov (c : Ct) (F : Hp) : Hp := fun b => if (c.H₀ b).isSome = true then F b else none
theorem fv_some {c : Ct} {F : Hp} {b : Addr} {o : HO} : fv c F b = some o ↔ (isLO (some o) = true → c.H₀ b = none) ∧ F b = some o := by
  unfold fv
  constructor
  · intro h
    split at h
    · cases h
    · rename_i hn
      refine ⟨fun q => ?_, h⟩
      rw [h] at hn
      cases hb : c.H₀ b with
      | none => rfl
      | some u => exact absurd ⟨by rw [hb]; rfl, q⟩ hn
  · rintro ⟨h1, h2⟩
    rw [if_neg, h2]
    rintro ⟨q1, q2⟩
    rw [h2] at q2
    rw [h1 q2] at q1; cases q1
theorem ov_some {c : Ct} {F : Hp} {b : Addr} {o : HO} : ov c F b = some o ↔ (∃ u, c.H₀ b = some u) ∧ F b = some o := by
  unfold ov
  cases hb : c.H₀ b <;> simp
theorem fv_same {c : Ct} {F G : Hp} (s : Same F G) : Same (fv c F) (fv c G) := fun b o h => fv_some.mpr ⟨(fv_some.mp h).1, s _ _ (fv_some.mp h).2⟩
theorem ov_same {c : Ct} {F G : Hp} (s : Same F G) : Same (ov c F) (ov c G) := fun b o h => ov_some.mpr ⟨(ov_some.mp h).1, s _ _ (ov_some.mp h).2⟩
def ObOk (K : PySem.W.Frag) (c : Ct) (hid : Hid) (H : Hp) (a : Addr) : Ob → Prop
  | .exc x n => ∃ φ, vw H hid a = some (.ext φ) ∧ ∀ h, φ h → ExcAt K x n a h
  | .dK kvs => (hid a = true ∧ c.H₀ a = none) ∧ ∃ us : List (Key × V), H a = some (.dK us) ∧ us.map (·.1) = kvs.map (·.1) ∧ Reps K (vw H hid) (us.map (·.2)) (kvs.map (·.2))
  | .dT kvs => (hid a = true ∧ c.H₀ a = none) ∧ ∃ us : List (List Key × V), H a = some (.dT us) ∧ us.map (·.1) = kvs.map (·.1) ∧ Reps K (vw H hid) (us.map (·.2)) (kvs.map (·.2))
  | .set ds => (hid a = true ∧ c.H₀ a = none) ∧ ∃ xs : List V, H a = some (.lst xs) ∧ Reps K (fv c (vw H hid)) xs ds
  | .old d => Rep K (ov c (vw H hid)) (.ref a) d
  | .jnk => (hid a = true ∧ c.H₀ a = none) ∧ ∃ xs : List V, H a = some (.lst xs)
  | .tset ks => (hid a = true ∧ c.H₀ a = none) ∧ ∃ xs : List (List Int × Addr), H a = some (.tst xs) ∧ (xs.map (·.1)).Perm ks ∧ Reps K (vw H hid) (xs.map fun x => V.ref x.2) (xs.map fun x => D.tup (x.1.map D.int))
  | .dF kvs => (hid a = true ∧ c.H₀ a = none) ∧ ∃ (o : Obj) (us : List (List Key × V)), H a = some (.frz o (.dT us)) ∧ us.map (·.1) = kvs.map (·.1) ∧ Reps K (vw H hid) (us.map (·.2)) (kvs.map (·.2))
def ObOw : Ob → Prop
  | .exc _ _ => False
  | .old _ => False
  | _ => True
theorem ObOk.mono {K : PySem.W.Frag} {c : Ct} {hid hid' : Hid} {H H' : Hp} {a : Addr} {b : Ob} (h : ObOk K c hid H a b) (k : ObOw b → ∀ o, H a = some o → H' a = some o) (s : Same (vw H hid) (vw H' hid')) (w : ObOw b → hid a = true → hid' a = true) : ObOk K c hid' H' a b := by
  cases b with
  | exc x n => obtain ⟨φ, h1, h2⟩ := h; exact ⟨φ, s _ _ h1, h2⟩
  | dK kvs => obtain ⟨h1, us, h2, h3, h4⟩ := h; exact ⟨⟨w trivial h1.1, h1.2⟩, us, k trivial _ h2, h3, h4.mono s⟩
  | dT kvs => obtain ⟨h1, us, h2, h3, h4⟩ := h; exact ⟨⟨w trivial h1.1, h1.2⟩, us, k trivial _ h2, h3, h4.mono s⟩
  | set ds => obtain ⟨h1, us, h2, h3⟩ := h; exact ⟨⟨w trivial h1.1, h1.2⟩, us, k trivial _ h2, h3.mono (fv_same s)⟩
  | old d => exact Rep.mono (ov_same s) h
  | jnk => obtain ⟨h1, us, h2⟩ := h; exact ⟨⟨w trivial h1.1, h1.2⟩, us, k trivial _ h2⟩
  | tset ks => obtain ⟨h1, us, h2, h3, h4⟩ := h; exact ⟨⟨w trivial h1.1, h1.2⟩, us, k trivial _ h2, h3, h4.mono s⟩
  | dF kvs => obtain ⟨h1, o, us, h2, h3, h4⟩ := h; exact ⟨⟨w trivial h1.1, h1.2⟩, o, us, k trivial _ h2, h3, h4.mono s⟩
theorem ObOk.hid {K : PySem.W.Frag} {c : Ct} {hid : Hid} {H : Hp} {a : Addr} {b : Ob} (h : ObOk K c hid H a b) (o : ObOw b) : hid a = true := by
  cases b with
  | exc x n => exact o.elim
  | dK kvs => exact h.1.1
  | dT kvs => exact h.1.1
  | set ds => exact h.1.1
  | old d => exact o.elim
  | jnk => exact h.1.1
  | tset ks => exact h.1.1
  | dF kvs => exact h.1.1
def SlOk (K : PySem.W.Frag) (c : Ct) (hid : Hid) (σ : St) (H : Hp) (i : Nat) : Sl → Prop
  | .no => True
  | .v d => ∃ x, σ[i]? = some (some x) ∧ Rep K (vw H hid) x d
  | .own ds => ∃ a xs, σ[i]? = some (some (.ref a)) ∧ H a = some (.lst xs) ∧ hid a = true ∧ c.H₀ a = none ∧ Reps K (vw H hid) xs ds
  | .arg ds => ∃ a xs, σ[i]? = some (some (.ref a)) ∧ H a = some (.lst xs) ∧ hid a = true ∧ c.mu a = true ∧ Reps K (vw H hid) xs ds
  | .ob b => ∃ a, σ[i]? = some (some (.ref a)) ∧ ObOk K c hid H a b
def Ow : Option Sl → Prop
  | some (.own _) => True
  | some (.arg _) => True
  | some (.ob b) => ObOw b
  | _ => False

structure SR (K : PySem.W.Frag) (c : Ct) (hid : Hid) (ρ : Rho) (σ : St) (H : Hp) : Prop where
  tr : ∀ b, hid b = true → ∃ o, H b = some o
  ht : ∀ b xs, hid b = true → H b ≠ some (.tup xs)
  h0 : ∀ b, c.hid₀ b = true → hid b = true
  kp : ∀ b o, c.H₀ b = some o → c.mu b = false → H b = some o
  t0 : ∀ b o, c.H₀ b = some o → ∃ o', H b = some o'
  c0 : ∀ b, c.hid₀ b = true → ∃ o, c.H₀ b = some o
  m0 : ∀ b, c.mu b = true → c.hid₀ b = true
  len : σ.length = ρ.length
  sl : ∀ (i : Nat) (s : Sl), ρ[i]? = some s → SlOk K c hid σ H i s
  ap : ∀ (i j : Nat) (a : Addr), i ≠ j → Ow ρ[i]? → Ow ρ[j]? → σ[i]? = some (some (.ref a)) → σ[j]? = some (some (.ref a)) → False

section
variable {K : PySem.W.Frag} {c : Ct} {hid : Hid} {ρ : Rho} {σ : St} {H H' : Hp} {i : Nat}
theorem SlOk.ext {s : Sl} (h : SlOk K c hid σ H i s) (e : Same H H') : SlOk K c hid σ H' i s := by
  cases s with
  | no => trivial
  | v d => obtain ⟨x, h1, h2⟩ := h; exact ⟨x, h1, h2.mono (vw_same e)⟩
  | own ds => obtain ⟨a, xs, h1, h2, h3, h4, h5⟩ := h; exact ⟨a, xs, h1, e _ _ h2, h3, h4, h5.mono (vw_same e)⟩
  | arg ds => obtain ⟨a, xs, h1, h2, h3, h4, h5⟩ := h; exact ⟨a, xs, h1, e _ _ h2, h3, h4, h5.mono (vw_same e)⟩
  | ob b => obtain ⟨a, h1, h2⟩ := h; exact ⟨a, h1, h2.mono (fun _ => e a) (vw_same e) fun _ q => q⟩
theorem SR.ext (h : SR K c hid ρ σ H) (e : Same H H') : SR K c hid ρ σ H' where
  tr := fun b hb => let ⟨o, q⟩ := h.tr b hb; ⟨o, e _ _ q⟩
  ht := fun b xs hb q => let ⟨o, w⟩ := h.tr b hb; by have z := e _ _ w; rw [q] at z; cases z; exact h.ht b xs hb w
  h0 := h.h0
  kp := fun b o q m => e _ _ (h.kp b o q m)
  t0 := fun b o q => let ⟨o', q'⟩ := h.t0 b o q; ⟨o', e _ _ q'⟩
  c0 := h.c0
  m0 := h.m0
  len := h.len
  sl := fun i s q => (h.sl i s q).ext e
  ap := h.ap
/-- what is hidden is tracked, and no tuple -/
def Trk (hid : Hid) (H : Hp) : Prop := (∀ b, hid b = true → ∃ o, H b = some o) ∧ ∀ b xs, hid b = true → H b ≠ some (.tup xs)
theorem SR.trk (h : SR K c hid ρ σ H) : Trk hid H := ⟨h.tr, h.ht⟩
theorem SR.fresh (h : SR K c hid ρ σ H) {a : Addr} (n : H a = none) : hid a = false := by
  cases e : hid a with
  | false => rfl
  | true => obtain ⟨o, q⟩ := h.tr a e; rw [n] at q; cases q
theorem SR.fresh0 (h : SR K c hid ρ σ H) {a : Addr} (n : H a = none) : c.H₀ a = none := by
  cases e : c.H₀ a with
  | none => rfl
  | some o => obtain ⟨o', q⟩ := h.t0 a o e; rw [n] at q; cases q
end

/-! kinds of results -/
inductive Kd where
  | b | s | n
  deriving DecidableEq
def Rep1 (K : PySem.W.Frag) (H W : Hp) (v : V) (d : D) : Prop := Rep K W v d ∨ ∃ a xs ds, v = .ref a ∧ d = .lst ds ∧ H a = some (.lst xs) ∧ Reps K W xs ds
def RN (K : PySem.W.Frag) (H H' : Hp) (hid : Hid) (v : V) (d : D) : Prop := ∃ a xs ds, d = .lst ds ∧ v = .ref a ∧ H a = none ∧ H' a = some (.lst xs) ∧ Reps K (vw H' (hadd hid a)) xs ds
def RK (K : PySem.W.Frag) (k : Kd) (H H' : Hp) (hid : Hid) (v : V) (d : D) : Prop := match k with
  | .b => Rep1 K H' (vw H' hid) v d
  | .s => Rep K (vw H' hid) v d
  | .n => RN K H H' hid v d
section
variable {K : PySem.W.Frag} {c : Ct} {hid : Hid} {ρ : Rho} {σ : St} {H H' H'' : Hp} {i : Nat} {v : V} {d : D}
theorem RN.rep (h : RN K H H' hid v d) (hf : ∀ a, H a = none → hid a = false) : Rep K (vw H' hid) v d := by
  obtain ⟨a, xs, ds, rfl, rfl, h1, h2, h3⟩ := h
  refine .lst (vw_some.mpr ⟨hf a h1, h2⟩) (h3.mono (vw_less fun b q => ?_))
  unfold hadd; rw [q]; rfl
theorem RK.s (k : Kd) (hk : k ≠ .b) (h : RK K k H H' hid v d) (hf : ∀ a, H a = none → hid a = false) : Rep K (vw H' hid) v d := by
  cases k with
  | b => exact absurd rfl hk
  | s => exact h
  | n => exact RN.rep h hf
theorem RK.b (k : Kd) (h : RK K k H H' hid v d) (hf : ∀ a, H a = none → hid a = false) : Rep1 K H' (vw H' hid) v d := by
  cases k with
  | b => exact h
  | s => exact .inl h
  | n => exact .inl (RN.rep h hf)
theorem Rep1.ext {hid : Hid} (h : Rep1 K H (vw H hid) v d) (e : Same H H') : Rep1 K H' (vw H' hid) v d := by
  rcases h with h | ⟨a, xs, ds, h1, h2, h3, h4⟩
  · exact .inl (h.mono (vw_same e))
  · exact .inr ⟨a, xs, ds, h1, h2, e _ _ h3, h4.mono (vw_same e)⟩
/-- what a borrowed value is, by its datum -/
theorem Rep1.int {i : Int} (h : Rep1 K H (vw H hid) v (.int i)) : v = .int i := by
  rcases h with h | ⟨a, xs, ds, h1, h2, _⟩
  · cases h; rfl
  · cases h2
theorem Rep1.bl {i : Bool} (h : Rep1 K H (vw H hid) v (.bl i)) : v = .bl i := by
  rcases h with h | ⟨a, xs, ds, h1, h2, _⟩
  · cases h; rfl
  · cases h2
theorem Rep1.str {i : Str} (h : Rep1 K H (vw H hid) v (.str i)) : v = .str i := by
  rcases h with h | ⟨a, xs, ds, h1, h2, _⟩
  · cases h; rfl
  · cases h2
theorem Rep1.non (h : Rep1 K H (vw H hid) v .non) : v = .non := by
  rcases h with h | ⟨a, xs, ds, h1, h2, _⟩
  · cases h; rfl
  · cases h2
theorem Rep1.tup {ds : List D} (h : Rep1 K H (vw H hid) v (.tup ds)) : ∃ a xs, v = .ref a ∧ SqT K (vw H hid) a xs ∧ SqT K H a xs ∧ Reps K (vw H hid) xs ds := by
  rcases h with h | ⟨a, xs, ds, h1, h2, _⟩
  · cases h with
    | tup q r => exact ⟨_, _, rfl, q, Same.seqT (vw_le _ _) q, r⟩
  · cases h2
theorem Rep1.lst {ds : List D} (h : Rep1 K H (vw H hid) v (.lst ds)) : ∃ a xs, v = .ref a ∧ SqL K H a xs ∧ Reps K (vw H hid) xs ds := by
  rcases h with h | ⟨a, xs, ds, h1, h2, h3, h4⟩
  · cases h with
    | lst q r => exact ⟨_, _, rfl, SqL.of (vw_le _ _ _ _ q), r⟩
  · cases h2
    exact ⟨a, xs, h1, SqL.of h3, h4⟩
theorem Rep1.scr {ds : List D} (h : Rep1 K H (vw H hid) v (.scr ds)) : ∃ a xs, v = .ref a ∧ SqL K H a xs ∧ Reps K (vw H hid) xs ds := by
  rcases h with h | ⟨a, xs, ds, h1, h2, h3, h4⟩
  · cases h with
    | scr q r => exact ⟨_, _, rfl, (vw_le _ _).seq q.seq, r⟩
  · cases h2
end

/-! ### the judgements -/
theorem PE.imp {X : Cx} {e : Expr} {t t' : TE} (h : PE X e t) (i : ∀ σ H Q, t' σ H Q → t σ H Q) : PE X e t' := fun pins s σ H Q I q => h pins s σ H Q I (i σ H Q q)
theorem PT.imp {X : Cx} {e : Expr} {t t' : TT} (h : PT X e t) (i : ∀ σ H Q, t' σ H Q → t σ H Q) : PT X e t' := fun pins s σ H Q I q => h pins s σ H Q I (i σ H Q q)
theorem PW.imp {X : Cx} {e : Expr} {t t' : TT} (h : PW X e t) (i : ∀ σ H Q, t' σ H Q → t σ H Q) : PW X e t' := fun wh pins s σ H Q I q => h wh pins s σ H Q I (i σ H Q q)
theorem PA.imp {X : Cx} {e : List Expr} {t t' : TA} (h : PA X e t) (i : ∀ σ H Q, t' σ H Q → t σ H Q) : PA X e t' := fun p pins s σ H Q I q => h p pins s σ H Q I (i σ H Q q)
theorem PS.imp {X : Cx} {e : Stmt} {t t' : TS} (h : PS X e t) (i : ∀ D σ H, t' D σ H → t D σ H) : PS X e t' := fun pins s σ H D I q => h pins s σ H D I (i D σ H q)
theorem PSs.imp {X : Cx} {e : List Stmt} {t t' : TS} (h : PSs X e t) (i : ∀ D σ H, t' D σ H → t D σ H) : PSs X e t' := fun pins s σ H D I q => h pins s σ H D I (i D σ H q)

abbrev FE := Rho → Option D
abbrev FT := Rho → Option Bool
abbrev FA := Rho → Option (List D)
def rdP (K : PySem.W.Frag) (c : Ct) (hid : Hid) (k : Kd) (f : FE) (ρ : Rho) : TE := fun σ H Q => SR K c hid ρ σ H ∧ ∃ d, f ρ = some d ∧ ∀ v H', Same H H' → RK K k H H' hid v d → Q v H'
def rdT (K : PySem.W.Frag) (c : Ct) (hid : Hid) (f : FT) (ρ : Rho) : TT := fun σ H Q => SR K c hid ρ σ H ∧ ∃ d, f ρ = some d ∧ ∀ H', Same H H' → Q d H'
def rdA (K : PySem.W.Frag) (c : Ct) (hid : Hid) (f : FA) (ρ : Rho) : TA := fun σ H Q => SR K c hid ρ σ H ∧ ∃ d, f ρ = some d ∧ ∀ vs H', Same H H' → Reps K (vw H' hid) vs d → Q vs H'
/-- a pure expression -/
def DP (X : Cx) (c : Ct) (k : Kd) (e : Expr) (f : FE) : Prop := ∀ hid ρ, PE X e (rdP X.K c hid k f ρ)
def DT (X : Cx) (c : Ct) (e : Expr) (f : FT) : Prop := ∀ hid ρ, PT X e (rdT X.K c hid f ρ)
def DW (X : Cx) (c : Ct) (e : Expr) (f : FT) : Prop := ∀ hid ρ, PW X e (rdT X.K c hid f ρ)
def DA (X : Cx) (c : Ct) (es : List Expr) (f : FA) : Prop := ∀ hid ρ, PA X es (rdA X.K c hid f ρ)

section
variable {X : Cx} {c : Ct} {e a b : Expr} {es : List Expr} {f g : FE} {k : Kd} {pos : Pos}
theorem DP.toB (h : DP X c k e f) : DP X c .b e f := fun hid ρ => PE.imp (h hid ρ) fun σ H Q ⟨sr, d, hd, q⟩ => ⟨sr, d, hd, fun v H' s r => q v H' s (RK.b k r fun a n => sr.fresh n)⟩
theorem DP.toS (h : DP X c .n e f) : DP X c .s e f := fun hid ρ => PE.imp (h hid ρ) fun σ H Q ⟨sr, d, hd, q⟩ => ⟨sr, d, hd, fun v H' s r => q v H' s (RN.rep r fun a n => sr.fresh n)⟩

/-! names and constants -/
def nmF (i : Nat) : FE := fun ρ => match ρ[i]? with
  | some (.v d) => some d
  | _ => none
def nbF (i : Nat) : FE := fun ρ => match ρ[i]? with
  | some (.v d) => some d
  | some (.own ds) => some (.lst ds)
  | some (.arg ds) => some (.lst ds)
  | _ => none
theorem dp_nm (i : Nat) {x : Str} (hN : X.N[i]? = some x := by rfl) (hv : Vis X.env.scope x := by first | exact Or.inl rfl | exact Or.inr (Or.inl rfl) | exact Or.inr (Or.inr rfl)) (hd : (x == ("__debug__" : Str)) = false := by decide)
    (hcd : (x == ("__classdict__" : Str)) = false := by decide) : DP X c .s (.Name x pos) (nmF i) := fun hid ρ => PE.imp (pv i hN hv hd hcd) fun σ H Q ⟨sr, d, hd, q⟩ => by
  unfold nmF at hd
  split at hd
  · rename_i d' e'
    cases hd
    obtain ⟨x, h1, h2⟩ := sr.sl i _ e'
    exact ⟨x, h1, q x H (Same.refl _) h2⟩
  · cases hd
theorem dp_nb (i : Nat) {x : Str} (hN : X.N[i]? = some x := by rfl) (hv : Vis X.env.scope x := by first | exact Or.inl rfl | exact Or.inr (Or.inl rfl) | exact Or.inr (Or.inr rfl)) (hd : (x == ("__debug__" : Str)) = false := by decide)
    (hcd : (x == ("__classdict__" : Str)) = false := by decide) : DP X c .b (.Name x pos) (nbF i) := fun hid ρ => PE.imp (pv i hN hv hd hcd) fun σ H Q ⟨sr, d, hd, q⟩ => by
  unfold nbF at hd
  split at hd
  · rename_i d' e'
    cases hd
    obtain ⟨x, h1, h2⟩ := sr.sl i _ e'
    exact ⟨x, h1, q x H (Same.refl _) (.inl h2)⟩
  · rename_i d' e'
    cases hd
    obtain ⟨a, xs, h1, h2, h3, h4, h5⟩ := sr.sl i _ e'
    exact ⟨_, h1, q _ H (Same.refl _) (.inr ⟨a, xs, _, rfl, rfl, h2, h5⟩)⟩
  · rename_i d' e'
    cases hd
    obtain ⟨a, xs, h1, h2, h3, h4, h5⟩ := sr.sl i _ e'
    exact ⟨_, h1, q _ H (Same.refl _) (.inr ⟨a, xs, _, rfl, rfl, h2, h5⟩)⟩
  · cases hd
def cst (d : D) : FE := fun _ => some d
theorem dp_int {i : Int} {j pos} : DP X c .s (.Constant (.int i) j pos) (cst (.int i)) := fun hid ρ => PE.imp pe_int fun σ H Q ⟨sr, d, hd, q⟩ => by
  cases hd; exact q _ H (Same.refl _) .int
theorem dp_bl {i : Bool} {j pos} : DP X c .s (.Constant (.bool i) j pos) (cst (.bl i)) := fun hid ρ => PE.imp pe_bl fun σ H Q ⟨sr, d, hd, q⟩ => by
  cases hd; exact q _ H (Same.refl _) .bl
theorem dp_str {i : Str} {j pos} : DP X c .s (.Constant (.str i) j pos) (cst (.str i)) := fun hid ρ => PE.imp pe_str fun σ H Q ⟨sr, d, hd, q⟩ => by
  cases hd; exact q _ H (Same.refl _) .str
theorem dp_non {j pos} : DP X c .s (.Constant .none j pos) (cst .non) := fun hid ρ => PE.imp pe_non fun σ H Q ⟨sr, d, hd, q⟩ => by
  cases hd; exact q _ H (Same.refl _) .non

/-! two operands -/
def op2 (F : D → D → Option D) (f g : FE) : FE := fun ρ => (f ρ).bind fun x => (g ρ).bind fun y => F x y
theorem op2_some {F : D → D → Option D} {ρ : Rho} {d : D} (h : op2 F f g ρ = some d) : ∃ x y, f ρ = some x ∧ g ρ = some y ∧ F x y = some d := by
  unfold op2 at h
  cases e1 : f ρ with
  | none => rw [e1] at h; cases h
  | some x =>
    cases e2 : g ρ with
    | none => rw [e1, e2] at h; cases h
    | some y => rw [e1, e2] at h; exact ⟨x, y, rfl, rfl, h⟩
/-- what a rule of two values gives by data -/
def OpD (K : PySem.W.Frag) (k : Kd) (r : R2) (F : D → D → Option D) : Prop := ∀ (H : Hp) (hid : Hid) (v u : V) (x y d : D) (Q : VK), (∀ a, H a = none → hid a = false) → F x y = some d → Rep1 K H (vw H hid) v x → Rep1 K H (vw H hid) u y →
  (∀ w H', Same H H' → RK K k H H' hid w d → Q w H') → r v u H Q
theorem Same.none {H H' : Hp} {a : Addr} (s : Same H H') (n : H' a = none) : H a = none := s.free n
theorem RK.left {K : PySem.W.Frag} {H H1 H' : Hp} {hid : Hid} {v : V} {d : D} (s : Same H H1) (h : RK K k H1 H' hid v d) : RK K k H H' hid v d := by
  cases k with
  | b => exact h
  | s => exact h
  | n =>
    obtain ⟨a, xs, ds, h1, h2, h3, h4⟩ := h
    exact ⟨a, xs, ds, h1, h2, s.free h3, h4⟩
theorem rd2 {r : R2} {F : D → D → Option D} {k1 k2 : Kd} {hid : Hid} {ρ : Rho} (hF : OpD X.K k r F) {σ : St} {H : Hp} {Q : VK} (h : rdP X.K c hid k (op2 F f g) ρ σ H Q) : tOp r (rdP X.K c hid k1 f ρ) (rdP X.K c hid k2 g ρ) σ H Q := by
  obtain ⟨sr, d, hd, q⟩ := h
  obtain ⟨x, y, e1, e2, e3⟩ := op2_some hd
  refine ⟨sr, x, e1, fun v H1 s1 r1 => ⟨sr.ext s1, y, e2, fun u H2 s2 r2 => ?_⟩⟩
  have b1 := (RK.b k1 r1 fun a n => sr.fresh n).ext s2
  have b2 := RK.b k2 r2 fun a n => (sr.ext s1).fresh n
  exact hF H2 hid v u x y d Q (fun a n => ((sr.ext s1).ext s2).fresh n) e3 b1 b2 fun w H' s3 r3 => q w H' ((s1.trans s2).trans s3) (RK.left (s1.trans s2) r3)
theorem dp_op {op : Operator} {r : R2} {F : D → D → Option D} {k1 k2 : Kd} (ho : OpR X (binaryOp op) r) (hF : OpD X.K k r F) (ha : DP X c k1 a f) (hb : DP X c k2 b g) : DP X c k (.BinOp a op b pos) (op2 F f g) := fun hid ρ =>
  PE.imp (pe_op ho (ha hid ρ) (hb hid ρ)) fun σ H Q h => rd2 hF h
theorem dp_cmp {op : CmpOp} {r : R2} {F : D → D → Option D} {k1 k2 : Kd} (ho : OpR X (compareOp op) r) (hF : OpD X.K .s r F) (ha : DP X c k1 a f) (hb : DP X c k2 b g) (hm : behindInMarks op b = false) : DP X c .s (.Compare a [op] [b] pos) (op2 F f g) := fun hid ρ =>
  PE.imp (pe_cmpR ho (ha hid ρ) (hb hid ρ) hm) fun σ H Q h => rd2 hF h
def asB : Option D → Option Bool
  | some (.bl b) => some b
  | _ => none
theorem dt_cmp {op : CmpOp} {r : R2} {F : D → D → Option D} {k1 k2 : Kd} (ho : OpR X (compareOp op) r) (hF : OpD X.K .s r F) (ha : DP X c k1 a f) (hb : DP X c k2 b g) (hm : behindInMarks op b = false) : DT X c (.Compare a [op] [b] pos) (fun ρ => asB (op2 F f g ρ)) := fun hid ρ =>
  PT.imp (pt_cmpR ho (ha hid ρ) (hb hid ρ) hm) fun σ H Q ⟨sr, d, hd, q⟩ => by
    refine rd2 (X := X) (k := .s) (F := F) hF ?_
    dsimp only at hd
    cases e : op2 F f g ρ with
    | none => rw [e] at hd; cases hd
    | some x =>
      rw [e] at hd
      cases x with
      | bl z =>
        cases hd
        refine ⟨sr, _, e, fun v H' s r => ⟨d, ?_, q H' s⟩⟩
        cases r; rfl
      | _ => cases hd
theorem dp_ix {r : R2} {F : D → D → Option D} {k1 k2 : Kd} (hr : IxR X r) (hF : OpD X.K k r F) (ha : DP X c k1 a f) (hb : DP X c k2 b g) (hs : PlainIx b) : DP X c k (.Subscript a b pos) (op2 F f g) := fun hid ρ =>
  PE.imp (pe_ix hr (ha hid ρ) (hb hid ρ) hs) fun σ H Q h => rd2 hF h
end

/-! operations on ints -/
def i2 (C : Int → Int → Bool) (G : Int → Int → D) : D → D → Option D
  | .int i, .int j => if C i j = true then some (G i j) else none
  | _, _ => none
section
variable {K : PySem.W.Frag}
theorem i2_some {C : Int → Int → Bool} {G : Int → Int → D} {x y d : D} (h : i2 C G x y = some d) : ∃ i j, x = .int i ∧ y = .int j ∧ C i j = true ∧ d = G i j := by
  unfold i2 at h
  split at h
  · split at h
    · cases h; exact ⟨_, _, rfl, rfl, ‹_›, rfl⟩
    · cases h
  · cases h
theorem od_I {C : Int → Int → Prop} {B : Int → Int → Bool} {g : Int → Int → Int} (hC : ∀ i j, B i j = true → C i j) : OpD K .s (rI C fun i j => .int (g i j)) (i2 B fun i j => .int (g i j)) := by
  intro H hid v u x y d Q hf h r1 r2 q
  obtain ⟨i, j, rfl, rfl, hc, rfl⟩ := i2_some h
  cases r1.int; cases r2.int
  exact ⟨i, j, rfl, rfl, hC i j hc, q _ H (Same.refl _) .int⟩
theorem od_I0 {g : Int → Int → Int} : OpD K .s (rI0 fun i j => .int (g i j)) (i2 (fun _ _ => true) fun i j => .int (g i j)) := by
  intro H hid v u x y d Q hf h r1 r2 q
  obtain ⟨i, j, rfl, rfl, hc, rfl⟩ := i2_some h
  cases r1.int; cases r2.int
  exact ⟨i, j, rfl, rfl, q _ H (Same.refl _) .int⟩
theorem od_B0 {g : Int → Int → Bool} : OpD K .s (rI0 fun i j => .bl (g i j)) (i2 (fun _ _ => true) fun i j => .bl (g i j)) := by
  intro H hid v u x y d Q hf h r1 r2 q
  obtain ⟨i, j, rfl, rfl, hc, rfl⟩ := i2_some h
  cases r1.int; cases r2.int
  exact ⟨i, j, rfl, rfl, q _ H (Same.refl _) .bl⟩
end
end L2
set_option Elab.async false
set_option linter.all false
set_option maxRecDepth 100000
namespace L2
open PySem PySem.Spec PyProof.Rows

/-! ### tests -/
section
variable {X : Cx} {c : Ct} {e a b : Expr} {es rest : List Expr} {f g : FE} {p q : FT} {k : Kd} {pos : Pos}
def truD : D → Option Bool
  | .non => some false
  | .bl b => some b
  | .int i => some (i != 0)
  | .str y => if y.length ≤ sizeLine then some ((y.length : Int) != 0) else none
  | .lst ds => some (!ds.isEmpty)
  | .tup ds => some (!ds.isEmpty)
  | .scr ds => some (!ds.isEmpty)
theorem Reps.isEmpty {K : PySem.W.Frag} {F : Hp} {xs : List V} {ds : List D} (r : Reps K F xs ds) : xs.isEmpty = ds.isEmpty := by cases r <;> rfl
theorem tru_of {K : PySem.W.Frag} {H : Hp} {hid : Hid} {v : V} {d : D} {b : Bool} (h : truD d = some b) (r : Rep1 K H (vw H hid) v d) : TruV K v H b := by
  cases d with
  | non => cases r.non; cases h; rfl
  | bl x => cases r.bl; cases h; rfl
  | int i => cases r.int; cases h; rfl
  | str y =>
    cases r.str
    have h' : (if y.length ≤ sizeLine then some ((y.length : Int) != 0) else none) = some b := h
    split at h'
    · cases h'; exact ⟨‹_›, rfl⟩
    · cases h'
  | lst ds =>
    obtain ⟨a, xs, rfl, h1, h2⟩ := r.lst
    cases h
    exact .inl ⟨xs, h1, by rw [h2.isEmpty]⟩
  | tup ds =>
    obtain ⟨a, xs, rfl, _, h1, h2⟩ := r.tup
    cases h
    exact .inr (.inl ⟨xs, h1, by rw [h2.isEmpty]⟩)
  | scr ds =>
    obtain ⟨a, xs, rfl, h1, h2⟩ := r.scr
    cases h
    exact .inl ⟨xs, h1, by rw [h2.isEmpty]⟩
def tru1 (f : FE) : FT := fun ρ => (f ρ).bind truD
theorem dt_val (ha : DP X c k a f) (he : ∀ whole, isTrue a X.env whole = (do let v ← whole; standAt a.pos; holding [v] (truthy v)) := by intro _; rfl) : DT X c a (tru1 f) := fun hid ρ =>
  PT.imp (pt_truth (ha hid ρ) he) fun σ H Q ⟨sr, d, hd, q⟩ => by
    unfold tru1 at hd
    cases e : f ρ with
    | none => rw [e] at hd; cases hd
    | some x =>
      rw [e] at hd
      exact ⟨sr, x, e, fun v H' s r => ⟨d, tru_of hd (RK.b k r fun a n => sr.fresh n), q H' s⟩⟩
def and2 (p q : FT) : FT := fun ρ => (p ρ).bind fun b => if b = true then q ρ else some false
def or2 (p q : FT) : FT := fun ρ => (p ρ).bind fun b => if b = true then some true else q ρ
def not1 (p : FT) : FT := fun ρ => (p ρ).map (!·)
theorem dw_or1 (ha : DT X c a p) : DW X c (.BoolOp .Or [a] pos) p := fun hid ρ => pw_or1 (ha hid ρ)
theorem dw_or (ha : DT X c a p) (hb : DW X c (.BoolOp .Or (b :: rest) pos) q) : DW X c (.BoolOp .Or (a :: b :: rest) pos) (or2 p q) := fun hid ρ =>
  PW.imp (pw_or (ha hid ρ) (hb hid ρ)) fun σ H Q ⟨sr, d, hd, hq⟩ => by
    unfold or2 at hd
    cases e : p ρ with
    | none => rw [e] at hd; cases hd
    | some x =>
      rw [e] at hd
      refine ⟨sr, x, e, fun H1 s1 => ?_⟩
      cases x with
      | false => exact iteF ⟨sr.ext s1, d, hd, fun H2 s2 => hq H2 (s1.trans s2)⟩
      | true => cases hd; exact iteT (hq H1 s1)
theorem DW.dt (h : DW X c e p) : DT X c e p := fun hid ρ => (h hid ρ).pt
theorem dt_not (ha : DT X c a p) : DT X c (.UnaryOp .Not a pos) (not1 p) := fun hid ρ =>
  PT.imp (pt_not (ha hid ρ)) fun σ H Q ⟨sr, d, hd, hq⟩ => by
    unfold not1 at hd
    cases e : p ρ with
    | none => rw [e] at hd; cases hd
    | some x => rw [e] at hd; cases hd; exact ⟨sr, x, e, fun H1 s1 => hq H1 s1⟩
/-! bools as values -/
def asD (p : FT) : FE := fun ρ => (p ρ).map D.bl
def toB (f : FE) : FT := fun ρ => asB (f ρ)
theorem toB_some {ρ : Rho} {b : Bool} (h : toB f ρ = some b) : f ρ = some (.bl b) := by
  unfold toB asB at h
  split at h
  · cases h; assumption
  · cases h
theorem dp_and (ha : DP X c .s a f) (hb : DP X c .s (.BoolOp .And (b :: rest) pos) g) : DP X c .s (.BoolOp .And (a :: b :: rest) pos) (asD (and2 (toB f) (toB g))) := fun hid ρ =>
  PE.imp (pe_and (ha hid ρ) (hb hid ρ)) fun σ H Q ⟨sr, d, hd, hq⟩ => by
    unfold asD and2 at hd
    cases e : toB f ρ with
    | none => rw [e] at hd; cases hd
    | some x =>
      rw [e] at hd
      refine ⟨sr, _, toB_some e, fun v H1 s1 r => ?_⟩
      cases r
      refine ⟨x, rfl, ?_⟩
      cases x with
      | true =>
        refine iteT ?_
        cases e2 : toB g ρ with
        | none => rw [show (some true : Option Bool).bind (fun b => if b = true then toB g ρ else some false) = toB g ρ from rfl, e2] at hd; cases hd
        | some y =>
          rw [show (some true : Option Bool).bind (fun b => if b = true then toB g ρ else some false) = toB g ρ from rfl, e2] at hd; cases hd
          exact ⟨sr.ext s1, _, toB_some e2, fun v2 H2 s2 r2 => hq v2 H2 (s1.trans s2) r2⟩
      | false => cases hd; exact iteF (hq _ H1 s1 .bl)
theorem dp_or (ha : DP X c .s a f) (hb : DP X c .s (.BoolOp .Or (b :: rest) pos) g) : DP X c .s (.BoolOp .Or (a :: b :: rest) pos) (asD (or2 (toB f) (toB g))) := fun hid ρ =>
  PE.imp (pe_or (ha hid ρ) (hb hid ρ)) fun σ H Q ⟨sr, d, hd, hq⟩ => by
    unfold asD or2 at hd
    cases e : toB f ρ with
    | none => rw [e] at hd; cases hd
    | some x =>
      rw [e] at hd
      refine ⟨sr, _, toB_some e, fun v H1 s1 r => ?_⟩
      cases r
      refine ⟨x, rfl, ?_⟩
      cases x with
      | false =>
        refine iteF ?_
        cases e2 : toB g ρ with
        | none => rw [show (some false : Option Bool).bind (fun b => if b = true then some true else toB g ρ) = toB g ρ from rfl, e2] at hd; cases hd
        | some y =>
          rw [show (some false : Option Bool).bind (fun b => if b = true then some true else toB g ρ) = toB g ρ from rfl, e2] at hd; cases hd
          exact ⟨sr.ext s1, _, toB_some e2, fun v2 H2 s2 r2 => hq v2 H2 (s1.trans s2) r2⟩
      | true => cases hd; exact iteT (hq _ H1 s1 .bl)
theorem dp_one {op} (h : DP X c k a f) : DP X c k (.BoolOp op [a] pos) f := fun hid ρ => pe_one (h hid ρ)
theorem dp_not (ha : DP X c .s a f) : DP X c .s (.UnaryOp .Not a pos) (asD (not1 (toB f))) := fun hid ρ =>
  PE.imp (pe_not (ha hid ρ)) fun σ H Q ⟨sr, d, hd, hq⟩ => by
    unfold asD not1 at hd
    cases e : toB f ρ with
    | none => rw [e] at hd; cases hd
    | some x =>
      rw [e] at hd; cases hd
      refine ⟨sr, _, toB_some e, fun v H1 s1 r => ?_⟩
      cases r
      exact ⟨x, rfl, hq _ H1 s1 .bl⟩
/-- a if t else b -/
def ifF (p : FT) (f g : FE) : FE := fun ρ => (p ρ).bind fun b => if b = true then f ρ else g ρ
theorem dp_if {t : Expr} (hk : k ≠ .n) (ht : DT X c t p) (ha : DP X c k a f) (hb : DP X c k b g) : DP X c k (.IfExp t a b pos) (ifF p f g) := fun hid ρ =>
  PE.imp (pe_ifExp (ht hid ρ) (ha hid ρ) (hb hid ρ)) fun σ H Q ⟨sr, d, hd, hq⟩ => by
    unfold ifF at hd
    cases e : p ρ with
    | none => rw [e] at hd; cases hd
    | some x =>
      rw [e] at hd
      refine ⟨sr, x, e, fun H1 s1 => ?_⟩
      have lf : ∀ {v H2}, RK X.K k H1 H2 hid v d → RK X.K k H H2 hid v d := fun {v H2} r => RK.left s1 r
      cases x with
      | true => exact iteT ⟨sr.ext s1, d, hd, fun v H2 s2 r => hq v H2 (s1.trans s2) (lf r)⟩
      | false => exact iteF ⟨sr.ext s1, d, hd, fun v H2 s2 r => hq v H2 (s1.trans s2) (lf r)⟩

/-! ### chains of comparisons -/
variable {r r' : R2} {h : FE} {e3 : Expr}
def ch3 (F G : D → D → Option D) (f g h : FE) : FE := fun ρ => (f ρ).bind fun x => (g ρ).bind fun y => (asB (F x y)).bind fun k => if k = true then (h ρ).bind fun z => G y z else some (.bl false)
theorem ch3_rd {F G : D → D → Option D} {k1 k2 k3 : Kd} {hid : Hid} {ρ : Rho} (hF : OpD X.K .s r F) (hG : OpD X.K .s r' G) {σ : St} {H : Hp} {Q : VK} (hh : rdP X.K c hid .s (ch3 F G f g h) ρ σ H Q) :
    tChain r r' (rdP X.K c hid k1 f ρ) (rdP X.K c hid k2 g ρ) (rdP X.K c hid k3 h ρ) σ H Q := by
  obtain ⟨sr, d, hd, q⟩ := hh
  unfold ch3 at hd
  cases e1 : f ρ with
  | none => rw [e1] at hd; cases hd
  | some x =>
    cases e2 : g ρ with
    | none => rw [e1, e2] at hd; cases hd
    | some y =>
      rw [e1, e2] at hd
      have hd' : (asB (F x y)).bind (fun k => if k = true then (h ρ).bind fun z => G y z else some (.bl false)) = some d := hd
      cases e3 : F x y with
      | none => rw [e3] at hd'; cases hd'
      | some z =>
        cases z with
        | bl kk =>
          rw [e3] at hd'
          refine ⟨sr, x, e1, fun v H1 s1 r1 => ⟨sr.ext s1, y, e2, fun u H2 s2 r2 => ?_⟩⟩
          have b1 := (RK.b k1 r1 fun a n => sr.fresh n).ext s2
          have b2 := RK.b k2 r2 fun a n => (sr.ext s1).fresh n
          have fr : ∀ a, H2 a = none → hid a = false := fun a n => ((sr.ext s1).ext s2).fresh n
          refine hF H2 hid v u x y _ _ fr e3 b1 b2 fun w H3 s3 r3 => ?_
          cases r3
          refine ⟨kk, rfl, ?_⟩
          cases kk with
          | false => cases hd'; exact iteF (q _ H3 ((s1.trans s2).trans s3) .bl)
          | true =>
            refine iteT ?_
            cases e4 : h ρ with
            | none => rw [e4] at hd'; cases hd'
            | some z =>
              rw [e4] at hd'
              have hd2 : G y z = some d := hd'
              refine ⟨((sr.ext s1).ext s2).ext s3, z, e4, fun w' H4 s4 r4 => ?_⟩
              have b3 := RK.b k3 r4 fun a n => (((sr.ext s1).ext s2).ext s3).fresh n
              exact hG H4 hid u w' y z d Q (fun a n => ((((sr.ext s1).ext s2).ext s3).ext s4).fresh n) hd2 ((b2.ext s3).ext s4) b3 fun w2 H5 s5 r5 => q w2 H5 ((((s1.trans s2).trans s3).trans s4).trans s5) r5
        | _ => rw [e3] at hd'; cases hd'
theorem dp_ch {op op' : CmpOp} {F G : D → D → Option D} {k1 k2 k3 : Kd} (ho : OpR X (compareOp op) r) (ho' : OpR X (compareOp op') r') (hF : OpD X.K .s r F) (hG : OpD X.K .s r' G) (ha : DP X c k1 a f) (hb : DP X c k2 b g) (hc : DP X c k3 e3 h)
    (hm : lastMarks [op, op'] [b, e3] = false := by with_unfolding_all rfl) : DP X c .s (.Compare a [op, op'] [b, e3] pos) (ch3 F G f g h) := fun hid ρ =>
  PE.imp (pe_chain ho ho' (ha hid ρ) (hb hid ρ) (hc hid ρ) hm) fun σ H Q hh => ch3_rd hF hG hh
theorem dt_ch {op op' : CmpOp} {F G : D → D → Option D} {k1 k2 k3 : Kd} (ho : OpR X (compareOp op) r) (ho' : OpR X (compareOp op') r') (hF : OpD X.K .s r F) (hG : OpD X.K .s r' G) (ha : DP X c k1 a f) (hb : DP X c k2 b g) (hc : DP X c k3 e3 h)
    (hm : lastMarks [op, op'] [b, e3] = false := by with_unfolding_all rfl) : DT X c (.Compare a [op, op'] [b, e3] pos) (toB (ch3 F G f g h)) := fun hid ρ =>
  PT.imp (pt_chain ho ho' (ha hid ρ) (hb hid ρ) (hc hid ρ) hm) fun σ H Q ⟨sr, d, hd, q⟩ => by
    refine ch3_rd (X := X) (F := F) (G := G) hF hG ⟨sr, _, toB_some hd, fun v H' s r => ⟨d, ?_, q H' s⟩⟩
    cases r; rfl
end

/-! ### argument lists and displays -/
section
variable {X : Cx} {c : Ct} {e a b : Expr} {es rest : List Expr} {f g : FE} {fs : FA} {k : Kd} {pos : Pos}
def nilA : FA := fun _ => some []
def consA (f : FE) (fs : FA) : FA := fun ρ => (f ρ).bind fun d => (fs ρ).map fun r => d :: r
theorem consA_some {ρ : Rho} {ds : List D} (h : consA f fs ρ = some ds) : ∃ d r, f ρ = some d ∧ fs ρ = some r ∧ ds = d :: r := by
  unfold consA at h
  cases e1 : f ρ with
  | none => rw [e1] at h; cases h
  | some d =>
    cases e2 : fs ρ with
    | none => rw [e1, e2] at h; cases h
    | some r => rw [e1, e2] at h; cases h; exact ⟨d, r, rfl, rfl, rfl⟩
theorem da_nil : DA X c [] nilA := fun hid ρ => PA.imp pa_nil fun σ H Q ⟨sr, d, hd, q⟩ => by cases hd; exact q [] H (Same.refl _) .nil
theorem da_cons (ha : DP X c .s e f) (hr : DA X c es fs) (hs : starEach (e :: es) X.env = (false, eval e X.env) :: starEach es X.env := by rfl) : DA X c (e :: es) (consA f fs) := fun hid ρ =>
  PA.imp (pa_cons (ha hid ρ) (hr hid ρ) hs) fun σ H Q ⟨sr, d, hd, q⟩ => by
    obtain ⟨d1, r, e1, e2, rfl⟩ := consA_some hd
    exact ⟨sr, d1, e1, fun v H1 s1 r1 => ⟨sr.ext s1, r, e2, fun vs H2 s2 r2 => q _ H2 (s1.trans s2) (.cons (Rep.mono (vw_same s2) r1) r2)⟩⟩
def tupF (fs : FA) : FE := fun ρ => (fs ρ).bind fun ds => if ds.length ≤ sizeLine then some (.tup ds) else none
def lstF (fs : FA) : FE := fun ρ => (fs ρ).bind fun ds => if ds.length ≤ sizeLine then some (.lst ds) else none
theorem tupF_some {ρ : Rho} {d : D} (h : tupF fs ρ = some d) : ∃ ds, fs ρ = some ds ∧ ds.length ≤ sizeLine ∧ d = .tup ds := by
  unfold tupF at h
  cases e1 : fs ρ with
  | none => rw [e1] at h; cases h
  | some ds =>
    rw [e1] at h
    have h' : (if ds.length ≤ sizeLine then some (D.tup ds) else none) = some d := h
    split at h'
    · cases h'; exact ⟨ds, rfl, ‹_›, rfl⟩
    · cases h'
theorem lstF_some {ρ : Rho} {d : D} (h : lstF fs ρ = some d) : ∃ ds, fs ρ = some ds ∧ ds.length ≤ sizeLine ∧ d = .lst ds := by
  unfold lstF at h
  cases e1 : fs ρ with
  | none => rw [e1] at h; cases h
  | some ds =>
    rw [e1] at h
    have h' : (if ds.length ≤ sizeLine then some (D.lst ds) else none) = some d := h
    split at h'
    · cases h'; exact ⟨ds, rfl, ‹_›, rfl⟩
    · cases h'
theorem same_new {H : Hp} {p : Addr} (h : H p = none) (o : HO) : Same H (upd H p o) := fun b u q => by rw [upd_ne (ne_of_none q h)]; exact q
theorem rep_newT {K : PySem.W.Frag} {H : Hp} {hid : Hid} {p : Addr} {xs : List V} {ds : List D} (hn : H p = none) (hf : hid p = false) (r : Reps K (vw H hid) xs ds) : Rep K (vw (upd H p (.tup xs)) hid) (.ref p) (.tup ds) :=
  .tup (SqT.of (vw_some.mpr ⟨hf, upd_same⟩)) (r.mono (vw_same (same_new hn _)))
theorem rn_new {K : PySem.W.Frag} {H H0 : Hp} {hid : Hid} {p : Addr} {xs : List V} {ds : List D} (hn : H p = none) (s : Same H0 H) (r : Reps K (vw H hid) xs ds) : RN K H0 (upd H p (.lst xs)) hid (.ref p) (.lst ds) :=
  ⟨p, xs, ds, rfl, rfl, s.free hn, upd_same, by rw [vw_new hn]; exact r⟩
theorem dp_tup {x1} (h : DA X c es fs) : DP X c .s (.Tuple es x1 pos) (tupF fs) := fun hid ρ => PE.imp (pe_tup (h hid ρ)) fun σ H Q ⟨sr, d, hd, q⟩ => by
  obtain ⟨ds, e1, hz, rfl⟩ := tupF_some hd
  exact ⟨sr, ds, e1, fun vs H1 s1 r1 => ⟨by rw [r1.length]; exact hz, fun p hp => q _ _ (s1.trans (same_new hp _)) (rep_newT hp ((sr.ext s1).fresh hp) r1)⟩⟩
theorem dp_lst (h : DA X c es fs) : DP X c .n (.List es pos) (lstF fs) := fun hid ρ => PE.imp (pe_lst (h hid ρ)) fun σ H Q ⟨sr, d, hd, q⟩ => by
  obtain ⟨ds, e1, hz, rfl⟩ := lstF_some hd
  exact ⟨sr, ds, e1, fun vs H1 s1 r1 => ⟨by rw [r1.length]; exact hz, fun p hp => q _ _ (s1.trans (same_new hp _)) (rn_new hp s1 r1)⟩⟩

/-! ### built-ins upon borrowed arguments -/
abbrev Reps1 (K : PySem.W.Frag) (H W : Hp) : List V → List D → Prop := Paired (Rep1 K H W)
def rdB (K : PySem.W.Frag) (c : Ct) (hid : Hid) (f : FA) (ρ : Rho) : TA := fun σ H Q => SR K c hid ρ σ H ∧ ∃ d, f ρ = some d ∧ ∀ vs H', Same H H' → Reps1 K H' (vw H' hid) vs d → Q vs H'
def DB (X : Cx) (c : Ct) (es : List Expr) (f : FA) : Prop := ∀ hid ρ, PA X es (rdB X.K c hid f ρ)
theorem db_nil : DB X c [] nilA := fun hid ρ => PA.imp pa_nil fun σ H Q ⟨sr, d, hd, q⟩ => by cases hd; exact q [] H (Same.refl _) .nil
theorem db_cons (ha : DP X c k e f) (hr : DB X c es fs) (hs : starEach (e :: es) X.env = (false, eval e X.env) :: starEach es X.env := by rfl) : DB X c (e :: es) (consA f fs) := fun hid ρ =>
  PA.imp (pa_cons (ha hid ρ) (hr hid ρ) hs) fun σ H Q ⟨sr, d, hd, q⟩ => by
    obtain ⟨d1, r, e1, e2, rfl⟩ := consA_some hd
    exact ⟨sr, d1, e1, fun v H1 s1 r1 => ⟨sr.ext s1, r, e2, fun vs H2 s2 r2 => q _ H2 (s1.trans s2) (.cons ((RK.b k r1 fun a n => sr.fresh n).ext s2) r2)⟩⟩
def CallD (K : PySem.W.Frag) (k : Kd) (r : List V → Hp → VK → Prop) (F : List D → Option D) : Prop := ∀ (H : Hp) (hid : Hid) (vs : List V) (ds : List D) (d : D) (Q : VK), (∀ a, H a = none → hid a = false) → F ds = some d → Reps1 K H (vw H hid) vs ds →
  (∀ w H', Same H H' → RK K k H H' hid w d → Q w H') → r vs H Q
def callF (F : List D → Option D) (fs : FA) : FE := fun ρ => (fs ρ).bind F
theorem callF_some {F : List D → Option D} {ρ : Rho} {d : D} (h : callF F fs ρ = some d) : ∃ ds, fs ρ = some ds ∧ F ds = some d := by
  unfold callF at h
  cases e1 : fs ρ with
  | none => rw [e1] at h; cases h
  | some ds => rw [e1] at h; exact ⟨ds, rfl, h⟩
theorem rdCB {r : List V → Hp → VK → Prop} {F : List D → Option D} {hid : Hid} {ρ : Rho} (hF : CallD X.K k r F) {σ : St} {H : Hp} {Q : VK} (h : rdP X.K c hid k (callF F fs) ρ σ H Q) : tCB r (rdB X.K c hid fs ρ) σ H Q := by
  obtain ⟨sr, d, hd, q⟩ := h
  obtain ⟨ds, e1, e2⟩ := callF_some hd
  exact ⟨sr, ds, e1, fun vs H1 s1 r1 => hF H1 hid vs ds d Q (fun a n => (sr.ext s1).fresh n) e2 r1 fun w H' s2 r2 => q w H' (s1.trans s2) (RK.left s1 r2)⟩
variable {x : Str} {p : Pos} {id T : String} {r : List V → Hp → VK → Prop} {F : List D → Option D}
theorem dp_callB (hc : CallR X (.builtin id) r) (hF : CallD X.K k r F) (hm : X.mg x = none) (ha : DB X c (e :: es) fs) (hg : Gl X x := by rfl) (hv : bootBuiltins x = some (.builtin id) := by first | exact PySem.boot_len | rfl | kernel_rfl) (hn : x ≠ "__name__" := by decide) (hdb : (x == ("__debug__" : Str)) = false := by decide)
    (he : starEach (e :: es) X.env = (false, eval e X.env) :: starEach es X.env := by rfl) (hpl : (backTo pos (starEach es X.env)).any (·.1) = false := by rfl) : DP X c k (.Call (.Name x p) (e :: es) [] pos) (callF F fs) := fun hid ρ =>
  PE.imp (pe_callB hc hg hm hv (ha hid ρ) hn hdb he hpl) fun σ H Q h => rdCB hF h
theorem dp_callTy (hc : CallR X (.type T) r) (hF : CallD X.K k r F) (hm : X.mg x = none) (ha : DB X c (e :: es) fs) (hg : Gl X x := by rfl) (hv : bootBuiltins x = some (.type T) := by first | rfl | kernel_rfl) (hn : x ≠ "__name__" := by decide) (hdb : (x == ("__debug__" : Str)) = false := by decide)
    (he : starEach (e :: es) X.env = (false, eval e X.env) :: starEach es X.env := by rfl) (hpl : (backTo pos (starEach es X.env)).any (·.1) = false := by rfl) : DP X c k (.Call (.Name x p) (e :: es) [] pos) (callF F fs) := fun hid ρ =>
  PE.imp (pe_callTy hc hg hm hv (ha hid ρ) hn hdb he hpl) fun σ H Q h => rdCB hF h
end

/-! the built-ins by data -/
section
variable {K : PySem.W.Frag}
theorem Reps1.one {H W : Hp} {v : List V} {d : D} (r : Reps1 K H W v [d]) : ∃ x, v = [x] ∧ Rep1 K H W x d := by
  cases r with
  | cons r t => cases t; exact ⟨_, rfl, r⟩
theorem Reps1.two {H W : Hp} {v : List V} {d d' : D} (r : Reps1 K H W v [d, d']) : ∃ x y, v = [x, y] ∧ Rep1 K H W x d ∧ Rep1 K H W y d' := by
  cases r with
  | cons r t => cases t with
    | cons r' t => cases t; exact ⟨_, _, rfl, r, r'⟩
def lenD : List D → Option D
  | [.lst ds] => some (.int ds.length)
  | [.tup ds] => some (.int ds.length)
  | [.scr ds] => some (.int ds.length)
  | _ => none
theorem cd_len : CallD K .s (fun xs H Q => ∃ p ys, xs = [.ref p] ∧ (SqL K H p ys ∨ SqT K H p ys) ∧ Q (.int ys.length) H) lenD := by
  intro H hid vs ds d Q hf h r q
  unfold lenD at h
  split at h
  · cases h
    obtain ⟨x, rfl, r1⟩ := Reps1.one r
    obtain ⟨a, xs, rfl, h1, h2⟩ := r1.lst
    exact ⟨a, xs, rfl, .inl h1, by rw [h2.length]; exact q _ H (Same.refl _) .int⟩
  · cases h
    obtain ⟨x, rfl, r1⟩ := Reps1.one r
    obtain ⟨a, xs, rfl, _, h1, h2⟩ := r1.tup
    exact ⟨a, xs, rfl, .inr h1, by rw [h2.length]; exact q _ H (Same.refl _) .int⟩
  · cases h
    obtain ⟨x, rfl, r1⟩ := Reps1.one r
    obtain ⟨a, xs, rfl, h1, h2⟩ := r1.scr
    exact ⟨a, xs, rfl, .inl h1, by rw [h2.length]; exact q _ H (Same.refl _) .int⟩
  · cases h
def absI : List D → Option D
  | [.int i] => some (.int (if i < 0 then -i else i))
  | _ => none
theorem cd_abs : CallD K .s (fun xs H Q => ∃ i, xs = [.int i] ∧ Q (.int (if i < 0 then -i else i)) H) absI := by
  intro H hid vs ds d Q hf h r q
  unfold absI at h
  split at h
  · cases h
    obtain ⟨x, rfl, r1⟩ := Reps1.one r
    cases r1.int
    exact ⟨_, rfl, q _ H (Same.refl _) .int⟩
  · cases h
def max2D : List D → Option D
  | [.int i, .int j] => some (.int (if j > i then j else i))
  | _ => none
theorem cd_max2 : CallD K .s (fun xs H Q => ∃ i j, xs = [.int i, .int j] ∧ Q (.int (if j > i then j else i)) H) max2D := by
  intro H hid vs ds d Q hf h r q
  unfold max2D at h
  split at h
  · cases h
    obtain ⟨x, y, rfl, r1, r2⟩ := Reps1.two r
    cases r1.int; cases r2.int
    exact ⟨_, _, rfl, q _ H (Same.refl _) .int⟩
  · cases h
def min2D : List D → Option D
  | [.int i, .int j] => some (.int (if j < i then j else i))
  | _ => none
theorem cd_min2 : CallD K .s (fun xs H Q => ∃ i j, xs = [.int i, .int j] ∧ Q (.int (if j < i then j else i)) H) min2D := by
  intro H hid vs ds d Q hf h r q
  unfold min2D at h
  split at h
  · cases h
    obtain ⟨x, y, rfl, r1, r2⟩ := Reps1.two r
    cases r1.int; cases r2.int
    exact ⟨_, _, rfl, q _ H (Same.refl _) .int⟩
  · cases h
def listD : List D → Option D
  | [.lst ds] => some (.lst ds)
  | [.tup ds] => some (.lst ds)
  | _ => none
theorem cd_list : CallD K .n (fun xs H Q => ∃ p ys, xs = [.ref p] ∧ (SqL K H p ys ∨ SqT K H p ys) ∧ ∀ l, H l = none → Q (.ref l) (upd H l (.lst ys))) listD := by
  intro H hid vs ds d Q hf h r q
  unfold listD at h
  split at h
  · cases h
    obtain ⟨x, rfl, r1⟩ := Reps1.one r
    obtain ⟨a, xs, rfl, h1, h2⟩ := r1.lst
    exact ⟨a, xs, rfl, .inl h1, fun l hl => q _ _ (same_new hl _) (rn_new hl (Same.refl _) h2)⟩
  · cases h
    obtain ⟨x, rfl, r1⟩ := Reps1.one r
    obtain ⟨a, xs, rfl, _, h1, h2⟩ := r1.tup
    exact ⟨a, xs, rfl, .inr h1, fun l hl => q _ _ (same_new hl _) (rn_new hl (Same.refl _) h2)⟩
  · cases h
def tupleD : List D → Option D
  | [.lst ds] => some (.tup ds)
  | [.tup ds] => some (.tup ds)
  | _ => none
theorem cd_tuple : CallD K .s (fun xs H Q => ∃ p ys, xs = [.ref p] ∧ ((SqL K H p ys ∧ ∀ l, H l = none → Q (.ref l) (upd H l (.tup ys))) ∨ (SqT K H p ys ∧ Q (.ref p) H))) tupleD := by
  intro H hid vs ds d Q hf h r q
  unfold tupleD at h
  split at h
  · cases h
    obtain ⟨x, rfl, r1⟩ := Reps1.one r
    obtain ⟨a, xs, rfl, h1, h2⟩ := r1.lst
    exact ⟨a, xs, rfl, .inl ⟨h1, fun l hl => q _ _ (same_new hl _) (rep_newT hl (hf l hl) h2)⟩⟩
  · cases h
    obtain ⟨x, rfl, r1⟩ := Reps1.one r
    obtain ⟨a, xs, rfl, h0, h1, h2⟩ := r1.tup
    exact ⟨a, xs, rfl, .inr ⟨h1, q _ H (Same.refl _) (.tup h0 h2)⟩⟩
  · cases h
/-! items -/
def ixD : D → D → Option D
  | .lst ds, .int i => atI ds i
  | .tup ds, .int i => atI ds i
  | .scr ds, .int i => atI ds i
  | _, _ => none
theorem atI_rep {F : Hp} {xs : List V} {ds : List D} {i : Int} {d : D} (r : Reps K F xs ds) (h : atI ds i = some d) : ∃ x, atI xs i = some x ∧ Rep K F x d := by
  unfold atI at h ⊢
  rw [r.length]
  cases e : ixN ds.length i with
  | none => rw [e] at h; cases h
  | some j =>
    rw [e] at h
    obtain ⟨x, h1, h2⟩ := r.get (i := j) h
    exact ⟨x, h1, h2⟩
theorem od_ix : OpD K .s (rIx K) ixD := by
  intro H hid v u x y d Q hf h r1 r2 q
  unfold ixD at h
  split at h
  · cases r2.int
    obtain ⟨a, xs, rfl, h1, h2⟩ := r1.lst
    obtain ⟨z, h3, h4⟩ := atI_rep h2 h
    exact .inl ⟨a, xs, _, z, rfl, rfl, h1, h3, q _ H (Same.refl _) h4⟩
  · cases r2.int
    obtain ⟨a, xs, rfl, _, h1, h2⟩ := r1.tup
    obtain ⟨z, h3, h4⟩ := atI_rep h2 h
    exact .inr (.inl ⟨a, xs, _, z, rfl, rfl, h1, h3, q _ H (Same.refl _) h4⟩)
  · cases r2.int
    obtain ⟨a, xs, rfl, h1, h2⟩ := r1.scr
    obtain ⟨z, h3, h4⟩ := atI_rep h2 h
    exact .inl ⟨a, xs, _, z, rfl, rfl, h1, h3, q _ H (Same.refl _) h4⟩
  · cases h
end
end L2
set_option Elab.async false
set_option linter.all false
set_option maxRecDepth 100000
namespace L2
open PySem PySem.Spec PyProof.Rows

/-! ### expressions that change what the frame holds -/
abbrev GE := Rho → Option (D × Rho)
abbrev GA := Rho → Option (List D × Rho)
def Kept (hid : Hid) (H H' : Hp) : Prop := ∀ b o, H b = some o → hid b = false → H' b = some o
theorem Kept.of {hid : Hid} {H H' : Hp} (s : Same H H') : Kept hid H H' := fun b o q _ => s b o q
theorem Kept.trans {hid : Hid} {H H1 H2 : Hp} (a : Kept hid H H1) (b : Kept hid H1 H2) : Kept hid H H2 := fun c o q h => b c o (a c o q h) h
theorem Kept.vw {hid : Hid} {H H' : Hp} (a : Kept hid H H') : Same (vw H hid) (vw H' hid) := vw_keep a
def PostE (K : PySem.W.Frag) (c : Ct) (hid : Hid) (k : Kd) (ρ' : Rho) (σ : St) (H H' : Hp) (v : V) (d : D) : Prop := Kept hid H H' ∧ match k with
  | .n => ∃ a xs ds, d = .lst ds ∧ v = .ref a ∧ H a = none ∧ H' a = some (.lst xs) ∧ c.H₀ a = none ∧ hid a = false ∧ SR K c (hadd hid a) ρ' σ H' ∧ Reps K (vw H' (hadd hid a)) xs ds ∧ ∀ i : Nat, Ow ρ'[i]? → σ[i]? ≠ some (some (.ref a))
  | _ => SR K c hid ρ' σ H' ∧ Rep K (vw H' hid) v d
def rdE (K : PySem.W.Frag) (c : Ct) (hid : Hid) (k : Kd) (f : GE) (ρ : Rho) : TE := fun σ H Q => SR K c hid ρ σ H ∧ ∃ d ρ', f ρ = some (d, ρ') ∧ ∀ v H', PostE K c hid k ρ' σ H H' v d → Q v H'
def DE (X : Cx) (c : Ct) (k : Kd) (e : Expr) (f : GE) : Prop := ∀ hid ρ, PE X e (rdE X.K c hid k f ρ)
def pu (f : FE) : GE := fun ρ => (f ρ).map fun d => (d, ρ)
theorem pu_some {f : FE} {ρ ρ' : Rho} {d : D} (h : pu f ρ = some (d, ρ')) : f ρ = some d ∧ ρ' = ρ := by
  unfold pu at h
  cases e : f ρ with
  | none => rw [e] at h; cases h
  | some x => rw [e] at h; cases h; exact ⟨rfl, rfl⟩

section
variable {K : PySem.W.Frag} {c : Ct} {hid hid' : Hid} {ρ : Rho} {σ : St} {H H' : Hp} {i : Nat} {a : Addr}
theorem hadd_true {hid : Hid} {a b : Addr} (h : hid b = true) : hadd hid a b = true := by unfold hadd; rw [h]; rfl
theorem hadd_self {hid : Hid} {a : Addr} : hadd hid a a = true := by unfold hadd; simp
/-- what is newer than the state may be hidden -/
theorem SR.hide (h : SR K c hid ρ σ H) (e : Same H H') (n : H a = none) {o : HO} (ho : H' a = some o) (hn : ∀ xs, o ≠ .tup xs := by intro _ e; cases e) : SR K c (hadd hid a) ρ σ H' := by
  have sm : Same (vw H hid) (vw H' (hadd hid a)) := fun b o q => by
    obtain ⟨q1, q2⟩ := vw_some.mp q
    refine vw_some.mpr ⟨?_, e _ _ q2⟩
    unfold hadd
    rw [q1]
    have : b ≠ a := ne_of_none q2 n
    simp [this]
  refine ⟨fun b hb => ?_, fun b xs hb q => by
    by_cases eb : b = a
    · subst eb; rw [ho] at q; exact hn _ (Option.some.inj q)
    · unfold hadd at hb
      exact (h.ext e).ht b xs (by simpa [eb] using hb) q, fun b q => hadd_true (h.h0 b q), (h.ext e).kp, (h.ext e).t0, h.c0, h.m0, h.len, fun i s q => ?_, h.ap⟩
  · by_cases eb : b = a
    · subst eb; exact ⟨_, ho⟩
    · unfold hadd at hb
      have : hid b = true := by simpa [eb] using hb
      obtain ⟨o', q⟩ := h.tr b this
      exact ⟨o', e _ _ q⟩
  · have z := h.sl i s q
    cases s with
    | no => trivial
    | v d => obtain ⟨x, h1, h2⟩ := z; exact ⟨x, h1, h2.mono sm⟩
    | own ds => obtain ⟨a', xs, h1, h2, h3, h4, h5⟩ := z; exact ⟨a', xs, h1, e _ _ h2, hadd_true h3, h4, h5.mono sm⟩
    | arg ds => obtain ⟨a', xs, h1, h2, h3, h4, h5⟩ := z; exact ⟨a', xs, h1, e _ _ h2, hadd_true h3, h4, h5.mono sm⟩
    | ob b => obtain ⟨a', h1, h2⟩ := z; exact ⟨a', h1, h2.mono (fun _ => e a') sm fun _ => hadd_true⟩
/-- showing again what is hidden -/
theorem SR.show (h : SR K c (hadd hid a) ρ σ H) (h0 : ∀ b, c.hid₀ b = true → hid b = true) (no : ∀ i : Nat, Ow ρ[i]? → σ[i]? ≠ some (some (.ref a))) : SR K c hid ρ σ H := by
  have sm : Same (vw H (hadd hid a)) (vw H hid) := vw_less fun b q => hadd_true q
  have un : ∀ b, b ≠ a → hadd hid a b = true → hid b = true := fun b nb hb => by unfold hadd at hb; simpa [nb] using hb
  refine ⟨fun b hb => h.tr b (hadd_true hb), fun b xs hb => h.ht b xs (hadd_true hb), h0, h.kp, h.t0, h.c0, h.m0, h.len, fun i s q => ?_, h.ap⟩
  have z := h.sl i s q
  cases s with
  | no => trivial
  | v d => obtain ⟨x, h1, h2⟩ := z; exact ⟨x, h1, h2.mono sm⟩
  | own ds =>
    obtain ⟨a', xs, h1, h2, h3, h4, h5⟩ := z
    have : a' ≠ a := fun e => by subst e; exact no i (by rw [q]; trivial) h1
    exact ⟨a', xs, h1, h2, un a' this h3, h4, h5.mono sm⟩
  | arg ds =>
    obtain ⟨a', xs, h1, h2, h3, h4, h5⟩ := z
    have : a' ≠ a := fun e => by subst e; exact no i (by rw [q]; trivial) h1
    exact ⟨a', xs, h1, h2, un a' this h3, h4, h5.mono sm⟩
  | ob b =>
    obtain ⟨a', h1, h2⟩ := z
    exact ⟨a', h1, h2.mono (fun _ _ q => q) sm fun ow => un a' fun e => by subst e; exact no i (by rw [q]; exact ow) h1⟩
theorem SR.notOw (h : SR K c hid ρ σ H) (n : hid a = false) (i : Nat) (o : Ow ρ[i]?) : σ[i]? ≠ some (some (.ref a)) := fun e => by
  cases q : ρ[i]? with
  | none => rw [q] at o; exact o
  | some s =>
    rw [q] at o
    have z := h.sl i s q
    cases s with
    | no => exact o
    | v d => exact o
    | own ds => obtain ⟨a', xs, h1, h2, h3, _⟩ := z; rw [e] at h1; cases h1; rw [n] at h3; cases h3
    | arg ds => obtain ⟨a', xs, h1, h2, h3, _⟩ := z; rw [e] at h1; cases h1; rw [n] at h3; cases h3
    | ob b => obtain ⟨a', h1, h2⟩ := z; rw [e] at h1; cases h1; have := h2.hid o; rw [n] at this; cases this
/-- behind a pure expression -/
theorem SR.post {k : Kd} {v : V} {d : D} (h : SR K c hid ρ σ H) (e : Same H H') (r : RK K k H H' hid v d) (hk : k ≠ .b) : PostE K c hid k ρ σ H H' v d := by
  cases k with
  | b => exact absurd rfl hk
  | s => exact ⟨.of e, h.ext e, r⟩
  | n =>
    obtain ⟨a, xs, ds, h1, h2, h3, h4, h5⟩ := r
    exact ⟨.of e, a, xs, ds, h1, h2, h3, h4, h.fresh0 h3, h.fresh h3, h.hide e h3 h4, h5, h.notOw (h.fresh h3)⟩
theorem PostE.left {k : Kd} {ρ' : Rho} {H1 : Hp} {v : V} {d : D} (s : Kept hid H H1) (p : PostE K c hid k ρ' σ H1 H' v d) : PostE K c hid k ρ' σ H H' v d := by
  cases k with
  | b => exact ⟨s.trans p.1, p.2⟩
  | s => exact ⟨s.trans p.1, p.2⟩
  | n =>
    obtain ⟨kp, a, xs, ds, h1, h2, hn, h3, h4, h5, h6⟩ := p
    refine ⟨s.trans kp, a, xs, ds, h1, h2, ?_, h3, h4, h5, h6⟩
    cases e : H a with
    | none => rfl
    | some o => rw [s a o e h5] at hn; cases hn
theorem PostE.toS {ρ' : Rho} {v : V} {d : D} (h0 : ∀ b, c.hid₀ b = true → hid b = true) (p : PostE K c hid .n ρ' σ H H' v d) : PostE K c hid .s ρ' σ H H' v d := by
  obtain ⟨kp, a, xs, ds, rfl, rfl, hn, h1, h2, h3, h4, h5, h6⟩ := p
  exact ⟨kp, h4.show h0 h6, .lst (vw_some.mpr ⟨h3, h1⟩) (h5.mono (vw_less fun b q => hadd_true q))⟩
end

section
variable {X : Cx} {c : Ct} {e a b : Expr} {es rest : List Expr} {f g : GE} {k : Kd} {pos : Pos}
theorem DP.ef {f : FE} (h : DP X c k e f) (hk : k ≠ .b := by decide) : DE X c k e (pu f) := fun hid ρ => PE.imp (h hid ρ) fun σ H Q ⟨sr, d, ρ', hd, q⟩ => by
  obtain ⟨h1, rfl⟩ := pu_some hd
  exact ⟨sr, d, h1, fun v H' s r => q v H' (sr.post s r hk)⟩
theorem DE.toS (h : DE X c .n e f) : DE X c .s e f := fun hid ρ => PE.imp (h hid ρ) fun σ H Q ⟨sr, d, ρ', hd, q⟩ => ⟨sr, d, ρ', hd, fun v H' p => q v H' (p.toS sr.h0)⟩
def bE {α : Type} (f : GE) (g : D → Rho → Option α) : Rho → Option α := fun ρ => (f ρ).bind fun p => g p.1 p.2
theorem bE_some {α : Type} {g : D → Rho → Option α} {ρ : Rho} {z : α} (h : bE f g ρ = some z) : ∃ d ρ', f ρ = some (d, ρ') ∧ g d ρ' = some z := by
  unfold bE at h
  cases e : f ρ with
  | none => rw [e] at h; cases h
  | some p => rw [e] at h; exact ⟨p.1, p.2, rfl, h⟩
def op2E (F : D → D → Option D) (f g : GE) : GE := bE f fun x => bE g fun y ρ => (F x y).map fun d => (d, ρ)
theorem op2E_some {F : D → D → Option D} {ρ ρ' : Rho} {d : D} (h : op2E F f g ρ = some (d, ρ')) : ∃ x ρ1 y, f ρ = some (x, ρ1) ∧ g ρ1 = some (y, ρ') ∧ F x y = some d := by
  obtain ⟨x, ρ1, h1, h2⟩ := bE_some h
  obtain ⟨y, ρ2, h3, h4⟩ := bE_some h2
  cases e : F x y with
  | none => rw [e] at h4; cases h4
  | some z => rw [e] at h4; cases h4; exact ⟨x, ρ1, y, h1, h3, e⟩
theorem rd2E {r : R2} {F : D → D → Option D} {hid : Hid} {ρ : Rho} (hF : OpD X.K k r F) (hk : k ≠ .b) {σ : St} {H : Hp} {Q : VK} (h : rdE X.K c hid k (op2E F f g) ρ σ H Q) : tOp r (rdE X.K c hid .s f ρ) (fun σ H Q => ∃ ρ1, rdE X.K c hid .s g ρ1 σ H Q) σ H Q := by
  obtain ⟨sr, d, ρ', hd, q⟩ := h
  obtain ⟨x, ρ1, y, e1, e2, e3⟩ := op2E_some hd
  refine ⟨sr, x, ρ1, e1, fun v H1 ⟨k1, s1, r1⟩ => ⟨ρ1, s1, y, ρ', e2, fun u H2 ⟨k2, s2, r2⟩ => ?_⟩⟩
  exact hF H2 hid v u x y d Q (fun a n => s2.fresh n) e3 (.inl (r1.mono k2.vw)) (.inl r2) fun w H' s3 r3 => q w H' (PostE.left (k1.trans k2) (s2.post s3 r3 hk))
theorem exPE {α : Type} {t : α → TE} (h : ∀ z, PE X e (t z)) : PE X e (fun σ H Q => ∃ z, t z σ H Q) := fun pins s σ H Q I ⟨z, q⟩ => h z pins s σ H Q I q
theorem de_op {op : Operator} {r : R2} {F : D → D → Option D} (ho : OpR X (binaryOp op) r) (hF : OpD X.K k r F) (ha : DE X c .s a f) (hb : DE X c .s b g) (hk : k ≠ .b := by decide) : DE X c k (.BinOp a op b pos) (op2E F f g) := fun hid ρ =>
  PE.imp (pe_op ho (ha hid ρ) (exPE fun ρ1 => hb hid ρ1)) fun σ H Q h => rd2E hF hk h

/-! arguments -/
def rdG (K : PySem.W.Frag) (c : Ct) (hid : Hid) (f : GA) (ρ : Rho) : TA := fun σ H Q => SR K c hid ρ σ H ∧ ∃ d ρ', f ρ = some (d, ρ') ∧ ∀ vs H', Kept hid H H' → SR K c hid ρ' σ H' → Reps K (vw H' hid) vs d → Q vs H'
def DG (X : Cx) (c : Ct) (es : List Expr) (f : GA) : Prop := ∀ hid ρ, PA X es (rdG X.K c hid f ρ)
def puA (f : FA) : GA := fun ρ => (f ρ).map fun d => (d, ρ)
theorem puA_some {f : FA} {ρ ρ' : Rho} {d : List D} (h : puA f ρ = some (d, ρ')) : f ρ = some d ∧ ρ' = ρ := by
  unfold puA at h
  cases e : f ρ with
  | none => rw [e] at h; cases h
  | some x => rw [e] at h; cases h; exact ⟨rfl, rfl⟩
theorem DA.gf {f : FA} (h : DA X c es f) : DG X c es (puA f) := fun hid ρ => PA.imp (h hid ρ) fun σ H Q ⟨sr, d, ρ', hd, q⟩ => by
  obtain ⟨h1, rfl⟩ := puA_some hd
  exact ⟨sr, d, h1, fun v H' s r => q v H' (.of s) (sr.ext s) r⟩
def consG (f : GE) (fs : GA) : GA := bE f fun d ρ => (fs ρ).map fun p => (d :: p.1, p.2)
theorem exPA {α : Type} {t : α → TA} (h : ∀ z, PA X es (t z)) : PA X es (fun σ H Q => ∃ z, t z σ H Q) := fun p pins s σ H Q I ⟨z, q⟩ => h z p pins s σ H Q I q
theorem dg_cons {fs : GA} (ha : DE X c .s e f) (hr : DG X c es fs) (hs : starEach (e :: es) X.env = (false, eval e X.env) :: starEach es X.env := by rfl) : DG X c (e :: es) (consG f fs) := fun hid ρ =>
  PA.imp (pa_cons (ha hid ρ) (exPA fun ρ1 => hr hid ρ1) hs) fun σ H Q ⟨sr, d, ρ', hd, q⟩ => by
    obtain ⟨d1, ρ1, e1, h2⟩ := bE_some hd
    cases e2 : fs ρ1 with
    | none => rw [e2] at h2; cases h2
    | some p =>
      rw [e2] at h2
      obtain ⟨ds, ρ2⟩ := p
      cases h2
      exact ⟨sr, d1, ρ1, e1, fun v H1 ⟨k1, s1, r1⟩ => ⟨ρ1, s1, ds, _, e2, fun vs H2 k2 s2 r2 => q _ H2 (k1.trans k2) s2 (.cons (r1.mono k2.vw) r2)⟩⟩
end

/-! ### what a def promises -/
def spP (K : PySem.W.Frag) (k : Kd) (n : Nat) (P : List D → Option D) : Sp := fun vs H Q _ => ∃ hid ds, Trk hid H ∧ Reps K (vw H hid) vs ds ∧ ds.length = n ∧ ∃ d, P ds = some d ∧ ∀ v H', Same H H' → RK K k H H' hid v d → Q v H'
def EndE (K : PySem.W.Frag) (k : Kd) (hid : Hid) (H H' : Hp) (v : V) (d : D) (xs' : List V) (bs' : List D) : Prop := match k with
  | .n => ∃ p ys es, d = .lst es ∧ v = .ref p ∧ H p = none ∧ H' p = some (.lst ys) ∧ Reps K (vw H' (hadd hid p)) ys es ∧ Reps K (vw H' (hadd hid p)) xs' bs'
  | _ => Rep K (vw H' hid) v d ∧ Reps K (vw H' hid) xs' bs'
def spE (K : PySem.W.Frag) (k : Kd) (n : Nat) (M : List D → List D → Option (D × List D)) : Sp := fun vs H Q _ => ∃ hid a xs bs us ds, vs = .ref a :: us ∧ Trk hid H ∧ hid a = true ∧ H a = some (.lst xs) ∧ Reps K (vw H hid) xs bs ∧
  Reps K (vw H hid) us ds ∧ ds.length = n ∧ ∃ d bs', M bs ds = some (d, bs') ∧ ∀ v H' xs', (∀ b o, H b = some o → b ≠ a → H' b = some o) → H' a = some (.lst xs') → EndE K k hid H H' v d xs' bs' → Q v H'

section
variable {X : Cx} {c : Ct} {e a b : Expr} {es rest : List Expr} {k : Kd} {pos p : Pos} {x : Str} {f : Addr} {fd : FuncData} {ps : List Str} {j n : Nat}
/-- f(..) of a def without effect -/
theorem dp_call {P : List D → Option D} {fs : FA} (F : FnOk X.prog X.w X.K X.mg X.base CX0 j f fd ps (spP X.K k n P)) (hr : Room j X.A) (hm : X.mg x = some (.ref f)) (hk : PySem.W.keepIn X.K (.ref f) = true) (hb : Binds X.K fd ps [])
    (ha : DA X c (e :: es) fs) (hg : Gl X x := by rfl) (hdb : (x == ("__debug__" : Str)) = false := by decide) (he : starEach (e :: es) X.env = (false, eval e X.env) :: starEach es X.env := by rfl) (hpl : (backTo pos (starEach es X.env)).any (·.1) = false := by rfl) :
    DP X c k (.Call (.Name x p) (e :: es) [] pos) (callF (fun ds => if ds.length = n then P ds else none) fs) := fun hid ρ =>
  PE.imp (pe_call F hr hg hm hk hb .nil (pass0 (X := X)) (ha hid ρ) hdb he hpl) fun σ H Q ⟨sr, d, hd, q⟩ => by
    obtain ⟨ds, e1, e2⟩ := callF_some hd
    have e2' : (if ds.length = n then P ds else none) = some d := e2
    split at e2'
    · refine ⟨sr, ds, e1, fun vs H1 s1 r1 => ?_⟩
      show spP X.K k n P (vs ++ []) H1 Q E0
      rw [List.append_nil]
      exact ⟨hid, ds, (sr.ext s1).trk, r1, ‹_›, d, e2', fun v H' s2 r2 => q v H' (s1.trans s2) (RK.left s1 r2)⟩
    · cases e2'
def setB (i : Nat) (bs : List D) (ρ : Rho) : Rho := match ρ[i]? with
  | some (.own _) => ρ.set i (.own bs)
  | some (.arg _) => ρ.set i (.arg bs)
  | _ => ρ
def getB (i : Nat) (ρ : Rho) : Option (List D) := match ρ[i]? with
  | some (.own ds) => some ds
  | some (.arg ds) => some ds
  | _ => none
theorem getB_some {i : Nat} {ρ : Rho} {bs : List D} (h : getB i ρ = some bs) : ρ[i]? = some (.own bs) ∨ ρ[i]? = some (.arg bs) := by
  unfold getB at h
  split at h
  · cases h; exact .inl ‹_›
  · cases h; exact .inr ‹_›
  · cases h
/-- the list that the frame holds alone at slot i -/
theorem SR.held {K : PySem.W.Frag} {hid : Hid} {ρ : Rho} {σ : St} {H : Hp} {i : Nat} {bs : List D} (h : SR K c hid ρ σ H) (hg : getB i ρ = some bs) : ∃ a xs, σ[i]? = some (some (.ref a)) ∧ H a = some (.lst xs) ∧ hid a = true ∧ Reps K (vw H hid) xs bs ∧ (c.mu a = true ∨ c.H₀ a = none) := by
  rcases getB_some hg with e | e
  · obtain ⟨a, xs, h1, h2, h3, h4, h5⟩ := h.sl i _ e
    exact ⟨a, xs, h1, h2, h3, h5, .inr h4⟩
  · obtain ⟨a, xs, h1, h2, h3, h4, h5⟩ := h.sl i _ e
    exact ⟨a, xs, h1, h2, h3, h5, .inl h4⟩
theorem getElem?_setB {i j : Nat} {ρ : Rho} {bs : List D} (h : j ≠ i) : (setB i bs ρ)[j]? = ρ[j]? := by
  unfold setB
  split
  · rw [List.getElem?_set_ne (Ne.symm h)]
  · rw [List.getElem?_set_ne (Ne.symm h)]
  · rfl
theorem setB_len {i : Nat} {ρ : Rho} {bs : List D} : (setB i bs ρ).length = ρ.length := by
  unfold setB
  split
  · simp
  · simp
  · rfl
theorem ow_setB {i j : Nat} {ρ : Rho} {bs : List D} (h : Ow (setB i bs ρ)[j]?) : Ow ρ[j]? := by
  by_cases e : j = i
  · subst e
    unfold setB at h
    split at h
    · rw [‹ρ[j]? = _›]; trivial
    · rw [‹ρ[j]? = _›]; trivial
    · exact h
  · rw [getElem?_setB e] at h; exact h
/-- the list at slot i is another one, the rest is kept -/
theorem SR.put {K : PySem.W.Frag} {hid : Hid} {ρ : Rho} {σ : St} {H H' : Hp} {i : Nat} {bs bs' : List D} {a : Addr} {xs' : List V} (h : SR K c hid ρ σ H) (hg : getB i ρ = some bs) (ha : σ[i]? = some (some (.ref a))) (kp : ∀ b o, H b = some o → b ≠ a → H' b = some o)
    (hx : H' a = some (.lst xs')) (r : Reps K (vw H' hid) xs' bs') : SR K c hid (setB i bs' ρ) σ H' := by
  obtain ⟨a1, xs, h1, h2, h3, h4, h5⟩ := h.held hg
  rw [ha] at h1; cases h1
  have sm : Same (vw H hid) (vw H' hid) := vw_keep fun b o q hb => kp b o q (fun e => by subst e; rw [h3] at hb; cases hb)
  have tr' : ∀ b o, H b = some o → ∃ o', H' b = some o' := fun b o q => by
    by_cases e : b = a
    · subst e; exact ⟨_, hx⟩
    · exact ⟨o, kp b o q e⟩
  refine ⟨fun b hb => let ⟨o, q⟩ := h.tr b hb; tr' b o q, fun b xs hb q => by
    by_cases e : b = a
    · subst e; rw [hx] at q; cases q
    · obtain ⟨o, w⟩ := h.tr b hb
      have z := kp b o w e
      rw [q] at z; cases z
      exact h.ht b xs hb w, h.h0, fun b o q m => ?_, fun b o q => let ⟨o', q'⟩ := h.t0 b o q; tr' b o' q', h.c0, h.m0, by rw [setB_len]; exact h.len, fun j s q => ?_, fun j l z n o1 o2 => h.ap j l z n (ow_setB o1) (ow_setB o2)⟩
  · refine kp b o (h.kp b o q m) fun e => ?_
    subst e
    rcases h5 with h5 | h5
    · rw [h5] at m; cases m
    · rw [h5] at q; cases q
  · by_cases e : j = i
    · subst e
      rcases getB_some hg with w | w
      · have lt := (List.getElem?_eq_some_iff.mp w).1
        unfold setB at q
        rw [w] at q
        dsimp only at q
        rw [List.getElem?_set_self lt] at q
        cases q
        obtain ⟨a2, xs2, g1, g2, g3, g4, g5⟩ := h.sl j _ w
        rw [ha] at g1; cases g1
        exact ⟨_, xs', ha, hx, g3, g4, r⟩
      · have lt := (List.getElem?_eq_some_iff.mp w).1
        unfold setB at q
        rw [w] at q
        dsimp only at q
        rw [List.getElem?_set_self lt] at q
        cases q
        obtain ⟨a2, xs2, g1, g2, g3, g4, g5⟩ := h.sl j _ w
        rw [ha] at g1; cases g1
        exact ⟨_, xs', ha, hx, g3, g4, r⟩
    · rw [getElem?_setB e] at q
      have z := h.sl j s q
      cases s with
      | no => trivial
      | v d => obtain ⟨x, h1, h2⟩ := z; exact ⟨x, h1, h2.mono sm⟩
      | own ds =>
        obtain ⟨a', xs, z1, z2, z3, z4, z5⟩ := z
        have ne : a' ≠ a := fun e' => by
          subst e'
          refine h.ap j i a' e (by rw [q]; trivial) ?_ z1 ha
          rcases getB_some hg with w | w <;> rw [w] <;> trivial
        exact ⟨a', xs, z1, kp _ _ z2 ne, z3, z4, z5.mono sm⟩
      | arg ds =>
        obtain ⟨a', xs, z1, z2, z3, z4, z5⟩ := z
        have ne : a' ≠ a := fun e' => by
          subst e'
          refine h.ap j i a' e (by rw [q]; trivial) ?_ z1 ha
          rcases getB_some hg with w | w <;> rw [w] <;> trivial
        exact ⟨a', xs, z1, kp _ _ z2 ne, z3, z4, z5.mono sm⟩
      | ob b =>
        obtain ⟨a', z1, z2⟩ := z
        refine ⟨a', z1, z2.mono (fun ow o w => kp _ _ w fun e' => ?_) sm fun _ w => w⟩
        subst e'
        refine h.ap j i a' e (by rw [q]; exact ow) ?_ z1 ha
        rcases getB_some hg with w | w <;> rw [w] <;> trivial
/-- f(bag, ..) of a def that changes the list at slot i -/
def callE (i n : Nat) (M : List D → List D → Option (D × List D)) (fs : GA) : GE := fun ρ => match getB i ρ with
  | none => none
  | some _ => match fs ρ with
    | none => none
    | some (ds, ρ1) => match getB i ρ1 with
      | none => none
      | some bs => if ds.length = n then match M bs ds with
          | none => none
          | some (d, bs') => some (d, setB i bs' ρ1) else none
theorem callE_some {i : Nat} {M : List D → List D → Option (D × List D)} {fs : GA} {ρ ρ' : Rho} {d : D} (h : callE i n M fs ρ = some (d, ρ')) : ∃ bs0 ds ρ1 bs bs', getB i ρ = some bs0 ∧ fs ρ = some (ds, ρ1) ∧ getB i ρ1 = some bs ∧ ds.length = n ∧ M bs ds = some (d, bs') ∧ ρ' = setB i bs' ρ1 := by
  unfold callE at h
  split at h
  · cases h
  · split at h
    · cases h
    · split at h
      · cases h
      · split at h
        · split at h
          · cases h
          · cases h; exact ⟨_, _, _, _, _, ‹_›, ‹_›, ‹_›, ‹_›, ‹_›, rfl⟩
        · cases h
theorem de_callE (i : Nat) {y : Str} {py : Pos} {M : List D → List D → Option (D × List D)} {fs : GA} (F : FnOk X.prog X.w X.K X.mg X.base CX0 j f fd ps (spE X.K k n M)) (hr : Room j X.A) (hm : X.mg x = some (.ref f)) (hk : PySem.W.keepIn X.K (.ref f) = true) (hb : Binds X.K fd ps [])
    (ha : DG X c es fs) (hkb : k ≠ .b := by decide) (hN : X.N[i]? = some y := by rfl) (hv : Vis X.env.scope y := by first | exact Or.inl rfl | exact Or.inr (Or.inl rfl) | exact Or.inr (Or.inr rfl)) (hd : (y == ("__debug__" : Str)) = false := by decide)
    (hcd : (y == ("__classdict__" : Str)) = false := by decide) (hs : starEach (.Name y py :: es) X.env = (false, eval (.Name y py) X.env) :: starEach es X.env := by rfl) (hg : Gl X x := by rfl) (hdb : (x == ("__debug__" : Str)) = false := by decide) (hpl : (backTo pos (starEach es X.env)).any (·.1) = false := by rfl) :
    DE X c k (.Call (.Name x p) (.Name y py :: es) [] pos) (callE i n M fs) := fun hid ρ =>
  PE.imp (pe_call F hr hg hm hk hb .nil (pass0 (X := X)) (pa_cons (pv i hN hv hd hcd) (ha hid ρ) hs) hdb hs hpl) fun σ H Q ⟨sr, d, ρ', hd', q⟩ => by
    obtain ⟨bs0, ds, ρ1, bs, bs', e0, e1, e2, e3, e4, rfl⟩ := callE_some hd'
    obtain ⟨a, xs0, a1, _, a3, _, _⟩ := sr.held e0
    refine ⟨.ref a, a1, sr, ds, ρ1, e1, fun us H1 k1 s1 r1 => ?_⟩
    obtain ⟨a', xs, b1, b2, b3, b4, b5⟩ := s1.held e2
    rw [a1] at b1; cases b1
    show spE X.K k n M ((.ref a :: us) ++ []) H1 Q E0
    rw [List.append_nil]
    refine ⟨hid, a, xs, bs, us, ds, rfl, s1.trk, b3, b2, b4, r1, e3, d, bs', e4, fun v H' xs' kp hx hr' => q v H' ?_⟩
    have kp' : Kept hid H1 H' := fun b o q hb => kp b o q fun e => by subst e; rw [b3] at hb; cases hb
    cases k with
    | b => exact absurd rfl hkb
    | s => exact ⟨k1.trans kp', s1.put e2 a1 kp hx hr'.2, hr'.1⟩
    | n =>
      obtain ⟨p', ys, es', rfl, rfl, h1, h2, h3, h4⟩ := hr'
      have np : hid p' = false := s1.fresh h1
      have na : a ≠ p' := fun e => by subst e; rw [b2] at h1; cases h1
      -- hide the new list in the state behind: first in a heap that is H1 and it
      have sB : SR X.K c (hadd hid p') ρ1 σ (upd H1 p' (.lst ys)) := s1.hide (same_new h1 _) h1 upd_same
      have kp2 : ∀ b o, (upd H1 p' (.lst ys)) b = some o → b ≠ a → H' b = some o := fun b o z hb => by
        by_cases e : b = p'
        · subst e; rw [upd_same] at z; cases z; exact h2
        · rw [upd_ne e] at z; exact kp b o z hb
      have sC : SR X.K c (hadd hid p') (setB i bs' ρ1) σ H' := sB.put e2 a1 kp2 hx h4
      have hn : H p' = none := by
        cases e : H p' with
        | none => rfl
        | some o => rw [k1 p' o e np] at h1; cases h1
      refine ⟨k1.trans kp', p', ys, es', rfl, rfl, hn, h2, s1.fresh0 h1, np, sC, h3, fun m hm hσ => ?_⟩
      have := s1.notOw np m (ow_setB hm)
      exact this hσ
end
end L2
set_option Elab.async false
set_option linter.all false
set_option maxRecDepth 100000
namespace L2
open PySem PySem.Spec PyProof.Rows

section
variable {X : Cx} {c : Ct} {e a b : Expr} {es rest : List Expr} {k : Kd} {pos p : Pos} {x : Str} {f : Addr} {fd : FuncData} {ps : List Str} {j n : Nat}
end

/-! ### statements -/
inductive Out where
  | nx (ρ : Rho) | rt (d : D) (ρ : Rho) | bk (ρ : Rho) | ct (ρ : Rho) | no
abbrev FS := Rho → Out
def hret (c : Ct) (k : Kd) (v : V) : Hid := match k, v with
  | .n, .ref a => hadd c.hid₀ a
  | _, _ => c.hid₀
/-- behind a return: the value, and what is left of the list that was handed in -/
structure Ret (K : PySem.W.Frag) (c : Ct) (k : Kd) (ρ' : Rho) (H' : Hp) (v : V) (d : D) : Prop where
  kp : ∀ b o, c.H₀ b = some o → c.mu b = false → H' b = some o
  val : match k with
    | .n => ∃ a xs ds, d = .lst ds ∧ v = .ref a ∧ c.H₀ a = none ∧ H' a = some (.lst xs) ∧ Reps K (vw H' (hadd c.hid₀ a)) xs ds
    | _ => Rep K (vw H' c.hid₀) v d
  arg : ∀ (i : Nat) (bs : List D), ρ'[i]? = some (Sl.arg bs) → ∃ a xs, c.mu a = true ∧ H' a = some (.lst xs) ∧ Reps K (vw H' (hret c k v)) xs bs
def EndOk (K : PySem.W.Frag) (c : Ct) (k : Kd) (D : Ends) (W : Hp) : Out → Prop
  | .nx ρ' => ∀ σ' H' hid', SR K c hid' ρ' σ' H' → Same W (vw H' hid') → D.nx σ' H'
  | .rt d ρ' => ∀ v H', Ret K c k ρ' H' v d → D.rt v H'
  | .bk ρ' => ∀ σ' H' hid', SR K c hid' ρ' σ' H' → Same W (vw H' hid') → D.bk σ' H'
  | .ct ρ' => ∀ σ' H' hid', SR K c hid' ρ' σ' H' → Same W (vw H' hid') → D.ct σ' H'
  | .no => False
theorem EndOk.mono {K : PySem.W.Frag} {c : Ct} {k : Kd} {D : Ends} {W W' : Hp} {o : Out} (h : EndOk K c k D W o) (s : Same W W') : EndOk K c k D W' o := by
  cases o with
  | nx ρ => exact fun σ' H' hid' z w => h σ' H' hid' z (s.trans w)
  | rt d ρ => exact h
  | bk ρ => exact fun σ' H' hid' z w => h σ' H' hid' z (s.trans w)
  | ct ρ => exact fun σ' H' hid' z w => h σ' H' hid' z (s.trans w)
  | no => exact h
def rdS (K : PySem.W.Frag) (c : Ct) (k : Kd) (t : FS) (ρ : Rho) : TS := fun D σ H => ∃ hid, SR K c hid ρ σ H ∧ EndOk K c k D (vw H hid) (t ρ)
def DS (X : Cx) (c : Ct) (k : Kd) (st : Stmt) (t : FS) : Prop := ∀ ρ, PS X st (rdS X.K c k t ρ)
def DSs (X : Cx) (c : Ct) (k : Kd) (st : List Stmt) (t : FS) : Prop := ∀ ρ, PSs X st (rdS X.K c k t ρ)

section
variable {X : Cx} {c : Ct} {k : Kd} {st : Stmt} {sts rest : List Stmt} {t u : FS} {e : Expr} {pos : Pos}
theorem exPSs {α : Type} {t : α → TS} (h : ∀ z, PSs X sts (t z)) : PSs X sts (fun D σ H => ∃ z, t z D σ H) := fun pins s σ H D I ⟨z, q⟩ => h z pins s σ H D I q
theorem exPT {α : Type} {t : α → TT} (h : ∀ z, PT X e (t z)) : PT X e (fun D σ H => ∃ z, t z D σ H) := fun pins s σ H D I ⟨z, q⟩ => h z pins s σ H D I q
def skip : FS := fun ρ => .nx ρ
def seqS (t u : FS) : FS := fun ρ => match t ρ with
  | .nx ρ' => u ρ'
  | .rt d ρ' => .rt d ρ'
  | .bk ρ' => .bk ρ'
  | .ct ρ' => .ct ρ'
  | .no => .no
theorem dss_nil : DSs X c k [] skip := fun ρ => PSs.imp pss_nil fun D σ H ⟨hid, sr, q⟩ => q σ H hid sr (Same.refl _)
theorem dss_one (h : DS X c k st t) : DSs X c k [st] t := fun ρ => pss_one (h ρ)
theorem dss_cons (h1 : DS X c k st t) (h2 : DSs X c k rest u) : DSs X c k (st :: rest) (seqS t u) := fun ρ =>
  PSs.imp (pss_cons (h1 ρ) (exPSs fun ρ1 => h2 ρ1)) fun D σ H ⟨hid, sr, q⟩ => by
    refine ⟨hid, sr, ?_⟩
    unfold seqS at q
    cases e : t ρ with
    | nx ρ1 => rw [e] at q; exact fun σ1 H1 hid1 sr1 v1 => ⟨ρ1, hid1, sr1, EndOk.mono q v1⟩
    | rt d ρ1 => rw [e] at q; exact q
    | bk ρ1 => rw [e] at q; exact q
    | ct ρ1 => rw [e] at q; exact q
    | no => rw [e] at q; exact q
/-- if -/
def ifS (p : FT) (t u : FS) : FS := fun ρ => match p ρ with
  | some true => t ρ
  | some false => u ρ
  | none => .no
theorem ds_if {p : FT} {a b : List Stmt} (hp : DT X c e p) (ha : DSs X c k a t) (hb : DSs X c k b u) : DS X c k (.If e a b pos) (ifS p t u) := fun ρ =>
  PS.imp (ps_if (exPT fun hid => hp hid ρ) (ha ρ) (hb ρ)) fun D σ H ⟨hid, sr, q⟩ => by
    cases e1 : p ρ with
    | none => unfold ifS at q; rw [e1] at q; exact q.elim
    | some x =>
      refine ⟨hid, sr, x, e1, fun H1 s1 => ?_⟩
      unfold ifS at q
      rw [e1] at q
      cases x with
      | true => exact iteT ⟨hid, sr.ext s1, EndOk.mono q (vw_same s1)⟩
      | false => exact iteF ⟨hid, sr.ext s1, EndOk.mono q (vw_same s1)⟩
def retF (f : FE) : FS := fun ρ => match f ρ with
  | some d => .rt d ρ
  | none => .no
theorem retS_ {K : PySem.W.Frag} {hid : Hid} {ρ' : Rho} {σ : St} {H H' : Hp} {v : V} {d : D} (hk : k ≠ .b) (p : PostE K c hid k ρ' σ H H' v d) (h0 : ∀ b, c.hid₀ b = true → hid b = true) : Ret K c k ρ' H' v d := by
  cases k with
  | b => exact absurd rfl hk
  | s =>
    obtain ⟨_, sr, r⟩ := p
    refine ⟨sr.kp, r.mono (vw_less sr.h0), fun i bs e => ?_⟩
    obtain ⟨a, xs, z1, z2, z3, z4, z5⟩ := sr.sl i _ e
    refine ⟨a, xs, z4, z2, ?_⟩
    show Reps K (vw H' c.hid₀) xs bs
    exact z5.mono (vw_less sr.h0)
  | n =>
    obtain ⟨_, a, xs, ds, rfl, rfl, _, h1, h2, h3, sr, h5, h6⟩ := p
    have le : Same (vw H' (hadd hid a)) (vw H' (hadd c.hid₀ a)) := vw_less fun b q => by
      unfold hadd at q ⊢
      cases e : c.hid₀ b with
      | true => rw [h0 b e]; rfl
      | false => rw [e] at q; rw [Bool.or_eq_true]; right; simpa using q
    refine ⟨sr.kp, ⟨a, xs, ds, rfl, rfl, h2, h1, h5.mono le⟩, fun i bs e => ?_⟩
    obtain ⟨a', xs', z1, z2, z3, z4, z5⟩ := sr.sl i _ e
    exact ⟨a', xs', z4, z2, z5.mono le⟩
theorem ds_ret {f : FE} (he : DP X c k e f) (hk : k ≠ .b := by decide) : DS X c k (.Return (some e) pos) (retF f) := fun ρ => PS.imp (ps_ret (exPE fun hid => he hid ρ)) fun D σ H ⟨hid, sr, q⟩ => by
  unfold retF at q
  cases e1 : f ρ with
  | none => rw [e1] at q; exact q.elim
  | some z => rw [e1] at q; exact ⟨hid, sr, _, e1, fun v H' s r => q v H' (retS_ hk (sr.post s r hk) sr.h0)⟩
/-- return of a list that the frame holds alone -/
def getO : Option Sl → Option (List D)
  | some (.own ds) => some ds
  | _ => none
def retO (i : Nat) : FS := fun ρ => match getO ρ[i]? with
  | some ds => .rt (.lst ds) ρ
  | none => .no
theorem getO_some {o : Option Sl} {ds : List D} (h : getO o = some ds) : o = some (.own ds) := by
  unfold getO at h
  split at h
  · cases h; rfl
  · cases h
theorem ds_retO (i : Nat) {x : Str} {pos' : Pos} (hN : X.N[i]? = some x := by rfl) (hv : Vis X.env.scope x := by first | exact Or.inl rfl | exact Or.inr (Or.inl rfl) | exact Or.inr (Or.inr rfl)) (hd : (x == ("__debug__" : Str)) = false := by decide)
    (hcd : (x == ("__classdict__" : Str)) = false := by decide) : DS X c .n (.Return (some (.Name x pos')) pos) (retO i) := fun ρ => PS.imp (ps_ret (pv i hN hv hd hcd)) fun D σ H ⟨hid, sr, q⟩ => by
  unfold retO at q
  cases e0 : getO ρ[i]? with
  | none => rw [e0] at q; exact q.elim
  | some ds =>
    rw [e0] at q
    have e := getO_some e0
    obtain ⟨a, xs, z1, z2, z3, z4, z5⟩ := sr.sl i _ e
    have le : Same (vw H hid) (vw H (hadd c.hid₀ a)) := vw_less fun b w => by
      unfold hadd at w
      cases e : c.hid₀ b with
      | true => exact sr.h0 b e
      | false =>
        rw [e] at w
        have : b = a := by simpa using w
        rw [this]; exact z3
    refine ⟨_, z1, q _ H ⟨sr.kp, ⟨a, xs, ds, rfl, rfl, z4, z2, z5.mono le⟩, fun j bs e' => ?_⟩⟩
    obtain ⟨a', xs', w1, w2, w3, w4, w5⟩ := sr.sl j _ e'
    exact ⟨a', xs', w4, w2, w5.mono le⟩
end
end L2
set_option Elab.async false
set_option linter.all false
set_option maxRecDepth 100000
namespace L2
open PySem PySem.Spec PyProof.Rows

section
variable {K : PySem.W.Frag} {c : Ct} {hid : Hid} {ρ : Rho} {σ : St} {H H' : Hp} {i : Nat} {a : Addr} {v : V} {d : D}
theorem SR.setV (h : SR K c hid ρ σ H) (r : Rep K (vw H hid) v d) (i : Nat) : SR K c hid (ρ.set i (.v d)) (σ.set i (some v)) H := by
  refine ⟨h.tr, h.ht, h.h0, h.kp, h.t0, h.c0, h.m0, by simp [h.len], fun j s q => ?_, fun j l z n o1 o2 q1 q2 => ?_⟩
  · by_cases e : j = i
    · subst e
      have lt : j < ρ.length := by
        have := (List.getElem?_eq_some_iff.mp q).1
        simpa using this
      rw [List.getElem?_set_self lt] at q
      cases q
      exact ⟨v, List.getElem?_set_self (by rw [h.len]; exact lt), r⟩
    · rw [List.getElem?_set_ne (Ne.symm e)] at q
      have w := h.sl j s q
      have es : (σ.set i (some v))[j]? = σ[j]? := List.getElem?_set_ne (Ne.symm e)
      cases s with
      | no => trivial
      | v d => obtain ⟨x, h1, h2⟩ := w; exact ⟨x, es.trans h1, h2⟩
      | own ds => obtain ⟨a, xs, h1, h2⟩ := w; exact ⟨a, xs, es.trans h1, h2⟩
      | arg ds => obtain ⟨a, xs, h1, h2⟩ := w; exact ⟨a, xs, es.trans h1, h2⟩
      | ob b => obtain ⟨a, h1, h2⟩ := w; exact ⟨a, es.trans h1, h2⟩
  · have nj : ∀ m, Ow (ρ.set i (.v d))[m]? → m ≠ i := fun m o e => by
      subst e
      by_cases lt : m < ρ.length
      · rw [List.getElem?_set_self lt] at o; exact o
      · rw [List.getElem?_eq_none (by simpa using lt)] at o; exact o
    have e1 := nj j o1
    have e2 := nj l o2
    rw [List.getElem?_set_ne (Ne.symm e1)] at o1 q1
    rw [List.getElem?_set_ne (Ne.symm e2)] at o2 q2
    exact h.ap j l z n o1 o2 q1 q2
theorem SR.setO {xs : List V} {ds : List D} (h : SR K c hid ρ σ H) (ha : H a = some (.lst xs)) (hh : hid a = true) (h0 : c.H₀ a = none) (r : Reps K (vw H hid) xs ds) (no : ∀ i : Nat, Ow ρ[i]? → σ[i]? ≠ some (some (.ref a))) (i : Nat) :
    SR K c hid (ρ.set i (.own ds)) (σ.set i (some (.ref a))) H := by
  refine ⟨h.tr, h.ht, h.h0, h.kp, h.t0, h.c0, h.m0, by simp [h.len], fun j s q => ?_, fun j l z n o1 o2 q1 q2 => ?_⟩
  · by_cases e : j = i
    · subst e
      have lt : j < ρ.length := by
        have := (List.getElem?_eq_some_iff.mp q).1
        simpa using this
      rw [List.getElem?_set_self lt] at q
      cases q
      exact ⟨a, xs, List.getElem?_set_self (by rw [h.len]; exact lt), ha, hh, h0, r⟩
    · rw [List.getElem?_set_ne (Ne.symm e)] at q
      have w := h.sl j s q
      have es : (σ.set i (some (V.ref a)))[j]? = σ[j]? := List.getElem?_set_ne (Ne.symm e)
      cases s with
      | no => trivial
      | v d => obtain ⟨x, h1, h2⟩ := w; exact ⟨x, es.trans h1, h2⟩
      | own ds => obtain ⟨a, xs, h1, h2⟩ := w; exact ⟨a, xs, es.trans h1, h2⟩
      | arg ds => obtain ⟨a, xs, h1, h2⟩ := w; exact ⟨a, xs, es.trans h1, h2⟩
      | ob b => obtain ⟨a, h1, h2⟩ := w; exact ⟨a, es.trans h1, h2⟩
  · by_cases e1 : j = i
    · subst e1
      have e2 : l ≠ j := fun e => n e.symm
      rw [List.getElem?_set_ne (Ne.symm e2)] at o2 q2
      by_cases lt : j < σ.length
      · rw [List.getElem?_set_self lt] at q1; cases q1; exact no l o2 q2
      · rw [List.getElem?_eq_none (by simpa using lt)] at q1; cases q1
    · rw [List.getElem?_set_ne (Ne.symm e1)] at o1 q1
      by_cases e2 : l = i
      · subst e2
        by_cases lt : l < σ.length
        · rw [List.getElem?_set_self lt] at q2; cases q2; exact no j o1 q1
        · rw [List.getElem?_eq_none (by simpa using lt)] at q2; cases q2
      · rw [List.getElem?_set_ne (Ne.symm e2)] at o2 q2
        exact h.ap j l z n o1 o2 q1 q2
end

section
variable {X : Cx} {c : Ct} {k : Kd} {st : Stmt} {sts rest : List Stmt} {t u : FS} {e : Expr} {es : List Expr} {pos pos' : Pos} {x : Str} {i : Nat}
/-! name = value -/
def setE (i : Nat) (f : GE) : FS := fun ρ => match f ρ with
  | some (d, ρ') => .nx (ρ'.set i (.v d))
  | none => .no
def setF (i : Nat) (f : FE) : FS := fun ρ => match f ρ with
  | some d => .nx (ρ.set i (.v d))
  | none => .no
def asL : D → Option (List D)
  | .lst ds => some ds
  | _ => none
def ownE (i : Nat) (f : GE) : FS := fun ρ => match f ρ with
  | some (d, ρ') => (match asL d with
    | some ds => .nx (ρ'.set i (.own ds))
    | none => .no)
  | none => .no
def ownF (i : Nat) (f : FE) : FS := fun ρ => match f ρ with
  | some d => (match asL d with
    | some ds => .nx (ρ.set i (.own ds))
    | none => .no)
  | none => .no
theorem ds_setE (i : Nat) {f : GE} (hn : X.N.Nodup) (he : DE X c .s e f) (hi : X.N[i]? = some x := by rfl) (hx : Loc X.env.scope x := by first | exact Or.inl rfl | exact Or.inr rfl) (hs : swapsWith e (some (.Name x pos')) pos.line X.env = pure false := by rfl)
    (hf : X.fn x = true ∨ X.env.scope.names.lookup x = some .local := by first | exact .inl rfl | exact .inr rfl | assumption) : DS X c k (.Assign [.Name x pos'] e pos) (setE i f) := fun ρ => PS.imp (ps_set hn hi hx (exPE fun hid => he hid ρ) hs hf) fun D σ H ⟨hid, sr, q⟩ => by
  unfold setE at q
  cases e1 : f ρ with
  | none => rw [e1] at q; exact q.elim
  | some z =>
    rw [e1] at q
    exact ⟨hid, sr, z.1, z.2, e1, fun v H' ⟨kp, s', r⟩ => q _ H' hid (s'.setV r i) kp.vw⟩
theorem ds_setF (i : Nat) {f : FE} (hn : X.N.Nodup) (he : DP X c .s e f) (hi : X.N[i]? = some x := by rfl) (hx : Loc X.env.scope x := by first | exact Or.inl rfl | exact Or.inr rfl) (hs : swapsWith e (some (.Name x pos')) pos.line X.env = pure false := by rfl)
    (hf : X.fn x = true ∨ X.env.scope.names.lookup x = some .local := by first | exact .inl rfl | exact .inr rfl | assumption) : DS X c k (.Assign [.Name x pos'] e pos) (setF i f) := fun ρ => PS.imp (ps_set hn hi hx (exPE fun hid => he hid ρ) hs hf) fun D σ H ⟨hid, sr, q⟩ => by
  unfold setF at q
  cases e1 : f ρ with
  | none => rw [e1] at q; exact q.elim
  | some z =>
    rw [e1] at q
    exact ⟨hid, sr, z, e1, fun v H' s' r => q _ H' hid ((sr.ext s').setV r i) (vw_same s')⟩
theorem own_ {K : PySem.W.Frag} {hid : Hid} {ρ' : Rho} {σ : St} {H H' : Hp} {v : V} {d : D} {D : Ends} (p : PostE K c hid .n ρ' σ H H' v d) (q : EndOk K c k D (vw H hid) (match asL d with
    | some ds => .nx (ρ'.set i (.own ds))
    | none => .no)) : D.nx (σ.set i (some v)) H' := by
  obtain ⟨kp, a, xs, ds, rfl, rfl, hn, h1, h2, h3, h4, h5, h6⟩ := p
  refine q _ H' (hadd hid a) (h4.setO h1 hadd_self h2 h5 h6 i) fun b o w => ?_
  obtain ⟨w1, w2⟩ := vw_some.mp w
  refine vw_some.mpr ⟨?_, kp b o w2 w1⟩
  unfold hadd
  rw [w1]
  have : b ≠ a := ne_of_none w2 hn
  simp [this]
theorem ds_ownE (i : Nat) {f : GE} (hn : X.N.Nodup) (he : DE X c .n e f) (hi : X.N[i]? = some x := by rfl) (hx : Loc X.env.scope x := by first | exact Or.inl rfl | exact Or.inr rfl) (hs : swapsWith e (some (.Name x pos')) pos.line X.env = pure false := by rfl)
    (hf : X.fn x = true ∨ X.env.scope.names.lookup x = some .local := by first | exact .inl rfl | exact .inr rfl | assumption) : DS X c k (.Assign [.Name x pos'] e pos) (ownE i f) := fun ρ => PS.imp (ps_set hn hi hx (exPE fun hid => he hid ρ) hs hf) fun D σ H ⟨hid, sr, q⟩ => by
  unfold ownE at q
  cases e1 : f ρ with
  | none => rw [e1] at q; exact q.elim
  | some z =>
    rw [e1] at q
    exact ⟨hid, sr, z.1, z.2, e1, fun v H' p => own_ p q⟩
theorem ds_ownF (i : Nat) {f : FE} (hn : X.N.Nodup) (he : DP X c .n e f) (hi : X.N[i]? = some x := by rfl) (hx : Loc X.env.scope x := by first | exact Or.inl rfl | exact Or.inr rfl) (hs : swapsWith e (some (.Name x pos')) pos.line X.env = pure false := by rfl)
    (hf : X.fn x = true ∨ X.env.scope.names.lookup x = some .local := by first | exact .inl rfl | exact .inr rfl | assumption) : DS X c k (.Assign [.Name x pos'] e pos) (ownF i f) := fun ρ => PS.imp (ps_set hn hi hx (exPE fun hid => he hid ρ) hs hf) fun D σ H ⟨hid, sr, q⟩ => by
  unfold ownF at q
  cases e1 : f ρ with
  | none => rw [e1] at q; exact q.elim
  | some z =>
    rw [e1] at q
    exact ⟨hid, sr, z, e1, fun v H' s r => own_ (sr.post s r (by decide)) q⟩
/-- an expression's value dropped -/
def dropE (f : GE) : FS := fun ρ => match f ρ with
  | some (_, ρ') => .nx ρ'
  | none => .no
theorem ds_expr {f : GE} (he : DE X c .s e f) (hs : swapsWith e none pos.line X.env = pure false := by rfl) : DS X c k (.Expr e pos) (dropE f) := fun ρ => PS.imp (ps_expr (exPE fun hid => he hid ρ) hs) fun D σ H ⟨hid, sr, q⟩ => by
  unfold dropE at q
  cases e1 : f ρ with
  | none => rw [e1] at q; exact q.elim
  | some z =>
    rw [e1] at q
    exact ⟨hid, sr, z.1, z.2, e1, fun v H' ⟨kp, s', _⟩ => q _ H' hid s' kp.vw⟩
/-! methods of a held list -/
def MtD (K : PySem.W.Frag) (r : V → List V → Hp → VK → Prop) (n : Nat) (M : List D → List D → Option (D × List D)) : Prop := ∀ (H : Hp) (hid : Hid) (a : Addr) (xs us : List V) (bs ds bs' : List D) (d : D) (Q : VK), H a = some (.lst xs) → hid a = true → Reps K (vw H hid) xs bs → Reps K (vw H hid) us ds →
  ds.length = n → M bs ds = some (d, bs') → (∀ w xs', Reps K (vw H hid) xs' bs' → Rep K (vw H hid) w d → Q w (upd H a (.lst xs'))) → r (.ref a) us H Q
theorem meth_ {K : PySem.W.Frag} {r : V → List V → Hp → VK → Prop} {n : Nat} {M : List D → List D → Option (D × List D)} (hM : MtD K r n M) {hid : Hid} {ρ1 : Rho} {σ : St} {H H1 : Hp} {a : Addr} {us : List V} {bs ds bs' : List D} {d : D} {Q : VK} (k1 : Kept hid H H1) (s1 : SR K c hid ρ1 σ H1) (e2 : getB i ρ1 = some bs)
    (ha : σ[i]? = some (some (.ref a))) (r1 : Reps K (vw H1 hid) us ds) (hn : ds.length = n) (hm : M bs ds = some (d, bs')) (q : ∀ v H', PostE K c hid .s (setB i bs' ρ1) σ H H' v d → Q v H') : r (.ref a) us H1 Q := by
  obtain ⟨a', xs, b1, b2, b3, b4, b5⟩ := s1.held e2
  rw [ha] at b1; cases b1
  refine hM H1 hid a xs us bs ds bs' d Q b2 b3 b4 r1 hn hm fun w xs' rx rw' => q w _ ⟨k1.trans fun b o z hb => ?_, ?_, ?_⟩
  · rw [upd_ne (fun e => by subst e; rw [b3] at hb; cases hb)]; exact z
  · exact s1.put e2 ha (fun b o z hb => by rw [upd_ne hb]; exact z) upd_same (by rw [vw_upd b3]; exact rx)
  · rw [vw_upd b3]; exact rw'
variable {n : Nat} {M : List D → List D → Option (D × List D)} {fs : GA} {r : V → List V → Hp → VK → Prop} {y name : Str} {py apos : Pos} {id : String}
theorem de_meth (i : Nat) (hM : MtD X.K r n M) (hm : MtM X id r) (slot : Slot "list" name id) (hty : typeOf (.builtin id) = pure (.type "method_descriptor")) (ha : DG X c (e :: es) fs)
    (hN : X.N[i]? = some y := by rfl) (hv : Vis X.env.scope y := by first | exact Or.inl rfl | exact Or.inr (Or.inl rfl) | exact Or.inr (Or.inr rfl)) (hd : (y == ("__debug__" : Str)) = false := by decide) (hcd : (y == ("__classdict__" : Str)) = false := by decide)
    (hbase : attributeBase (.Name y py) name X.env (eval (.Name y py) X.env) = eval (.Name y py) X.env := by rfl)
    (hfew : ((backTo pos (starEach (e :: es) X.env)).all (fun x => !x.1) && (backToKw pos (keywordEach [] X.env)).all (fun x => x.1.isSome)
      && decide ((e :: es).length + ([] : List Keyword).length + (if ([] : List Keyword).isEmpty then 0 else 1) < 30)) = true := by rfl)
    (hline : (apos.endLine == pos.line) = true := by rfl) (hs : starEach (e :: es) X.env = (false, eval e X.env) :: starEach es X.env := by rfl) (hplain : (backTo pos (starEach es X.env)).any (·.1) = false := by rfl) :
    DE X c .s (.Call (.Attribute (.Name y py) name apos) (e :: es) [] pos) (callE i n M fs) := fun hid ρ =>
  PE.imp (pe_bm PySem.F.plainAttrs_list slot hty hm (pv i hN hv hd hcd) (ha hid ρ) hbase hfew hline hs hplain) fun σ H Q ⟨sr, d, ρ', hd', q⟩ => by
    obtain ⟨bs0, ds, ρ1, bs, bs', e0, e1, e2, e3, e4, rfl⟩ := callE_some hd'
    obtain ⟨a, xs0, a1, a2, a3, _, _⟩ := sr.held e0
    exact ⟨.ref a, a1, .inl ⟨rfl, _, SqL.of a2⟩, sr, ds, ρ1, e1, fun us H1 k1 s1 r1 => meth_ hM k1 s1 e2 a1 r1 e3 e4 q⟩
end
section
variable {K : PySem.W.Frag}
def appM : List D → List D → Option (D × List D) := fun bs ds => match ds with
  | [d] => if bs.length < sizeLine then some (.non, bs ++ [d]) else none
  | _ => none
theorem md_append : MtD K rAppend 1 appM := by
  intro H hid a xs us bs ds bs' d Q h1 h2 h3 h4 h5 h6 q
  unfold appM at h6
  split at h6
  · split at h6
    · cases h6
      cases h4 with
      | cons r t =>
        cases t
        exact ⟨a, xs, _, rfl, rfl, h1, by rw [h3.length]; assumption, q _ _ (h3.append (.cons r .nil)) .non⟩
    · cases h6
  · cases h6
def popM : List D → List D → Option (D × List D) := fun bs ds => match ds with
  | [.int i] => match (if bs.length ≤ sizeLine then ixN bs.length i else none) with
    | some j => (bs[j]?).map fun d => (d, bs.eraseIdx j)
    | none => none
  | _ => none
theorem md_pop : MtD K rPopAt 1 popM := by
  intro H hid a xs us bs ds bs' d Q h1 h2 h3 h4 h5 h6 q
  unfold popM at h6
  split at h6
  · split at h6
    · rename_i i _ j e
      cases e1 : bs[j]? with
      | none => rw [e1] at h6; cases h6
      | some z =>
        rw [e1] at h6; cases h6
        cases h4 with
        | cons r t =>
          cases t
          cases r
          obtain ⟨x, g1, g2⟩ := h3.get e1
          split at e
          · obtain ⟨w1, w2, w3, w4⟩ := ixN_seq e
            have hl := h3.length
            have l63 := line63
            refine ⟨a, xs, i, j, x, rfl, rfl, h1, by omega, by omega, by rw [hl]; exact w1, g1, q _ _ (h3.eraseIdx j) g2⟩
          · cases e
    · cases h6
  · cases h6
end
end L2
set_option Elab.async false
set_option linter.all false
set_option maxRecDepth 100000
namespace L2
open PySem PySem.Spec PyProof.Rows

/-! ### targets -/
abbrev FG := D → Rho → Option Rho
abbrev FGs := List D → Rho → Option Rho
/-- a target stores no list that is held alone -/
def OwK (ρ ρ' : Rho) (σ σ' : St) : Prop := ∀ i : Nat, Ow ρ'[i]? → Ow ρ[i]? ∧ σ'[i]? = σ[i]?
theorem OwK.trans {ρ ρ1 ρ2 : Rho} {σ σ1 σ2 : St} (a : OwK ρ ρ1 σ σ1) (b : OwK ρ1 ρ2 σ1 σ2) : OwK ρ ρ2 σ σ2 := fun i o => ⟨(a i (b i o).1).1, (b i o).2.trans (a i (b i o).1).2⟩
def rdGt (K : PySem.W.Frag) (c : Ct) (hid : Hid) (g : FG) (ρ : Rho) (d : D) : TG := fun v σ H Q => SR K c hid ρ σ H ∧ Rep K (vw H hid) v d ∧ ∃ ρ', g d ρ = some ρ' ∧ ∀ σ' , SR K c hid ρ' σ' H → OwK ρ ρ' σ σ' → Q σ' H
def DGt (X : Cx) (c : Ct) (tg : Expr) (g : FG) : Prop := ∀ hid ρ d, PG X tg (rdGt X.K c hid g ρ d)
def rdGs (K : PySem.W.Frag) (c : Ct) (hid : Hid) (g : FGs) (ρ : Rho) (d : List D) : TGs := fun v σ H Q => SR K c hid ρ σ H ∧ Reps K (vw H hid) v d ∧ ∃ ρ', g d ρ = some ρ' ∧ ∀ σ' , SR K c hid ρ' σ' H → OwK ρ ρ' σ σ' → Q σ' H
def DGs (X : Cx) (c : Ct) (tg : List Expr) (g : FGs) : Prop := ∀ hid ρ d, PGs X tg (rdGs X.K c hid g ρ d)
theorem PG.imp {X : Cx} {e : Expr} {t t' : TG} (h : PG X e t) (i : ∀ v σ H Q, t' v σ H Q → t v σ H Q) : PG X e t' := fun pins s σ H v u Q I r q => h pins s σ H v u Q I r (i v σ H Q q)
theorem PGs.imp {X : Cx} {e : List Expr} {t t' : TGs} (h : PGs X e t) (i : ∀ v σ H Q, t' v σ H Q → t v σ H Q) : PGs X e t' := fun pins s σ H v u Q I r q => h pins s σ H v u Q I r (i v σ H Q q)
theorem exPG {X : Cx} {e : Expr} {α : Type} {t : α → TG} (h : ∀ z, PG X e (t z)) : PG X e (fun v σ H Q => ∃ z, t z v σ H Q) := fun pins s σ H v u Q I r ⟨z, q⟩ => h z pins s σ H v u Q I r q
theorem exPGs {X : Cx} {e : List Expr} {α : Type} {t : α → TGs} (h : ∀ z, PGs X e (t z)) : PGs X e (fun v σ H Q => ∃ z, t z v σ H Q) := fun pins s σ H v u Q I r ⟨z, q⟩ => h z pins s σ H v u Q I r q
section
variable {X : Cx} {c : Ct} {k : Kd} {st : Stmt} {sts body : List Stmt} {t u : FS} {e tg iter : Expr} {es : List Expr} {pos pos' : Pos} {x : Str} {i : Nat}
def gN (i : Nat) : FG := fun d ρ => some (ρ.set i (.v d))
theorem dgt_name (i : Nat) (hn : X.N.Nodup) (hi : X.N[i]? = some x := by rfl) (hx : Loc X.env.scope x := by first | exact Or.inl rfl | exact Or.inr rfl) (hf : X.fn x = true ∨ X.env.scope.names.lookup x = some .local := by first | exact .inl rfl | exact .inr rfl | assumption) :
    DGt X c (.Name x pos) (gN i) := fun hid ρ d => PG.imp (pg_name (i := i) hn hi hx hf) fun v σ H Q ⟨sr, r, ρ', e, q⟩ => by
  cases e
  refine q _ (sr.setV r i) fun j o => ?_
  have ne : j ≠ i := fun e => by
    subst e
    by_cases lt : j < ρ.length
    · rw [List.getElem?_set_self lt] at o; exact o
    · rw [List.getElem?_eq_none (by simpa using lt)] at o; exact o
  rw [List.getElem?_set_ne (Ne.symm ne)] at o ⊢
  exact ⟨o, rfl⟩
def gsN : FGs := fun ds ρ => match ds with
  | [] => some ρ
  | _ => none
def gsC (g : FG) (gs : FGs) : FGs := fun ds ρ => match ds with
  | [] => none
  | d :: r => (g d ρ).bind fun ρ' => gs r ρ'
theorem dgs_nil : DGs X c [] gsN := fun hid ρ d => PGs.imp pgs_nil fun v σ H Q ⟨sr, r, ρ', e, q⟩ => by
  unfold gsN at e
  split at e
  · cases e; cases r; exact ⟨rfl, q σ sr fun i o => ⟨o, rfl⟩⟩
  · cases e
theorem dgs_cons {g : FG} {gs : FGs} (h1 : DGt X c e g) (h2 : DGs X c es gs) (hs : (assignEach (e :: es) X.env).map (·.2) = assign e X.env :: (assignEach es X.env).map (·.2) := by rfl) : DGs X c (e :: es) (gsC g gs) := fun hid ρ d =>
  PGs.imp (pgs_cons (exPG fun d => h1 hid ρ d) (exPGs fun z : Rho × List D => h2 hid z.1 z.2) hs) fun v σ H Q ⟨sr, r, ρ', e, q⟩ => by
    cases d with
    | nil => cases e
    | cons d1 ds =>
      cases r with
      | cons r1 r2 =>
        have e : (g d1 ρ).bind (fun ρ' => gs ds ρ') = some ρ' := e
        cases e1 : g d1 ρ with
        | none => rw [e1] at e; cases e
        | some ρ1 =>
          rw [e1] at e
          exact ⟨_, _, rfl, d1, sr, r1, ρ1, e1, fun σ1 s1 o1 => ⟨(ρ1, ds), s1, r2, ρ', e, fun σ2 s2 o2 => q σ2 s2 (o1.trans o2)⟩⟩
def gT (n : Nat) (gs : FGs) : FG := fun d ρ => match d with
  | .tup ds => if ds.length = n then gs ds ρ else none
  | _ => none
theorem dgt_tup {gs : FGs} {kk n : Nat} (hc : X.calm = true) (h : DGs X c es gs) (hn : (assignEach es X.env).length = n := by rfl) (hst : (assignEach es X.env).findIdx? (·.1) = none := by rfl) : DGt X c (.Tuple es kk pos) (gT n gs) := fun hid ρ d =>
  PG.imp (pg_tup hc (exPGs fun ds => h hid ρ ds) hn hst) fun v σ H Q ⟨sr, r, ρ', e, q⟩ => by
    unfold gT at e
    split at e
    · split at e
      · cases r with
        | tup h1 h2 => exact ⟨_, _, rfl, Same.seqT (vw_le _ _) h1, by rw [h2.length]; assumption, _, sr, h2, ρ', e, q⟩
      · cases e
    · cases e
/-- target = value -/
def outO : Option Rho → Out
  | some ρ => .nx ρ
  | none => .no
def asgE (g : FG) (f : GE) : FS := fun ρ => match f ρ with
  | some z => outO (g z.1 z.2)
  | none => .no
theorem ds_asg {g : FG} {f : GE} (he : DE X c .s e f) (hg : DGt X c tg g) (hs : swapsWithSole [tg] e pos.line X.env = pure false := by rfl) (hw : swappedStores [tg] e X.env = pure none := by rfl)
    (h1 : (assignEach [tg] X.env).map (·.2) = [assign tg X.env] := by rfl) : DS X c k (.Assign [tg] e pos) (asgE g f) := fun ρ =>
  PS.imp (ps_asg (exPE fun hid => he hid ρ) (exPG fun z : Hid × Rho × D => hg z.1 z.2.1 z.2.2) hs hw h1) fun D σ H ⟨hid, sr, q⟩ => by
    unfold asgE at q
    cases e1 : f ρ with
    | none => rw [e1] at q; exact q.elim
    | some z =>
      rw [e1] at q
      cases e2 : g z.1 z.2 with
      | none => dsimp only at q; rw [e2] at q; exact q.elim
      | some ρ2 =>
        dsimp only at q; rw [e2] at q
        exact ⟨hid, sr, z.1, z.2, e1, fun v H' ⟨kp, s', r⟩ => ⟨(hid, z.2, z.1), s', r, ρ2, e2, fun σ' s2 _ => q σ' H' hid s2 kp.vw⟩⟩
/-! xs[i] = v upon a held list: a target that changes the heap -/
def setIx (i : Nat) (fi : FE) (d : D) (ρ : Rho) : Option Rho := match getB i ρ with
  | some bs => (match fi ρ with
    | some (.int j) => (match ixN bs.length j with
      | some m => some (setB i (bs.set m d) ρ)
      | none => none)
    | _ => none)
  | none => none
theorem setIx_some {fi : FE} {d : D} {ρ ρ' : Rho} (h : setIx i fi d ρ = some ρ') : ∃ bs j m, getB i ρ = some bs ∧ fi ρ = some (.int j) ∧ ixN bs.length j = some m ∧ ρ' = setB i (bs.set m d) ρ := by
  unfold setIx at h
  split at h
  · split at h
    · split at h
      · cases h; exact ⟨_, _, _, ‹_›, ‹_›, ‹_›, rfl⟩
      · cases h
    · cases h
  · cases h
def rdHt (K : PySem.W.Frag) (c : Ct) (hid : Hid) (g : FG) (ρ : Rho) (d : D) : TG := fun v σ H Q => SR K c hid ρ σ H ∧ Rep K (vw H hid) v d ∧ ∃ ρ', g d ρ = some ρ' ∧ ∀ H' , Kept hid H H' → SR K c hid ρ' σ H' → Q σ H'
def DHt (X : Cx) (c : Ct) (tg : Expr) (g : FG) : Prop := ∀ hid ρ d, PG X tg (rdHt X.K c hid g ρ d)
theorem dht_sub (i : Nat) {y : Str} {py : Pos} {ix : Expr} {fi : FE} {k1 : Kd} (hi : DP X c k1 ix fi) (hN : X.N[i]? = some y := by rfl) (hv : Vis X.env.scope y := by first | exact Or.inl rfl | exact Or.inr (Or.inl rfl) | exact Or.inr (Or.inr rfl)) (hd : (y == ("__debug__" : Str)) = false := by decide) (hcd : (y == ("__classdict__" : Str)) = false := by decide)
    (ha : ∀ v, assign (.Subscript (.Name y py) ix pos) X.env v = (do
      let ov ← holding [v] (eval (.Name y py) X.env)
      let iv ← holding [v, ov] (eval ix X.env)
      standAt pos
      holding [v, ov, iv] (setItem ov iv v)
      release [v, ov, iv] []) := by intro _; rfl) : DHt X c (.Subscript (.Name y py) ix pos) (setIx i fi) := fun hid ρ d =>
  PG.imp (pg_sub (pv i hN hv hd hcd) (hi hid ρ) set_list ha) fun v σ H Q ⟨sr, r, ρ', e, q⟩ => by
    obtain ⟨bs, j, m, e1, e2, e3, rfl⟩ := setIx_some e
    obtain ⟨a, xs, a1, a2, a3, a4, a5⟩ := sr.held e1
    refine ⟨.ref a, a1, sr, _, e2, fun w H1 s1 r1 => ?_⟩
    have b1 := (RK.b k1 r1 fun a n => sr.fresh n).int
    cases b1
    have a4' := a4.mono (vw_same (hid := hid) s1)
    refine ⟨a, xs, j, m, rfl, rfl, s1 _ _ a2, by rw [a4.length]; exact e3, q _ (fun b o z hb => ?_) ?_⟩
    · rw [upd_ne (fun e => by subst e; rw [a3] at hb; cases hb)]; exact s1 _ _ z
    · exact (sr.ext s1).put e1 a1 (fun b o z hb => by rw [upd_ne hb]; exact z) upd_same (by rw [vw_upd a3]; exact Reps.set (r.mono (vw_same s1)) m a4')
theorem ds_put {g : FG} {f : GE} (he : DE X c .s e f) (hg : DHt X c tg g) (hs : swapsWithSole [tg] e pos.line X.env = pure false := by rfl) (hw : swappedStores [tg] e X.env = pure none := by rfl)
    (h1 : (assignEach [tg] X.env).map (·.2) = [assign tg X.env] := by rfl) : DS X c k (.Assign [tg] e pos) (asgE g f) := fun ρ =>
  PS.imp (ps_asg (exPE fun hid => he hid ρ) (exPG fun z : Hid × Rho × D => hg z.1 z.2.1 z.2.2) hs hw h1) fun D σ H ⟨hid, sr, q⟩ => by
    unfold asgE at q
    cases e1 : f ρ with
    | none => rw [e1] at q; exact q.elim
    | some z =>
      rw [e1] at q
      cases e2 : g z.1 z.2 with
      | none => dsimp only at q; rw [e2] at q; exact q.elim
      | some ρ2 =>
        dsimp only at q; rw [e2] at q
        exact ⟨hid, sr, z.1, z.2, e1, fun v H' ⟨kp, s', r⟩ => ⟨(hid, z.2, z.1), s', r, ρ2, e2, fun H2 k2 s2 => q σ H2 hid s2 (kp.trans k2).vw⟩⟩
/-- a target (t1, t2) of two such: the pair's items one after the other -/
def rdHs (K : PySem.W.Frag) (c : Ct) (hid : Hid) (g : FGs) (ρ : Rho) (d : List D) : TGs := fun v σ H Q => SR K c hid ρ σ H ∧ Reps K (vw H hid) v d ∧ ∃ ρ', g d ρ = some ρ' ∧ ∀ H' , Kept hid H H' → SR K c hid ρ' σ H' → Q σ H'
def DHs (X : Cx) (c : Ct) (tg : List Expr) (g : FGs) : Prop := ∀ hid ρ d, PGs X tg (rdHs X.K c hid g ρ d)
theorem dhs_nil : DHs X c [] gsN := fun hid ρ d => PGs.imp pgs_nil fun v σ H Q ⟨sr, r, ρ', e, q⟩ => by
  unfold gsN at e
  split at e
  · cases e; cases r; exact ⟨rfl, q H (.of (Same.refl _)) sr⟩
  · cases e
theorem dhs_cons {g : FG} {gs : FGs} (h1 : DHt X c e g) (h2 : DHs X c es gs) (hs : (assignEach (e :: es) X.env).map (·.2) = assign e X.env :: (assignEach es X.env).map (·.2) := by rfl) : DHs X c (e :: es) (gsC g gs) := fun hid ρ d =>
  PGs.imp (pgs_cons (exPG fun d => h1 hid ρ d) (exPGs fun z : Rho × List D => h2 hid z.1 z.2) hs) fun v σ H Q ⟨sr, r, ρ', e, q⟩ => by
    cases d with
    | nil => cases e
    | cons d1 ds =>
      cases r with
      | cons r1 r2 =>
        have e : (g d1 ρ).bind (fun ρ' => gs ds ρ') = some ρ' := e
        cases e1 : g d1 ρ with
        | none => rw [e1] at e; cases e
        | some ρ1 =>
          rw [e1] at e
          exact ⟨_, _, rfl, d1, sr, r1, ρ1, e1, fun H1 k1 s1 => ⟨(ρ1, ds), s1, r2.mono k1.vw, ρ', e, fun H2 k2 s2 => q H2 (k1.trans k2) s2⟩⟩
theorem dht_tup {gs : FGs} {kk n : Nat} (hc : X.calm = true) (h : DHs X c es gs) (hn : (assignEach es X.env).length = n := by rfl) (hst : (assignEach es X.env).findIdx? (·.1) = none := by rfl) : DHt X c (.Tuple es kk pos) (gT n gs) := fun hid ρ d =>
  PG.imp (pg_tup hc (exPGs fun ds => h hid ρ ds) hn hst) fun v σ H Q ⟨sr, r, ρ', e, q⟩ => by
    unfold gT at e
    split at e
    · split at e
      · cases r with
        | tup h1 h2 => exact ⟨_, _, rfl, Same.seqT (vw_le _ _) h1, by rw [h2.length]; assumption, _, sr, h2, ρ', e, q⟩
      · cases e
    · cases e

/-! ### loops -/
def ItOk (K : PySem.W.Frag) (W : Hp) (J : It) (ds : List D) : Prop :=
  (∀ (i : Nat) (d : D) (H : Hp), ds[i]? = some d → Same W H → J.go i H ∧ ∀ x H', J.yld i H x H' → Same H H' ∧ ∀ hid : Hid, (∀ b, hid b = true → ∃ o, H b = some o) → Same W (vw H hid) → Rep K (vw H' hid) x d) ∧ ∀ H, Same W H → J.stop ds.length H
def rdI (K : PySem.W.Frag) (c : Ct) (hid : Hid) (f : GA) (ρ : Rho) : TI := fun σ H R => SR K c hid ρ σ H ∧ ∃ ds ρ', f ρ = some (ds, ρ') ∧ ∀ J H', Kept hid H H' → SR K c hid ρ' σ H' → ItOk K (vw H' hid) J ds → R J H'
def DI (X : Cx) (c : Ct) (tg iter : Expr) (f : GA) : Prop := ∀ hid ρ, PI X tg iter (rdI X.K c hid f ρ)
theorem PI.imp {t t' : TI} (h : PI X tg iter t) (i : ∀ σ H Q, t' σ H Q → t σ H Q) : PI X tg iter t' := fun pins s σ H R I q => h pins s σ H R I (i σ H R q)
theorem exPI {α : Type} {t : α → TI} (h : ∀ z, PI X tg iter (t z)) : PI X tg iter (fun σ H R => ∃ z, t z σ H R) := fun pins s σ H R I ⟨z, q⟩ => h z pins s σ H R I q
theorem itok_tup {K : PySem.W.Frag} {W : Hp} {a : Addr} {xs : List V} {ds : List D} (h : SqT K W a xs) (r : Reps K W xs ds) : ItOk K W (Itt K a) ds := by
  refine ⟨fun i d H e s => ?_, fun H s => ⟨xs, Same.seqT s h, by rw [r.length]; exact Nat.le_refl _⟩⟩
  obtain ⟨x, e1, r1⟩ := r.get e
  refine ⟨⟨xs, x, Same.seqT s h, e1⟩, fun y H' ⟨e2, e3⟩ => ?_⟩
  subst e2
  have := e3 xs (Same.seqT s h)
  rw [e1] at this; cases this
  exact ⟨Same.refl _, fun hid _ sw => r1.mono sw⟩
/-- lo, lo + 1, .. -/
def ups (lo : Int) (n : Nat) : List D := (List.range n).map fun (i : Nat) => D.int (lo + i)
theorem itok_range {K : PySem.W.Frag} {W : Hp} {lo : Int} {n : Nat} : ItOk K W (Itr lo n) (ups lo n) := by
  refine ⟨fun i d H e s => ?_, fun H s => by show n ≤ (ups lo n).length; simp [ups]⟩
  unfold ups at e
  rw [List.getElem?_map] at e
  cases e1 : (List.range n)[i]? with
  | none => rw [e1] at e; cases e
  | some j =>
    rw [e1] at e
    obtain ⟨h1, h2⟩ := List.getElem?_eq_some_iff.mp e1
    simp at h1 h2
    subst h2
    cases e
    refine ⟨h1, fun y H' ⟨e2, e3⟩ => ?_⟩
    subst e2 e3
    exact ⟨Same.refl _, fun hid _ sw => .int⟩
/-- for -/
def forL (g : FG) (b : FS) : List D → FS
  | [], ρ => .nx ρ
  | d :: r, ρ => match g d ρ with
    | none => .no
    | some ρ1 => match b ρ1 with
      | .nx ρ2 => forL g b r ρ2
      | .ct ρ2 => forL g b r ρ2
      | .bk ρ2 => .nx ρ2
      | .rt d ρ2 => .rt d ρ2
      | .no => .no
def forS (f : GA) (g : FG) (b : FS) : FS := fun ρ => match f ρ with
  | some (ds, ρ') => forL g b ds ρ'
  | none => .no
theorem ds_for {f : GA} {g : FG} {tb : FS} (hp : PassesOwn (model X.prog X.w) X.A X.env X.xe) (hc : X.calm = true) (hi : DI X c tg iter f) (hg : DGt X c tg g) (hb : DSs X c k body tb)
    (hs : ∀ x, foldedSetIterable iter X.env x = pure x := by intro _; rfl) : DS X c k (.For tg iter body [] pos) (forS f g tb) := fun ρ =>
  PS.imp (ps_for hp hc (exPI fun hid => hi hid ρ) (exPG fun z : Hid × Rho × D => hg z.1 z.2.1 z.2.2) (exPSs fun ρ => hb ρ) hs) fun D σ H ⟨hid, sr, q⟩ => by
    unfold forS at q
    cases e1 : f ρ with
    | none => rw [e1] at q; exact q.elim
    | some z =>
      obtain ⟨ds, ρ0⟩ := z
      rw [e1] at q
      have q' : EndOk X.K c k D (vw H hid) (forL g tb ds ρ0) := q
      refine ⟨hid, sr, ds, ρ0, e1, fun J H1 kp s1 it => ?_⟩
      refine ⟨fun i m σ H => m = ds.length - i ∧ i ≤ ds.length ∧ ∃ hid2 ρ2, SR X.K c hid2 ρ2 σ H ∧ Same (vw H1 hid) (vw H hid2) ∧ EndOk X.K c k D (vw H hid2) (forL g tb (ds.drop i) ρ2), ⟨ds.length, by simp, Nat.zero_le _, hid, ρ0, s1, Same.refl _, EndOk.mono q' kp.vw⟩, ?_⟩
      rintro i m σ2 H2 ⟨rfl, hi', hid2, ρ2, s2, w2, q2⟩
      have wH : Same (vw H1 hid) H2 := w2.trans (vw_le _ _)
      by_cases hlt : i < ds.length
      · have hd : ds[i]? = some ds[i] := List.getElem?_eq_getElem hlt
        have e2 : ds.drop i = ds[i] :: ds.drop (i + 1) := List.drop_eq_getElem_cons hlt
        rw [e2] at q2
        unfold forL at q2
        obtain ⟨go, yl⟩ := it.1 i ds[i] H2 hd wH
        refine .inr ⟨go, fun σ' H' => ∃ hid3 ρ3, SR X.K c hid3 ρ3 σ' H' ∧ Same (vw H1 hid) (vw H' hid3) ∧ EndOk X.K c k D (vw H' hid3) (forL g tb (ds.drop (i + 1)) ρ3), fun σ' H' n3 => ⟨ds.length - (i + 1), by omega, rfl, hlt, n3⟩, fun x H3 y => ?_⟩
        obtain ⟨s3, rp⟩ := yl x H3 y
        have rx := rp hid2 s2.tr w2
        cases e3 : g ds[i] ρ2 with
        | none => rw [e3] at q2; exact q2.elim
        | some ρ3 =>
          rw [e3] at q2
          refine ⟨(hid2, ρ2, ds[i]), s2.ext s3, rx, ρ3, e3, fun σ4 s4 _ => ⟨ρ3, hid2, s4, ?_⟩⟩
          have w3 : Same (vw H2 hid2) (vw H3 hid2) := vw_same s3
          dsimp only at q2
          cases e4 : tb ρ3 with
          | nx ρ5 => rw [e4] at q2; exact fun σ' H' hid' z w => ⟨hid', ρ5, z, (w2.trans w3).trans w, EndOk.mono q2 (w3.trans w)⟩
          | ct ρ5 => rw [e4] at q2; exact fun σ' H' hid' z w => ⟨hid', ρ5, z, (w2.trans w3).trans w, EndOk.mono q2 (w3.trans w)⟩
          | bk ρ5 => rw [e4] at q2; exact fun σ' H' hid' z w => q2 σ' H' hid' z (w3.trans w)
          | rt d ρ5 => rw [e4] at q2; exact q2
          | no => rw [e4] at q2; exact q2.elim
      · have e : i = ds.length := by omega
        subst e
        rw [List.drop_eq_nil_of_le (Nat.le_refl _)] at q2
        exact .inl ⟨it.2 H2 wH, q2 σ2 H2 hid2 s2 (Same.refl _)⟩
/-- while: n turns are enough -/
def whL (p : FT) (b : FS) : Nat → FS
  | 0, _ => .no
  | n + 1, ρ => match p ρ with
    | none => .no
    | some false => .nx ρ
    | some true => match b ρ with
      | .nx ρ2 => whL p b n ρ2
      | .ct ρ2 => whL p b n ρ2
      | .bk ρ2 => .nx ρ2
      | .rt d ρ2 => .rt d ρ2
      | .no => .no
theorem ds_while (n : Nat) {p : FT} {tb : FS} (hp : PassesOwn (model X.prog X.w) X.A X.env X.xe) (hc : DT X c e p) (hb : DSs X c k body tb) : DS X c k (.While e body [] pos) (whL p tb n) := fun ρ =>
  PS.imp (ps_while hp (exPT fun z : Hid × Rho => hc z.1 z.2) (exPSs fun ρ => hb ρ)) fun D σ H ⟨hid, sr, q⟩ => by
    refine ⟨fun m σ H => ∃ hid2 ρ2, SR X.K c hid2 ρ2 σ H ∧ EndOk X.K c k D (vw H hid2) (whL p tb m ρ2), ⟨n, hid, ρ, sr, q⟩, ?_⟩
    rintro m σ2 H2 ⟨hid2, ρ2, s2, q2⟩
    cases m with
    | zero => exact q2.elim
    | succ m =>
      unfold whL at q2
      cases e1 : p ρ2 with
      | none => rw [e1] at q2; exact q2.elim
      | some b =>
        rw [e1] at q2
        refine ⟨(hid2, ρ2), s2, b, e1, fun H3 s3 => ?_⟩
        cases b with
        | false => exact iteF (q2 σ2 H3 hid2 (s2.ext s3) (vw_same s3))
        | true =>
          refine iteT ⟨fun σ' H' => ∃ hid3 ρ3, SR X.K c hid3 ρ3 σ' H' ∧ EndOk X.K c k D (vw H' hid3) (whL p tb m ρ3), fun σ' H' n3 => ⟨m, Nat.lt_succ_self _, n3⟩, ρ2, hid2, s2.ext s3, ?_⟩
          have w3 : Same (vw H2 hid2) (vw H3 hid2) := vw_same s3
          dsimp only at q2
          cases e4 : tb ρ2 with
          | nx ρ5 => rw [e4] at q2; exact fun σ' H' hid' z w => ⟨hid', ρ5, z, EndOk.mono q2 (w3.trans w)⟩
          | ct ρ5 => rw [e4] at q2; exact fun σ' H' hid' z w => ⟨hid', ρ5, z, EndOk.mono q2 (w3.trans w)⟩
          | bk ρ5 => rw [e4] at q2; exact fun σ' H' hid' z w => q2 σ' H' hid' z (w3.trans w)
          | rt d ρ5 => rw [e4] at q2; exact q2
          | no => rw [e4] at q2; exact q2.elim
end
end L2
set_option Elab.async false
set_option linter.all false
set_option maxRecDepth 100000
namespace L2
open PySem PySem.Spec PyProof.Rows

def rho0 (n : Nat) (ds : List D) : Rho := ds.map Sl.v ++ List.replicate (n - ds.length) .no
def fnP (kd : Kd) (n : Nat) (t : FS) (ds : List D) : Option D := match t (rho0 n ds) with
  | .rt d _ => some d
  | .nx _ => (match kd with
    | .n => none
    | _ => some .non)
  | _ => none
def rhoE (n : Nat) (bs ds : List D) : Rho := .arg bs :: (ds.map Sl.v ++ List.replicate (n - 1 - ds.length) .no)
def arg0 : Rho → Option (List D)
  | .arg bs :: _ => some bs
  | _ => none
def fnE (kd : Kd) (n : Nat) (t : FS) (bs ds : List D) : Option (D × List D) := match t (rhoE n bs ds) with
  | .rt d ρ => (arg0 ρ).map fun b => (d, b)
  | .nx ρ => (match kd with
    | .n => none
    | _ => (arg0 ρ).map fun b => (.non, b))
  | _ => none
theorem slots0 {K : PySem.W.Frag} {c : Ct} {hid : Hid} {H : Hp} (m : Nat) : ∀ {vs : List V} {ds : List D}, Reps K (vw H hid) vs ds → ∀ (i : Nat) (s : Sl), (ds.map Sl.v ++ List.replicate m .no)[i]? = some s → SlOk K c hid (vs.map some ++ List.replicate m none) H i s := by
  intro vs ds r i s e
  have hl := r.length
  by_cases hi : i < ds.length
  · rw [List.getElem?_append_left (by simpa using hi), List.getElem?_map] at e
    have e2 : ds[i]? = some ds[i] := List.getElem?_eq_getElem hi
    rw [e2] at e
    cases e
    obtain ⟨x, h1, h2⟩ := r.get e2
    exact ⟨x, by rw [List.getElem?_append_left (by simp; omega), List.getElem?_map, h1]; rfl, h2⟩
  · rw [List.getElem?_append_right (by simpa using hi), List.getElem?_replicate] at e
    split at e
    · cases e; trivial
    · cases e
theorem noOw {ds : List D} {m i : Nat} : ¬ Ow (ds.map Sl.v ++ List.replicate m Sl.no)[i]? := fun o => by
  by_cases hi : i < ds.length
  · rw [List.getElem?_append_left (by simpa using hi), List.getElem?_map, List.getElem?_eq_getElem hi] at o
    exact o
  · rw [List.getElem?_append_right (by simpa using hi), List.getElem?_replicate] at o
    split at o <;> exact o
theorem SR.begins {K : PySem.W.Frag} {hid : Hid} {H : Hp} {N : List Str} {vs : List V} {ds : List D} (tr : Trk hid H) (r : Reps K (vw H hid) vs ds) : SR K ⟨H, hid, fun _ => false⟩ hid (rho0 N.length ds) (start N vs) H := by
  have hl := r.length
  unfold start rho0
  rw [hl]
  exact ⟨tr.1, tr.2, fun _ h => h, fun _ _ h _ => h, fun b o h => ⟨o, h⟩, tr.1, (fun _ h => nomatch h), by simp [hl], fun i s e => slots0 _ r i s e, fun i j a _ o => absurd o noOw⟩
section
variable {P : Program} {w : World} {K : PySem.W.Frag} {mg : Str → Option Value} {base : Heap} {x qual : Str} {st : Stmt} {f : Addr} {fd : FuncData} {N ps : List Str} {k : Nat} {t : FS} {kd : Kd}
theorem fn_pure (F : Fun K x qual st f fd) (S : FnScope N ps (defScope st)) (hkd : kd ≠ .b)
    (body : ∀ (cdv : Value) (A : Around) (outer : List Env) (s : Shared) (H : Hp) (hid : Hid) (E : XK), Room k (A.deeper (envOfC qual (defScope st) s.heap.objs.size f cdv)) →
      DSs (cxOf CX0 P w K mg base N qual (defScope st) f cdv A outer s H E).nox ⟨H, hid, fun _ => false⟩ kd (defBody st) t) :
    FnOk P w K mg base CX0 (k + 1) f fd ps (spP K kd ps.length (fnP kd N.length t)) := by
  refine F.ok S (fun vs H Q E h => ?_) (fun cdv A outer s H vs Q E hr h => ?_)
  · obtain ⟨hid, ds, _, r, hl, _⟩ := h
    rw [r.length, hl]
  · obtain ⟨hid, ds, tr, r, hl, d, hP, q⟩ := h
    refine ⟨_, body cdv A outer s H hid E hr (rho0 N.length ds), hid, SR.begins tr r, ?_⟩
    unfold fnP at hP
    cases e : t (rho0 N.length ds) with
    | nx ρ =>
      rw [e] at hP
      intro σ' H' hid' sr _
      have sm : Same H H' := fun b o z => sr.kp b o z rfl
      cases kd with
      | b => exact absurd rfl hkd
      | s => cases hP; exact q _ H' sm .non
      | n => cases hP
    | rt d' ρ =>
      rw [e] at hP
      cases hP
      intro v H' R
      have sm : Same H H' := fun b o z => R.kp b o z rfl
      cases kd with
      | b => exact absurd rfl hkd
      | s => exact q v H' sm R.val
      | n => exact q v H' sm R.val
    | bk ρ => rw [e] at hP; cases hP
    | ct ρ => rw [e] at hP; cases hP
    | no => rw [e] at hP; cases hP
theorem SR.beginsE {hid : Hid} {H : Hp} {a : Addr} {xs us : List V} {bs ds : List D} (tr : Trk hid H) (ha : hid a = true) (hx : H a = some (.lst xs)) (rb : Reps K (vw H hid) xs bs) (r : Reps K (vw H hid) us ds) (hN : 0 < N.length) :
    SR K ⟨H, hid, fun b => decide (b = a)⟩ hid (rhoE N.length bs ds) (start N (.ref a :: us)) H := by
  have hl := r.length
  have es : start N (.ref a :: us) = some (V.ref a) :: (us.map some ++ List.replicate (N.length - 1 - ds.length) none) := by
    unfold start
    rw [List.map_cons, List.cons_append, List.length_cons, hl]
    congr 3
    omega
  rw [es]
  unfold rhoE
  refine ⟨tr.1, tr.2, fun _ h => h, fun _ _ h _ => h, fun b o h => ⟨o, h⟩, tr.1, fun b h => ?_, by simp [hl], fun i s e => ?_, fun i j z n o1 o2 q1 q2 => ?_⟩
  · have : b = a := by simpa using h
    rw [this]; exact ha
  · cases i with
    | zero =>
      cases e
      exact ⟨a, xs, rfl, hx, ha, by simp, rb⟩
    | succ i =>
      have z := slots0 (c := ⟨H, hid, fun b => decide (b = a)⟩) (N.length - 1 - ds.length) r i s (by simpa using e)
      cases s with
      | no => trivial
      | v d => obtain ⟨x, h1, h2⟩ := z; exact ⟨x, by simpa using h1, h2⟩
      | own ds => obtain ⟨x, xs, h1, h2⟩ := z; exact ⟨x, xs, by simpa using h1, h2⟩
      | arg ds => obtain ⟨x, xs, h1, h2⟩ := z; exact ⟨x, xs, by simpa using h1, h2⟩
      | ob b => obtain ⟨x, h1, h2⟩ := z; exact ⟨x, by simpa using h1, h2⟩
  · cases i with
    | zero =>
      cases j with
      | zero => exact n rfl
      | succ j => exact noOw (by simpa using o2)
    | succ i => exact noOw (by simpa using o1)
theorem arg0_some {ρ : Rho} {b : List D} (h : arg0 ρ = some b) : ρ[0]? = some (.arg b) := by
  unfold arg0 at h
  split at h
  · cases h; rfl
  · cases h
theorem fn_eff {n : Nat} (F : Fun K x qual st f fd) (S : FnScope N ps (defScope st)) (hkd : kd ≠ .b) (hn : ps.length = n + 1)
    (body : ∀ (cdv : Value) (A : Around) (outer : List Env) (s : Shared) (H : Hp) (hid : Hid) (a : Addr) (E : XK), Room k (A.deeper (envOfC qual (defScope st) s.heap.objs.size f cdv)) →
      DSs (cxOf CX0 P w K mg base N qual (defScope st) f cdv A outer s H E).nox ⟨H, hid, fun b => decide (b = a)⟩ kd (defBody st) t) :
    FnOk P w K mg base CX0 (k + 1) f fd ps (spE K kd n (fnE kd N.length t)) := by
  refine F.ok S (fun vs H Q E h => ?_) (fun cdv A outer s H vs Q E hr h => ?_)
  · obtain ⟨hid, a, xs, bs, us, ds, rfl, _, _, _, _, r, hl, _⟩ := h
    rw [List.length_cons, r.length, hl, hn]
  · obtain ⟨hid, a, xs, bs, us, ds, rfl, tr, ha, hx, rb, r, hl, d, bs', hM, q⟩ := h
    have hN : 0 < N.length := by have := congrArg List.length S.pre; rw [List.length_take] at this; omega
    refine ⟨_, body cdv A outer s H hid a E hr (rhoE N.length bs ds), hid, SR.beginsE tr ha hx rb r hN, ?_⟩
    have fin : ∀ (v : V) (H' : Hp) (ρ : Rho) (d : D), Ret K ⟨H, hid, fun b => decide (b = a)⟩ kd ρ H' v d → arg0 ρ = some bs' → (∀ v H' xs', (∀ b o, H b = some o → b ≠ a → H' b = some o) → H' a = some (.lst xs') → EndE K kd hid H H' v d xs' bs' → Q v H') → Q v H' := by
      intro v H' ρ d R h0 q
      obtain ⟨a', xs', m1, m2, m3⟩ := R.arg 0 _ (arg0_some h0)
      have : a' = a := by simpa using m1
      subst this
      refine q v H' xs' (fun b o z n => R.kp b o z (by simpa using n)) m2 ?_
      cases kd with
      | b => exact absurd rfl hkd
      | s => exact ⟨R.val, m3⟩
      | n =>
        obtain ⟨p, ys, es, rfl, rfl, h1, h2, h3⟩ := R.val
        exact ⟨p, ys, es, rfl, rfl, h1, h2, h3, m3⟩
    unfold fnE at hM
    cases e : t (rhoE N.length bs ds) with
    | nx ρ =>
      rw [e] at hM
      intro σ' H' hid' sr _
      cases kd with
      | b => exact absurd rfl hkd
      | s =>
        dsimp only at hM
        cases e0 : arg0 ρ with
        | none => rw [e0] at hM; cases hM
        | some b =>
          rw [e0] at hM; cases hM
          exact fin .non H' ρ .non (retS_ (k := .s) (by decide) (sr.post (k := .s) (Same.refl _) .non (by decide)) sr.h0) e0 q
      | n => cases hM
    | rt d' ρ =>
      rw [e] at hM
      dsimp only at hM
      cases e0 : arg0 ρ with
      | none => rw [e0] at hM; cases hM
      | some b =>
        rw [e0] at hM; cases hM
        intro v H' R
        exact fin v H' ρ _ R e0 q
    | bk ρ => rw [e] at hM; cases hM
    | ct ρ => rw [e] at hM; cases hM
    | no => rw [e] at hM; cases hM
end
/-! ### the law -/
def spLaw (K : PySem.W.Frag) : Sp := fun vs H Q _ => ∃ (a : Addr) (ns : List Int), vs = [.ref a] ∧ SqR K H a (ns.map V.int) ∧ ns.length ≤ 63 ∧ ∀ H', Q (.bl true) H'
theorem reps_ints {K : PySem.W.Frag} {F : Hp} : ∀ ns : List Int, Reps K F (ns.map V.int) (ns.map D.int)
  | [] => .nil
  | _ :: r => .cons .int (reps_ints r)
theorem fn_law {P : Program} {w : World} {K : PySem.W.Frag} {mg : Str → Option Value} {base : Heap} {f : Addr} {fd : FuncData} {x : Str} {k : Nat} {M : List D → Option D} (F : FnOk P w K mg base CX0 k f fd [x] (spP K .s 1 M)) (hM : ∀ ns : List Int, ns.length ≤ 63 → M [.scr (ns.map D.int)] = some (.bl true)) :
    FnOk P w K mg base CX0 k f fd [x] (spLaw K) := F.imp fun vs H Q E ⟨a, ns, e, hS, hl, q⟩ => by
  subst e
  have hv : vw H (fun _ => false) = H := by funext b; unfold vw; simp
  refine ⟨fun _ => false, [.scr (ns.map D.int)], ⟨(fun b h => nomatch h), (fun b xs h => nomatch h)⟩, ?_, rfl, .bl true, hM ns hl, fun v H' _ r => ?_⟩
  · rw [hv]; exact .cons (.scr hS (reps_ints ns)) .nil
  · cases r; exact q H'
theorem walkD {l : PySem.W.OpenLaw} {k : Nat} {x : Str} {q : Program} {loose : List Str} {XP : (Str → Option Value) → Heap → Prop} {YP : World → Heap → Prop} {d : DefRec} {K : Params → PySem.W.Frag} (hn : l.most = some 63) (hdf : d.params.defaults = []) (hr : Room k callerA)
    (hY : ∀ (w : World) (h : Heap), YP w h → (K w.params).In h)
    (F : ∀ (w : World) (mg : Str → Option Value) (fa : Addr) (h : Heap), (K w.params).In h → h.Ns mainGlobals mg → mg d.name = some (.ref fa) →
      ∃ fd : FuncData, (∀ (s : Shared) (u : Value), BindsTo s fd ⟨[u], []⟩ [(x, u)]) ∧ ∀ base : Heap, (K w.params).In base → base.Ns mainGlobals mg → FnOk l.prog w (K w.params) mg base CX0 k fa fd [x] (spLaw (K w.params))) :
    PySem.W.WalkO q loose XP YP l.row.toRowW d [] (fun f vs => PySem.call f vs) :=
  L2.walk_of (n := 63) (k := k) (x := x) (CX := fun _ => CX0) (sp := fun w => spLaw (K w.params)) hn (by decide) hdf hr hY F (fun _ H a ns hl hO hS => ⟨a, ns, rfl, hS.elim (fun r => r.elim (fun e => by rcases hO a with z | ⟨o, xs, z⟩ <;> rw [z] at e <;> cases e) .inl) .inr, hl, fun _ => rfl⟩) fun _ _ _ _ _ z => z
end L2
set_option Elab.async false
set_option linter.all false
set_option maxRecDepth 100000
namespace L2
open PySem PySem.Spec PyProof.Rows

/-! ### the cells that a comprehension sees -/
def clo (cells : List (Str × Addr)) : List (Str × NameKind) → List (Str × Addr) → List (Str × Addr)
  | [], acc => acc
  | (n, k) :: r, acc => clo cells r (if k == .free then (match cells.lookup n with
    | some c => (n, c) :: acc
    | none => acc) else acc)
theorem clo_mem {cells : List (Str × Addr)} : ∀ {names : List (Str × NameKind)} {acc : List (Str × Addr)}, (∀ p ∈ acc, cells.lookup p.1 = some p.2) → ∀ p ∈ clo cells names acc, cells.lookup p.1 = some p.2
  | [], acc, h, p, hp => h p hp
  | (n, k) :: r, acc, h, p, hp => by
    refine clo_mem (names := r) ?_ p hp
    intro q hq
    split at hq
    · split at hq
      · rename_i c e
        rcases List.mem_cons.mp hq with rfl | hq
        · exact e
        · exact h q hq
      · exact h q hq
    · exact h q hq
theorem clo_free {cells : List (Str × Addr)} : ∀ {names : List (Str × NameKind)} {acc : List (Str × Addr)} (p : Str × Addr), p ∈ clo cells names acc → p ∈ acc ∨ (p.1, NameKind.free) ∈ names
  | [], acc, p, hp => .inl hp
  | (n, k) :: r, acc, p, hp => by
    rcases clo_free (names := r) p hp with hq | hq
    · split at hq
      · rename_i ek
        split at hq
        · rcases List.mem_cons.mp hq with e | hq
          · subst e
            have : k = .free := by simpa using ek
            subst this
            exact .inr List.mem_cons_self
          · exact .inl hq
        · exact .inl hq
      · exact .inl hq
    · exact .inr (List.mem_cons_of_mem _ hq)
theorem clo_keep {cells : List (Str × Addr)} : ∀ {names : List (Str × NameKind)} {acc : List (Str × Addr)} {p : Str × Addr}, p ∈ acc → p ∈ clo cells names acc
  | [], acc, p, h => h
  | (n, k) :: r, acc, p, h => by
    refine clo_keep (names := r) ?_
    split
    · split
      · exact List.mem_cons_of_mem _ h
      · exact h
    · exact h
theorem clo_has {cells : List (Str × Addr)} {x : Str} {c : Addr} (hc : cells.lookup x = some c) : ∀ {names : List (Str × NameKind)} {acc : List (Str × Addr)}, (x, NameKind.free) ∈ names → (x, c) ∈ clo cells names acc
  | [], _, h => nomatch h
  | (n, k) :: r, acc, h => by
    rcases List.mem_cons.mp h with e | h
    · cases e
      refine clo_keep (names := r) ?_
      rw [if_pos (by rfl), hc]
      exact List.mem_cons_self
    · exact clo_has hc (names := r) h
theorem lookup_of_mem {l : List (Str × Addr)} {x : Str} {c : Addr} (h : (x, c) ∈ l) (u : ∀ p ∈ l, p.1 = x → p.2 = c) : l.lookup x = some c := by
  induction l with
  | nil => exact nomatch h
  | cons p r ih =>
    obtain ⟨n, a⟩ := p
    rw [List.lookup_cons]
    cases e : x == n with
    | true =>
      have e' : x = n := eq_of_beq e
      have := u (n, a) List.mem_cons_self e'.symm
      simpa using this
    | false =>
      have ne : x ≠ n := fun e' => by rw [e'] at e; simp at e
      rcases List.mem_cons.mp h with e' | h
      · cases e'; exact absurd rfl ne
      · exact ih h fun p hp => u p (List.mem_cons_of_mem _ hp)
theorem clo_lookup {cells : List (Str × Addr)} {names : List (Str × NameKind)} {x : Str} {c : Addr} (h : (clo cells names []).lookup x = some c) : cells.lookup x = some c :=
  clo_mem (names := names) (acc := []) (fun _ z => nomatch z) (x, c) (PySem.mem_of_lookup h)
theorem clo_lookup' {cells : List (Str × Addr)} {names : List (Str × NameKind)} {x : Str} {c : Addr} (hc : cells.lookup x = some c) (hf : (x, NameKind.free) ∈ names) : (clo cells names []).lookup x = some c :=
  lookup_of_mem (clo_has hc hf) fun p hp e => by
    have := clo_mem (names := names) (acc := []) (fun _ z => nomatch z) p hp
    rw [e, hc] at this
    exact (Option.some.inj this).symm
theorem closureFor_clo {scope : Scope} {env : Env} (h : ∀ x, (x, NameKind.free) ∈ scope.names → ∃ c, env.cells.lookup x = some c) : closureFor scope env = pure (clo env.cells scope.names []) := by
  unfold closureFor
  have key : ∀ (names : List (Str × NameKind)) (acc : List (Str × Addr)), (∀ x, (x, NameKind.free) ∈ names → ∃ c, env.cells.lookup x = some c) →
      (forIn names acc (fun (p : Str × NameKind) (r : List (Str × Addr)) => match p with
        | (name, kind) => if (kind == NameKind.free) = true then do
            let __do_lift ← cellOf env name
            pure (ForInStep.yield ((name, __do_lift) :: r)) else pure (ForInStep.yield r)) : Sem (List (Str × Addr))) = pure (clo env.cells names acc) := by
    intro names
    induction names with
    | nil => intro acc _; rfl
    | cons p r ih =>
      intro acc h
      obtain ⟨n, k⟩ := p
      rw [List.forIn_cons]
      have hr : ∀ x, (x, NameKind.free) ∈ r → ∃ c, env.cells.lookup x = some c := fun x hx => h x (List.mem_cons_of_mem _ hx)
      cases e : k == NameKind.free with
      | false =>
        simp only [e, Bool.false_eq_true, if_false, pure_bind]
        rw [ih acc hr]
        conv => rhs; unfold clo
        simp [e]
      | true =>
        have ek : k = .free := by simpa using e
        subst ek
        obtain ⟨c, hc⟩ := h n List.mem_cons_self
        have ec : cellOf env n = pure c := by unfold cellOf; rw [hc]
        simp only [beq_self_eq_true, if_true, ec, pure_bind]
        rw [ih _ hr]
        conv => rhs; unfold clo
        simp [hc]
  have := key scope.names [] h
  simp only [this, pure_bind]
theorem relabel_of {sc : Scope} {env : Env} {x : Str} {k : NameKind} (h : (relabel sc env).names.lookup x = some k) : ∃ k0, sc.names.lookup x = some k0 ∧ (k = k0 ∨ (k0 = .free ∧ k = .cell)) := by
  unfold relabel at h
  dsimp only at h
  generalize sc.names = l at h ⊢
  induction l with
  | nil => simp at h
  | cons p r ih =>
    obtain ⟨n, k1⟩ := p
    rw [List.map_cons] at h
    dsimp only at h
    rw [List.lookup_cons]
    cases hx : x == n with
    | true =>
      refine ⟨k1, rfl, ?_⟩
      split at h
      · rename_i hc
        rw [List.lookup_cons] at h
        simp only [hx] at h
        cases h
        have : k1 = .free := by
          simp only [Bool.and_eq_true] at hc
          exact eq_of_beq hc.1.1
        exact .inr ⟨this, rfl⟩
      · rw [List.lookup_cons] at h
        simp only [hx] at h
        cases h
        exact .inl rfl
    | false =>
      split at h
      · rw [List.lookup_cons] at h; simp only [hx] at h; exact ih h
      · rw [List.lookup_cons] at h; simp only [hx] at h; exact ih h

/-! ### the block's own cells -/
def ownC (cells : List (Str × Addr)) (scope : Scope) (C : Addr) : List (Str × Addr) := cellsFrom (C + 1) scope.names (clo cells scope.names [])
theorem cellsFrom_app : ∀ (names : List (Str × NameKind)) (n : Nat) (acc : List (Str × Addr)), cellsFrom n names acc = cellsFrom n names [] ++ acc
  | [], _, _ => rfl
  | (name, kind) :: r, n, acc => by
    unfold cellsFrom
    split
    · rw [cellsFrom_app r (n + 1) ((name, n) :: acc), cellsFrom_app r (n + 1) [(name, n)], List.append_assoc]; rfl
    · exact cellsFrom_app r n acc
theorem own_mem : ∀ {names : List (Str × NameKind)} {n : Nat} {p : Str × Addr}, p ∈ cellsFrom n names [] → (p.1, NameKind.cell) ∈ names
  | [], _, _, h => nomatch h
  | (name, kind) :: r, n, p, h => by
    unfold cellsFrom at h
    split at h
    · rename_i hk
      have hk' : kind = .cell := by simpa using hk
      subst hk'
      rw [cellsFrom_app] at h
      rcases List.mem_append.mp h with h | h
      · exact List.mem_cons_of_mem _ (own_mem h)
      · rw [List.mem_singleton.mp h]; exact List.mem_cons_self
    · exact List.mem_cons_of_mem _ (own_mem h)
theorem own_there : ∀ {names : List (Str × NameKind)} {n : Nat} {x : Str}, (x, NameKind.cell) ∈ names → ∃ c, (x, c) ∈ cellsFrom n names []
  | [], _, _, h => nomatch h
  | (name, kind) :: r, n, x, h => by
    unfold cellsFrom
    rcases List.mem_cons.mp h with e | h
    · cases e
      rw [if_pos (by rfl), cellsFrom_app]
      exact ⟨n, List.mem_append_right _ List.mem_cons_self⟩
    · split
      · obtain ⟨c, hc⟩ := own_there (n := n + 1) h
        rw [cellsFrom_app]
        exact ⟨c, List.mem_append_left _ hc⟩
      · exact own_there h
theorem lookup_mem {l : List (Str × Addr)} {x : Str} {c : Addr} (h : (x, c) ∈ l) : ∃ c', l.lookup x = some c' := by
  induction l with
  | nil => exact nomatch h
  | cons p r ih =>
    obtain ⟨n, a⟩ := p
    rw [List.lookup_cons]
    cases e : x == n with
    | true => exact ⟨a, rfl⟩
    | false =>
      rcases List.mem_cons.mp h with e' | h
      · cases e'; simp at e
      · exact ih h
theorem ownC_cases {cells : List (Str × Addr)} {sc : Scope} {C : Addr} {x : Str} {c : Addr} (h : (ownC cells sc C).lookup x = some c) : (x, c) ∈ cellsFrom (C + 1) sc.names [] ∨ (clo cells sc.names []).lookup x = some c := by
  unfold ownC at h
  rw [cellsFrom_app, List.lookup_append] at h
  cases e : (cellsFrom (C + 1) sc.names []).lookup x with
  | none => rw [e] at h; exact .inr h
  | some c' => rw [e] at h; cases h; exact .inl (PySem.mem_of_lookup e)
theorem ownC_own {cells : List (Str × Addr)} {sc : Scope} {C : Addr} {x : Str} (h : (x, NameKind.cell) ∈ sc.names) : ∃ c, (ownC cells sc C).lookup x = some c := by
  obtain ⟨c, hc⟩ := own_there (n := C + 1) h
  obtain ⟨c', e⟩ := lookup_mem hc
  exact ⟨c', by unfold ownC; rw [cellsFrom_app, List.lookup_append, e]; rfl⟩
theorem ownC_clo {cells : List (Str × Addr)} {sc : Scope} {C : Addr} {x : Str} (h : (x, NameKind.cell) ∉ sc.names) : (ownC cells sc C).lookup x = (clo cells sc.names []).lookup x := by
  unfold ownC
  rw [cellsFrom_app, List.lookup_append]
  cases e : (cellsFrom (C + 1) sc.names []).lookup x with
  | none => rfl
  | some c' => exact absurd (own_mem (PySem.mem_of_lookup e)) h
theorem nfe_own {M : Model} {A : Around} {E : Value → Shared → Prop} {s : Shared} {scope : Scope} {globals : Addr} {closure : List (Str × Addr)} {qual : Str} {outer : Env} {Q : Env → Shared → Prop}
    (hQ : ∀ h', h'.Ns s.heap.objs.size (fun _ => none) → (∀ b o, s.heap.get? b = some o → h'.get? b = some o) → CellsOk h' (s.heap.objs.size + 1) (cellsFrom (s.heap.objs.size + 1) scope.names []) →
      Q (newEnv scope s.heap.objs.size globals (cellsFrom (s.heap.objs.size + 1) scope.names closure) qual none .none (some outer) builtinsNs) { s with heap := h', toks := s.toks }) :
    wpAny M A (newFunctionEnv scope globals closure [] qual none .none (some outer)) Q E s := by
  simp only [newFunctionEnv, Option.isSome_some, if_true]
  refine wpAny_bind (wpAny_alloc ?_)
  refine wpAny_bind (wpAny_layCells _ (fun name kind cells => by cases hkc : kind == NameKind.cell <;> simp [hkc]) _ _ _ _ ?_)
  have ok := cellsFrom_ok scope.names (s.heap.push { cls := .type "dict", data := .dict #[] }) (s.heap.objs.size + 1) [] ⟨fun _ _ hm => (nomatch hm), List.Pairwise.nil⟩ (by rw [Heap.size_push]; exact Nat.le_refl _)
  rw [Heap.size_push] at ok
  rw [show ({ s with heap := s.heap.push { cls := .type "dict", data := .dict #[] } } : Shared).heap.objs.size = s.heap.objs.size + 1 from Heap.size_push ..]
  rw [List.forIn_nil]
  refine wpAny_bind (wpAny_pure (wpAny_pure ?_))
  exact hQ _ ((Heap.Ns.new s.heap (.type "dict")).keeps (pushCells_keeps _ _)) (fun b o e => pushCells_keeps _ _ b o (Heap.get?_push_of_some _ e)) ok

/-! ### the context of a comprehension's block -/
def compCx (X : Cx) (N' : List Str) (scope : Scope) (C : Addr) (s₀ : Shared) (H₀ : Hp) (ex : List Addr) : Cx where
  prog := X.prog
  w := X.w
  K := X.K
  mg := X.mg
  base := X.base
  A := X.A
  N := N'
  s₀ := s₀
  H₀ := H₀
  env := compEnvC scope (ownC X.env.cells scope C) C X.env
  outer := X.stack
  stack := X.stack
  ex := ex
  fn := fun x => scope.names.lookup x == some .local || scope.names.lookup x == some .cell
  calm := X.calm
  pn := []
  xe := fun _ _ => False
/-- the names: the outer ones in their slots (one that the block names anew by another word), then the block's own -/
def okN (N N' : List Str) (sc : Scope) : Bool :=
  decide (N.length ≤ N'.length) && ((N'.take N.length).zip N).all (fun p => (p.1 == p.2 && !(sc.names.lookup p.1 == some .local) && !(sc.names.lookup p.1 == some .cell)) || (sc.names.lookup p.1).isNone) &&
    (N'.drop N.length).all fun x => sc.names.lookup x == some .local || sc.names.lookup x == some .cell
/-- what the block asks of the scopes -/
def okS (sc : Scope) (outer : Scope) : Bool :=
  sc.names.all fun y => (y.2 != .cell || sc.names.lookup y.1 == some .cell) && (y.2 != .local || sc.names.lookup y.1 == some .local) && (y.2 != .free || (sc.names.lookup y.1 == some .free && (outer.names.lookup y.1 == some .cell || outer.names.lookup y.1 == some .free)))
theorem okS_cell {sc o : Scope} (h : okS sc o = true) : ∀ y ∈ sc.names, y.2 = .cell → sc.names.lookup y.1 = some .cell := fun y hy e => by
  have := List.all_eq_true.mp h y hy
  simpa [e] using this
theorem okS_local {sc o : Scope} (h : okS sc o = true) : ∀ y ∈ sc.names, y.2 = .local → sc.names.lookup y.1 = some .local := fun y hy e => by
  have := List.all_eq_true.mp h y hy
  simpa [e] using this
theorem okS_free {sc o : Scope} (h : okS sc o = true) : ∀ x, (x, NameKind.free) ∈ sc.names → o.names.lookup x = some .cell ∨ o.names.lookup x = some .free := fun x hx => by
  have := List.all_eq_true.mp h _ hx
  simpa using (by simpa using this : _ ∧ _).2
theorem okS_free' {sc o : Scope} (h : okS sc o = true) : ∀ x, (x, NameKind.free) ∈ sc.names → sc.names.lookup x = some .free := fun x hx => by
  have := List.all_eq_true.mp h _ hx
  simpa using (by simpa using this : _ ∧ _).1
theorem okN_outer {N N' : List Str} {sc : Scope} (h : okN N N' sc = true) {i : Nat} {x : Str} (hi : i < N.length) (e : N'[i]? = some x) (hv : ∃ k, sc.names.lookup x = some k ∧ (k = .local ∨ k = .cell ∨ k = .free)) : N[i]? = some x ∧ sc.names.lookup x = some .free := by
  unfold okN at h
  simp only [Bool.and_eq_true, decide_eq_true_eq] at h
  obtain ⟨⟨h1, h2⟩, _⟩ := h
  have hN : N[i]? = some N[i] := List.getElem?_eq_getElem hi
  have e1 : (N'.take N.length)[i]? = some x := by rw [List.getElem?_take_of_lt hi]; exact e
  have hm : (x, N[i]) ∈ (N'.take N.length).zip N := by
    refine List.mem_of_getElem? (i := i) ?_
    rw [List.getElem?_zip_eq_some]
    exact ⟨e1, hN⟩
  have := List.all_eq_true.mp h2 _ hm
  obtain ⟨k, hk, hk2⟩ := hv
  dsimp only at this
  rw [hk] at this
  simp only [Option.isNone_some, Bool.or_false, Bool.and_eq_true, Bool.not_eq_true'] at this
  obtain ⟨⟨t1, t2⟩, t3⟩ := this
  have ex : x = N[i] := eq_of_beq t1
  rcases hk2 with rfl | rfl | rfl
  · simp at t2
  · simp at t3
  · exact ⟨by rw [hN, ← ex], hk⟩
theorem okN_len {N N' : List Str} {sc : Scope} (h : okN N N' sc = true) : N.length ≤ N'.length := by
  unfold okN at h
  simp only [Bool.and_eq_true, decide_eq_true_eq] at h
  exact h.1.1

section
variable {X : Cx} {pins : List (Addr × Obj)} {σ : St} {H : Hp} {s : Shared} {scope : Scope} {N' : List Str} {fp : List Addr}
theorem frs_stack (I : Inv X pins σ H s) {b : Addr} (f : FpOk X pins H b) : b ∉ frs X.stack := fun z => by
  rcases List.mem_cons.mp (I.stkSub b z) with e | z
  · exact f.2.1 e
  · exact f.2.2.1 z
/-- the block begins -/
theorem inv_comp {h' : Heap} {tk : Nat} (I : Inv X pins σ H s) (hF : ∀ b ∈ fp, FpOk X pins H b) (hO : ∀ b ∈ fp, ∃ o, s.heap.get? b = some o) (hk : scope.kind = .function) (hs : okS scope X.env.scope = true) (hn : okN X.N N' scope = true)
    (ns : h'.Ns s.heap.objs.size fun _ => none) (kp : ∀ b o, s.heap.get? b = some o → h'.get? b = some o) (oc : CellsOk h' (s.heap.objs.size + 1) (cellsFrom (s.heap.objs.size + 1) scope.names [])) :
    Inv (compCx X N' scope s.heap.objs.size s H fp) [] (σ ++ List.replicate (N'.length - X.N.length) none) H { s with heap := h', toks := tk } := by
  have hlen := okN_len hn
  have cl : ∀ x c, (clo X.env.cells scope.names []).lookup x = some c → X.env.cells.lookup x = some c := fun x c e => clo_lookup e
  have clt : ∀ x c, (clo X.env.cells scope.names []).lookup x = some c → c < s.heap.objs.size := fun x c e => let ⟨_, z⟩ := I.cell x c (cl x c e); z.lt
  have newC : H s.heap.objs.size = none := I.hok.fresh (Nat.le_refl _)
  refine ⟨⟨I.ok.mod, hk, I.ok.glob, I.ok.blt, Nat.le_refl _, fun x y c h1 h2 => ?_, fun x hx => ?_, fun x c h1 h2 => ?_, I.ok.hd, I.ok.frames, .inl rfl, fun b hb => ⟨?_, fun x c e => ?_⟩, I.bs, Nat.le_trans I.ok.bsz I.sz, fun b o e hb => ?_, fun b hb => frs_stack I (hF b hb), I.stack, I.stkFree⟩,
    rfl, I.bare, Un.kept kp, ⟨_, ns, fun i x v e1 e2 e3 => ?_⟩, fun x c e => ?_, newC, fun x c e => ?_, fun p hp => absurd (show p ∈ ([] : List (Addr × Obj)) from hp) (by simp), I.hok.kept kp, ?_⟩
  · -- two names, one cell
    rcases ownC_cases h1 with h1 | h1 <;> rcases ownC_cases h2 with h2 | h2
    · exact name_of_addr oc.apart h1 h2
    · exact absurd (clt y c h2) (Nat.not_lt.mpr (Nat.le_of_succ_le (oc.empty _ _ h1).2))
    · exact absurd (clt x c h1) (Nat.not_lt.mpr (Nat.le_of_succ_le (oc.empty _ _ h2).2))
    · exact I.ok.inj x y c (cl x c h1) (cl y c h2)
  · -- a name of the outer frame has its cell
    have hx' : (relabel scope X.env).names.lookup x = some .cell ∨ (relabel scope X.env).names.lookup x = some .free := hx
    have : (x, NameKind.cell) ∈ scope.names ∨ (x, NameKind.free) ∈ scope.names := by
      rcases hx' with hx' | hx'
      · obtain ⟨k0, e0, e1 | ⟨e1, _⟩⟩ := relabel_of hx'
        · subst e1; exact .inl (PySem.mem_of_lookup e0)
        · subst e1; exact .inr (PySem.mem_of_lookup e0)
      · obtain ⟨k0, e0, e1 | ⟨_, e1⟩⟩ := relabel_of hx'
        · subst e1; exact .inr (PySem.mem_of_lookup e0)
        · cases e1
    rcases this with this | this
    · exact ownC_own this
    · have hc := okS_free hs x this
      obtain ⟨c, e⟩ := I.ok.has x hc
      exact ⟨c, (ownC_clo fun z => by have z1 := okS_cell hs _ z rfl; have z2 := okS_free' hs x this; rw [z2] at z1; cases z1).trans (clo_lookup' e this)⟩
  · -- own names: their cells are new
    have h1' : scope.names.lookup x = some .local ∨ scope.names.lookup x = some .cell := by
      have h1 : (scope.names.lookup x == some .local || scope.names.lookup x == some .cell) = true := h1
      simpa using h1
    rcases ownC_cases h2 with h2 | h2
    · exact Nat.le_of_succ_le (oc.empty _ _ h2).2
    · exfalso
      rcases clo_free _ (PySem.mem_of_lookup h2) with z | z
      · exact nomatch z
      · rw [okS_free' hs x z] at h1'; rcases h1' with h1' | h1' <;> cases h1'
  · obtain ⟨o, e⟩ := hO b hb
    exact Nat.ne_of_lt (Heap.lt_size e)
  · rcases ownC_cases e with e | e
    · obtain ⟨o, e'⟩ := hO b hb
      exact fun z => absurd (Heap.lt_size e') (Nat.not_lt.mpr (z ▸ Nat.le_of_succ_le (oc.empty _ _ e).2))
    · exact (hF b hb).2.2.2.2.1 x c (cl x c e)
  · obtain ⟨_, _, _, h4, _⟩ := hF b hb
    rcases h4 with h4 | h4
    · exact I.ok.noex b o e h4
    · exact absurd (Nat.lt_of_lt_of_le (Heap.lt_size e) (Nat.le_trans I.ok.bsz h4)) (Nat.lt_irrefl _)
  · have hi : i < X.N.length := by
      by_cases hi : i < σ.length
      · rw [← I.len]; exact hi
      · rw [List.getElem?_append_right (by omega), List.getElem?_replicate] at e2
        split at e2 <;> cases e2
    rw [List.getElem?_append_left (by rw [I.len]; exact hi)] at e2
    have e3' : (relabel scope X.env).names.lookup x = some .local ∨ (relabel scope X.env).names.lookup x = some .cell ∨ (relabel scope X.env).names.lookup x = some .free := e3
    have hv : ∃ k, scope.names.lookup x = some k ∧ (k = .local ∨ k = .cell ∨ k = .free) := by
      rcases e3' with z | z | z
      all_goals
        obtain ⟨k0, q0, q1 | ⟨q1, q2⟩⟩ := relabel_of z
        · subst q1; exact ⟨_, q0, by simp⟩
        · subst q1; exact ⟨_, q0, by simp⟩
    obtain ⟨hN, hf⟩ := okN_outer hn hi e1 hv
    have hfm := PySem.mem_of_lookup hf
    have hc := okS_free hs x hfm
    have nc : (x, NameKind.cell) ∉ scope.names := fun z => by have z1 := okS_cell hs _ z rfl; rw [hf] at z1; cases z1
    obtain ⟨m, hm, hl⟩ := I.loc
    obtain ⟨u, r, l⟩ := hl i x v hN e2 (.inr hc)
    refine ⟨u, r, .inr ⟨?_, ?_⟩⟩
    · show (relabel scope X.env).names.lookup x = some .cell ∨ (relabel scope X.env).names.lookup x = some .free
      rcases e3' with z | z | z
      · obtain ⟨k0, q0, q1 | ⟨q1, q2⟩⟩ := relabel_of z
        · subst q1; rw [hf] at q0; cases q0
        · cases q2
      · exact .inl z
      · exact .inr z
    · rcases l with ⟨l, _⟩ | ⟨_, c, ec, z⟩
      · have l' : X.env.scope.names.lookup x = some .local := l
        rcases hc with hc | hc <;> rw [hc] at l' <;> cases l'
      · exact ⟨c, (ownC_clo nc).trans (clo_lookup' ec hfm), z.keeps kp⟩
  · rcases ownC_cases e with e | e
    · exact ⟨_, (oc.empty _ _ e).1⟩
    · obtain ⟨v, z⟩ := I.cell x c (cl x c e)
      exact ⟨v, z.keeps kp⟩
  · rcases ownC_cases e with e | e
    · exact I.hok.fresh (Nat.le_of_succ_le (oc.empty _ _ e).2)
    · exact I.freeC x c (cl x c e)
  · show (σ ++ _).length = N'.length
    rw [List.length_append, List.length_replicate, I.len]
    omega
end
end L2
set_option Elab.async false
set_option linter.all false
set_option maxRecDepth 100000
namespace L2
open PySem PySem.Spec PyProof.Rows

/-! ### what is walked, without effect -/
def rdIp (K : PySem.W.Frag) (c : Ct) (hid : Hid) (f : FA) (ρ : Rho) : TI := fun σ H R => SR K c hid ρ σ H ∧ ∃ ds, f ρ = some ds ∧ ∀ J H', Same H H' → ItOk K (vw H' hid) J ds → R J H'
def DIp (X : Cx) (c : Ct) (tg iter : Expr) (f : FA) : Prop := ∀ hid ρ, PI X tg iter (rdIp X.K c hid f ρ)
/-- what is walked while nothing that stood is changed -/
def ItB (K : PySem.W.Frag) (L W : Hp) (J : It) (ds : List D) : Prop :=
  (∀ (i : Nat) (d : D) (H : Hp), ds[i]? = some d → Same L H → Same W H → J.go i H ∧ ∀ x H', J.yld i H x H' → Same H H' ∧ ∀ hid : Hid, (∀ b, hid b = true → ∃ o, H b = some o) → Same W (vw H hid) → Rep K (vw H' hid) x d) ∧ ∀ H, Same L H → Same W H → J.stop ds.length H
theorem ItOk.b {K : PySem.W.Frag} {L W : Hp} {J : It} {ds : List D} (h : ItOk K W J ds) : ItB K L W J ds := ⟨fun i d H e _ w => h.1 i d H e w, fun H _ w => h.2 H w⟩
def rdIb (K : PySem.W.Frag) (c : Ct) (hid : Hid) (f : FA) (ρ : Rho) : TI := fun σ H R => SR K c hid ρ σ H ∧ ∃ ds, f ρ = some ds ∧ ∀ J H', Same H H' → ItB K H' (vw H' hid) J ds → R J H'
def DIb (X : Cx) (c : Ct) (tg iter : Expr) (f : FA) : Prop := ∀ hid ρ, PI X tg iter (rdIb X.K c hid f ρ)
section
variable {X : Cx} {c : Ct} {k : Kd} {tg iter : Expr} {pos : Pos}
theorem DIp.b {f : FA} (h : DIp X c tg iter f) : DIb X c tg iter f := fun hid ρ => PI.imp (h hid ρ) fun σ H R ⟨sr, ds, e, q⟩ => ⟨sr, ds, e, fun J H' s io => q J H' s io.b⟩
theorem DIp.e {f : FA} (h : DIp X c tg iter f) : DI X c tg iter (puA f) := fun hid ρ => PI.imp (h hid ρ) fun σ H R ⟨sr, ds, ρ', e, q⟩ => by
  obtain ⟨e1, rfl⟩ := puA_some e
  exact ⟨sr, ds, e1, fun J H' s io => q J H' (.of s) (sr.ext s) io⟩
def lstA (f : FE) : FA := fun ρ => (f ρ).bind fun d => match d with
  | .lst ds => some ds
  | _ => none
def tupA (f : FE) : FA := fun ρ => (f ρ).bind fun d => match d with
  | .tup ds => some ds
  | _ => none
theorem lstA_some {f : FE} {ρ : Rho} {ds : List D} (h : lstA f ρ = some ds) : f ρ = some (.lst ds) := by
  unfold lstA at h
  cases e : f ρ with
  | none => rw [e] at h; cases h
  | some d =>
    rw [e] at h
    cases d with
    | lst z => cases h; rfl
    | _ => cases h
theorem tupA_some {f : FE} {ρ : Rho} {ds : List D} (h : tupA f ρ = some ds) : f ρ = some (.tup ds) := by
  unfold tupA at h
  cases e : f ρ with
  | none => rw [e] at h; cases h
  | some d =>
    rw [e] at h
    cases d with
    | tup z => cases h; rfl
    | _ => cases h
theorem itok_lst {K : PySem.W.Frag} {W : Hp} {a : Addr} {xs : List V} {ds : List D} (h1 : SqL K W a xs) (h2 : Reps K W xs ds) : ItOk K W (Itl K a) ds := by
  refine ⟨fun i d H e s => ?_, fun H s => ⟨_, s.seq h1, by rw [h2.length]; exact Nat.le_refl _⟩⟩
  obtain ⟨x, e1, r1⟩ := h2.get e
  refine ⟨⟨_, x, s.seq h1, e1⟩, fun y H' ⟨e2, e3⟩ => ?_⟩
  subst e2
  have := e3 _ (s.seq h1)
  rw [e1] at this; cases this
  exact ⟨Same.refl _, fun hid _ sw => r1.mono sw⟩
theorem dip_list {f : FE} (h : DP X c .s iter f) : DIp X c tg iter (lstA f) := fun hid ρ => PI.imp (pi_list (h hid ρ)) fun σ H R ⟨sr, ds, e, q⟩ => by
  refine ⟨sr, _, lstA_some e, fun v H' s' r => ?_⟩
  cases r with
  | lst h1 h2 => have h1 := SqL.of (K := X.K) h1; exact ⟨_, rfl, ⟨_, (vw_le _ _).seq h1⟩, q _ H' s' (itok_lst h1 h2)⟩
theorem dip_tup {f : FE} (h : DP X c .s iter f) : DIp X c tg iter (tupA f) := fun hid ρ => PI.imp (pi_tup (h hid ρ)) fun σ H R ⟨sr, ds, e, q⟩ => by
  refine ⟨sr, _, tupA_some e, fun v H' s' r => ?_⟩
  cases r with
  | tup h1 h2 => exact ⟨_, rfl, ⟨_, Same.seqT (vw_le _ _) h1⟩, q _ H' s' (itok_tup h1 h2)⟩
def rngA1 (f : FA) : FA := fun ρ => (f ρ).bind fun ds => match ds with
  | [.int j] => if j.natAbs < 4000000000 then some (ups 0 j.toNat) else none
  | _ => none
theorem dip_range1 {a : Expr} {f : FA} {p : Pos} (hm : X.mg "range" = none) (ha : DA X c [a] f) (hg : Gl X "range" := by rfl) (hs : starEach [a] X.env = [(false, eval a X.env)] := by rfl) : DIp X c tg (.Call (.Name "range" p) [a] [] pos) (rngA1 f) := fun hid ρ =>
  PI.imp (pi_range1 hg hm (ha hid ρ) hs) fun σ H R ⟨sr, ds, e, q⟩ => by
    unfold rngA1 at e
    cases e1 : f ρ with
    | none => rw [e1] at e; cases e
    | some z =>
      rw [e1] at e
      dsimp only [Option.bind] at e
      split at e
      · split at e
        · cases e
          refine ⟨sr, _, e1, fun vs H' s' r => ?_⟩
          cases r with
          | cons r t => cases t; cases r; exact ⟨_, rfl, by omega, by omega, q _ H' s' itok_range⟩
        · cases e
      · cases e
/-! ### the tests of a comprehension -/
def testsOf (ifs : List Expr) (env : Env) : Sem Bool := forIn ifs true fun c r => if r = true then do let ok ← isTrue c env (eval c env); pure (ForInStep.yield ok) else pure (ForInStep.yield r)
def DIf (X : Cx) (c : Ct) (ifs : List Expr) (p : FT) : Prop := ∀ hid ρ (pins : List (Addr × Obj)) (s : Shared) (σ : St) (H : Hp) (Q : Bool → Hp → Prop), Inv X pins σ H s → rdT X.K c hid p ρ σ H Q → wpAny (model X.prog X.w) X.A (testsOf ifs X.env) (TP X pins σ Q) X.xe s
def yesT : FT := fun _ => some true
theorem dif_nil : DIf X c [] yesT := fun hid ρ pins s σ H Q I ⟨sr, d, e, q⟩ => by
  cases e
  exact wpAny_tests_nil ⟨H, I, q H (Same.refl _)⟩
theorem dif_one {e : Expr} {p : FT} (h : DT X c e p) : DIf X c [e] p := fun hid ρ pins s σ H Q I q => wpAny_tests_one (h hid ρ pins s σ H Q I q)
end
/-- one generator: a turn with its tuple let go -/
theorem codeAny_compLoop_turns {prog : Program} {w : World} {A : Around} {R : Result → Shared → Prop} {s : Shared} {elt target iter : Expr} {ifs : List Expr} {scope : Scope} {pos : Pos} {it acc : Value} {env : Env} (I : Nat → Shared → Prop)
    (turn : ∀ n s, I n s → wpAny (model prog w) A (pyNext it) (fun r s₁ => match r with
      | none => R (.ok .next) s₁
      | some v => wpAny (model prog w) A (letOwnedTupleGo target it v) (fun _ s₁ => wpAny (model prog w) A (assign target env v) (fun _ s₂ =>
          wpAny (model prog w) A (testsOf ifs env) (fun ok s₃ =>
            if ok = true then wpAny (model prog w) A (eval elt env) (fun x s₄ =>
              wpAny (model prog w) A (call (.builtin "list.append") [acc, x]) (fun _ s₅ => ∃ m, m < n ∧ I m s₅) (fun _ _ => False) s₄) (fun _ _ => False) s₃
            else ∃ m, m < n ∧ I m s₃) (fun _ _ => False) s₂) (fun _ _ => False) s₁) (fun _ _ => False) s₁) (fun _ _ => False) s)
    (n : Nat) (h : I n s) :
    codeAny (model prog w) A (.compLoop (.ListComp elt [⟨target, iter, ifs, 0⟩] scope pos) 0 it acc env) R s := by
  have no : ∀ {E' : Value → Shared → Prop} (x : Value) (s : Shared), False → E' x s := fun _ _ z => z.elim
  refine codeAny_loop rfl I (fun n s hI => ?_) n h
  show wpAny _ A ((compTurn (.ListComp elt [⟨target, iter, ifs, 0⟩] scope pos) 0 it acc env).onRaise (fun x => do noteFrame x env; theTreesLotGoes x)) _ _ s
  refine wpAny_noted ?_
  rw [compTurn_list]
  refine wpAny_bind (wpAny_standAt (wpAny_bind (wpAny_mono (turn n s hI) (fun r s₁ h₁ => ?_) no)))
  cases r with
  | none => exact wpAny_pure h₁
  | some v =>
    refine wpAny_bind (wpAny_mono h₁ (fun _ s₁ h₁ => ?_) no)
    refine wpAny_bind (wpAny_mono h₁ (fun _ s₂ h₂ => wpAny_bind (wpAny_mono h₂ (fun ok s₃ h₃ => ?_) no)) no)
    cases ok with
    | false => exact wpAny_pure ⟨rfl, h₃⟩
    | true =>
      exact wpAny_bind (wpAny_bind (wpAny_mono h₃ (fun x s₄ h₄ => wpAny_bind (wpAny_mono h₄ (fun _ s₅ h₅ => wpAny_pure (wpAny_pure ⟨rfl, h₅⟩)) no)) no))

/-! ### the mirror of a comprehension -/
def compL (g : FG) (p : FT) (f : FE) (ρ0 : Rho) : List D → Option (List D)
  | [] => some []
  | d :: r => (g d ρ0).bind fun ρ1 => (p ρ1).bind fun b => if b = true then (f ρ1).bind fun y => (compL g p f ρ0 r).map (y :: ·) else compL g p f ρ0 r
def compF (m : Nat) (gi : FA) (g : FG) (p : FT) (f : FE) : FE := fun ρ => (gi ρ).bind fun ds => if ds.length ≤ sizeLine then (compL g p f (ρ ++ List.replicate m .no) ds).map D.lst else none
theorem compF_some {m : Nat} {gi : FA} {g : FG} {p : FT} {f : FE} {ρ : Rho} {d : D} (h : compF m gi g p f ρ = some d) : ∃ ds ys, gi ρ = some ds ∧ ds.length ≤ sizeLine ∧ compL g p f (ρ ++ List.replicate m .no) ds = some ys ∧ d = .lst ys := by
  unfold compF at h
  cases e1 : gi ρ with
  | none => rw [e1] at h; cases h
  | some ds =>
    rw [e1] at h
    dsimp only [Option.bind] at h
    split at h
    · cases e2 : compL g p f (ρ ++ List.replicate m .no) ds with
      | none => rw [e2] at h; cases h
      | some ys => rw [e2] at h; cases h; exact ⟨ds, ys, rfl, ‹_›, e2, rfl⟩
    · cases h
/-- a target of the block's own names -/
def Tail (n : Nat) (g : FG) : Prop := ∀ d (ρ0 ρ1 : Rho), g d ρ0 = some ρ1 → ρ1.length = ρ0.length ∧ ∀ i : Nat, i < n → ρ1[i]? = ρ0[i]?
def TailS (n : Nat) (g : FGs) : Prop := ∀ d (ρ0 ρ1 : Rho), g d ρ0 = some ρ1 → ρ1.length = ρ0.length ∧ ∀ i : Nat, i < n → ρ1[i]? = ρ0[i]?
theorem tail_n {n i : Nat} (h : n ≤ i) : Tail n (gN i) := fun d ρ0 ρ1 e => by
  cases e
  exact ⟨by simp, fun j hj => List.getElem?_set_ne (by omega)⟩
theorem tails_nil {n : Nat} : TailS n gsN := fun d ρ0 ρ1 e => by
  unfold gsN at e
  split at e
  · cases e; exact ⟨rfl, fun _ _ => rfl⟩
  · cases e
theorem tails_cons {n : Nat} {g : FG} {gs : FGs} (h1 : Tail n g) (h2 : TailS n gs) : TailS n (gsC g gs) := fun d ρ0 ρ1 e => by
  cases d with
  | nil => cases e
  | cons d ds =>
    have e : (g d ρ0).bind (fun ρ' => gs ds ρ') = some ρ1 := e
    cases e1 : g d ρ0 with
    | none => rw [e1] at e; cases e
    | some ρ2 =>
      rw [e1] at e
      obtain ⟨a1, a2⟩ := h1 d ρ0 ρ2 e1
      obtain ⟨b1, b2⟩ := h2 ds ρ2 ρ1 e
      exact ⟨b1.trans a1, fun i hi => (b2 i hi).trans (a2 i hi)⟩
theorem tail_t {n m : Nat} {gs : FGs} (h : TailS n gs) : Tail n (gT m gs) := fun d ρ0 ρ1 e => by
  unfold gT at e
  split at e
  · split at e
    · exact h _ _ _ e
    · cases e
  · cases e
theorem SR.forget {K : PySem.W.Frag} {c : Ct} {hid : Hid} {ρ0 ρ1 : Rho} {σ : St} {H : Hp} (h : SR K c hid ρ1 σ H) (hl : ρ1.length = ρ0.length) (hs : ∀ (i : Nat) (s : Sl), ρ0[i]? = some s → s = .no ∨ ρ1[i]? = some s) : SR K c hid ρ0 σ H := by
  have ow : ∀ i : Nat, Ow ρ0[i]? → Ow ρ1[i]? := fun i o => by
    cases e : ρ0[i]? with
    | none => rw [e] at o; exact o.elim
    | some s =>
      rcases hs i s e with rfl | z
      · rw [e] at o; exact o.elim
      · rw [z, ← e]; exact o
  refine ⟨h.tr, h.ht, h.h0, h.kp, h.t0, h.c0, h.m0, h.len.trans hl, fun i s e => ?_, fun i j a n o1 o2 => h.ap i j a n (ow i o1) (ow j o2)⟩
  rcases hs i s e with rfl | z
  · trivial
  · exact h.sl i s z
theorem SR.more {K : PySem.W.Frag} {c : Ct} {hid : Hid} {ρ : Rho} {σ : St} {H : Hp} (h : SR K c hid ρ σ H) (m : Nat) : SR K c hid (ρ ++ List.replicate m .no) (σ ++ List.replicate m none) H := by
  have lt : ∀ {i : Nat}, Ow (ρ ++ List.replicate m Sl.no)[i]? → i < ρ.length := fun {i} o => by
    by_cases hi : i < ρ.length
    · exact hi
    · rw [List.getElem?_append_right (by omega), List.getElem?_replicate] at o
      split at o <;> exact o.elim
  refine ⟨h.tr, h.ht, h.h0, h.kp, h.t0, h.c0, h.m0, by simp [h.len], fun i s e => ?_, fun i j a n o1 o2 q1 q2 => ?_⟩
  · by_cases hi : i < ρ.length
    · rw [List.getElem?_append_left hi] at e
      have z := h.sl i s e
      have es : (σ ++ List.replicate m none)[i]? = σ[i]? := List.getElem?_append_left (by rw [h.len]; exact hi)
      cases s with
      | no => trivial
      | v d => obtain ⟨x, h1, h2⟩ := z; exact ⟨x, es.trans h1, h2⟩
      | own ds => obtain ⟨a, xs, h1, h2⟩ := z; exact ⟨a, xs, es.trans h1, h2⟩
      | arg ds => obtain ⟨a, xs, h1, h2⟩ := z; exact ⟨a, xs, es.trans h1, h2⟩
      | ob b => obtain ⟨a, h1, h2⟩ := z; exact ⟨a, es.trans h1, h2⟩
    · rw [List.getElem?_append_right (by omega), List.getElem?_replicate] at e
      split at e
      · cases e; trivial
      · cases e
  · have l1 := lt o1
    have l2 := lt o2
    rw [List.getElem?_append_left l1] at o1
    rw [List.getElem?_append_left l2] at o2
    rw [List.getElem?_append_left (by rw [h.len]; exact l1)] at q1
    rw [List.getElem?_append_left (by rw [h.len]; exact l2)] at q2
    exact h.ap i j a n o1 o2 q1 q2
end L2
set_option Elab.async false
set_option linter.all false
set_option maxRecDepth 100000
namespace L2
open PySem PySem.Spec PyProof.Rows
section
variable {X : Cx} {c : Ct} {elt tg iter : Expr} {ifs : List Expr} {scope : Scope} {pos : Pos} {N' : List Str} {m : Nat} {gi : FA} {g : FG} {p : FT} {f : FE}
theorem SR.write {K : PySem.W.Frag} {hid : Hid} {ρ : Rho} {σ : St} {H : Hp} {a : Addr} {o' : HO} (h : SR K c hid ρ σ H) (hh : hid a = true) (h0 : c.H₀ a = none) (na : ∀ i : Nat, Ow ρ[i]? → σ[i]? ≠ some (some (.ref a))) (hn : ∀ xs, o' ≠ .tup xs := by intro _ e; cases e) : SR K c hid ρ σ (upd H a o') := by
  have tr' : ∀ b o, H b = some o → ∃ o2, (upd H a o') b = some o2 := fun b o q => by
    by_cases e : b = a
    · subst e; exact ⟨_, upd_same⟩
    · exact ⟨o, by rw [upd_ne e]; exact q⟩
  refine ⟨fun b hb => let ⟨o, q⟩ := h.tr b hb; tr' b o q, fun b xs hb q => by
    by_cases e : b = a
    · subst e; rw [upd_same] at q; exact hn _ (Option.some.inj q)
    · rw [upd_ne e] at q; exact h.ht b xs hb q, h.h0, fun b o q m => ?_, fun b o q => let ⟨o2, q2⟩ := h.t0 b o q; tr' b o2 q2, h.c0, h.m0, h.len, fun i s e => ?_, h.ap⟩
  · rw [upd_ne (ne_of_none q h0)]; exact h.kp b o q m
  · have z := h.sl i s e
    have ne : ∀ a', Ow ρ[i]? → σ[i]? = some (some (.ref a')) → a' ≠ a := fun a' o q w => by subst w; exact na i o q
    cases s with
    | no => trivial
    | v d => obtain ⟨x, h1, h2⟩ := z; exact ⟨x, h1, by rw [vw_upd hh]; exact h2⟩
    | own ds => obtain ⟨a', xs, h1, h2, h3, h4, h5⟩ := z; exact ⟨a', xs, h1, by rw [upd_ne (ne a' (by rw [e]; trivial) h1)]; exact h2, h3, h4, by rw [vw_upd hh]; exact h5⟩
    | arg ds => obtain ⟨a', xs, h1, h2, h3, h4, h5⟩ := z; exact ⟨a', xs, h1, by rw [upd_ne (ne a' (by rw [e]; trivial) h1)]; exact h2, h3, h4, by rw [vw_upd hh]; exact h5⟩
    | ob b => obtain ⟨a', h1, h2⟩ := z; exact ⟨a', h1, h2.mono (fun ow o q => by rw [upd_ne (ne a' (by rw [e]; exact ow) h1)]; exact q) (by rw [vw_upd hh]; exact Same.refl _) fun _ q => q⟩
structure CLI (Y : Cx) (K : PySem.W.Frag) (c : Ct) (hid : Hid) (ρ0 : Rho) (H W : Hp) (D0 : Addr) (fp : List Addr) (tn : Nat → Heap → Prop) (g : FG) (p : FT) (f : FE) (ds ys : List D) (n i : Nat) (xs : List V) (ad : List D) (σ' : St) (H' : Hp) (s' : Shared) : Prop where
  e : n = ds.length - i
  hi : i ≤ ds.length
  I : Inv Y [] σ' H' s'
  st : tn i s'.heap
  fr : ∀ b ∈ fp, H' b = none
  sr : SR K c hid ρ0 σ' H'
  sm : Same H H'
  ac : H' D0 = some (.lst xs)
  rp : Reps K (vw H' hid) xs ad
  w : Same W (vw H' hid)
  hl : xs.length ≤ i
  na : ∀ i : Nat, Ow ρ0[i]? → σ'[i]? ≠ some (some (.ref D0))
  go : ∃ rest, compL g p f ρ0 (ds.drop i) = some rest ∧ ad ++ rest = ys
theorem comp_loop (hcalm : X.calm = true) (hT : Tail X.N.length g)
    (hg : ∀ C s₀ H₀ ex, DGt (compCx X N' scope C s₀ H₀ ex) c tg g) (hp : ∀ C s₀ H₀ ex, DIf (compCx X N' scope C s₀ H₀ ex) c ifs p) (he : ∀ C s₀ H₀ ex, DP (compCx X N' scope C s₀ H₀ ex) c .s elt f)
    {σ3 : St} {H H3 : Hp} {s3 s4 : Shared} {hid : Hid} {ρ : Rho} {J : It} {it D0 C : Addr} {fp : List Addr} {tn : Nat → Heap → Prop} {ds ys : List D} {R : Result → Shared → Prop} {W : Hp} (hρ : ρ.length = X.N.length)
    (I : Inv (compCx X N' scope C s3 H3 fp) [] σ3 H3 s4) (sr : SR X.K c hid (ρ ++ List.replicate m .no) σ3 H3) (hh : hid D0 = true) (h00 : c.H₀ D0 = none) (na : ∀ i : Nat, Ow (ρ ++ List.replicate m Sl.no)[i]? → σ3[i]? ≠ some (some (.ref D0))) (hacc : H3 D0 = some (.lst [])) (sm : Same H H3) (nD : H D0 = none) (wv : Same W (vw H3 hid)) (T : Turn X.prog X.w X.K tg J fp it tn) (st : tn 0 s4.heap) (hF : ∀ b ∈ fp, H3 b = none)
    (io : ItB X.K H W J ds) (hz : ds.length ≤ sizeLine) (hc : compL g p f (ρ ++ List.replicate m .no) ds = some ys)
    (hR : ∀ (s' : Shared) (σ' : St) (H' : Hp) (xs : List V), Inv (compCx X N' scope C s3 H3 fp) [] σ' H' s' → Same H H' → H' D0 = some (.lst xs) → Reps X.K (vw H' hid) xs ys → R (.ok .next) s') :
    codeAny (model X.prog X.w) X.A (.compLoop (.ListComp elt [⟨tg, iter, ifs, 0⟩] scope pos) 0 (.ref it) (.ref D0) (compEnvC scope (ownC X.env.cells scope C) C X.env)) R s4 := by
  have stat : ∀ {pins : List (Addr × Obj)} {H' : Hp}, (∀ q ∈ pins, q.1 ∉ fp) → (∀ b ∈ fp, H' b = none) → ∀ b ∈ fp, FpOk (compCx X N' scope C s3 H3 fp) pins H' b := fun {pins H'} hpn hn b hb =>
    ⟨hn b hb, (I.ok.exf b hb).1, I.ok.exfs b hb, .inl hb, (I.ok.exf b hb).2, fun q hq e => hpn q (by have hq' : q ∈ ([] : List (Addr × Obj)) ++ pins := hq; simpa using hq') (by rw [e]; exact hb)⟩
  have no : ∀ q ∈ ([] : List (Addr × Obj)), q.1 ∉ fp := fun q hq => nomatch hq
  refine codeAny_compLoop_turns (fun n s' => ∃ (i : Nat) (xs : List V) (ad : List D) (σ' : St) (H' : Hp), CLI (compCx X N' scope C s3 H3 fp) X.K c hid (ρ ++ List.replicate m .no) H W D0 fp tn g p f ds ys n i xs ad σ' H' s') ?_ ds.length
    ⟨0, [], [], σ3, H3, by simp, Nat.zero_le _, I, st, hF, sr, sm, hacc, .nil, wv, Nat.zero_le _, na, ys, by simpa using hc, rfl⟩
  rintro n s5 ⟨i, xs, ad, σ5, H5, rfl, hi, I5, st5, f5, sr5, sm5, ac5, rp5, w5, hl5, na5, rest, hc5, hy5⟩
  have wH : Same W H5 := w5.trans (vw_le _ _)
  by_cases hlt : i < ds.length
  · have hd : ds[i]? = some ds[i] := List.getElem?_eq_getElem hlt
    have e2 : ds.drop i = ds[i] :: ds.drop (i + 1) := List.drop_eq_getElem_cons hlt
    rw [e2] at hc5
    unfold compL at hc5
    obtain ⟨go, yl⟩ := io.1 i ds[i] H5 hd sm5 wH
    refine thn (T.item (compCx X N' scope C s3 H3 fp) rfl rfl rfl hcalm i [] s5 σ5 H5 (fun _ _ => False) I5 (stat no f5) st5 go) fun r s6 ⟨u, hr, h6⟩ => ?_
    subst hr
    refine thn h6 fun _ s7 ⟨x, H7, I7, r7, y7, st7, f7⟩ => ?_
    obtain ⟨s7', rp⟩ := yl x H7 y7
    have rx := rp hid sr5.tr w5
    have I7' := I7.pinned (stat no f7) (T.obj _ _ st7)
    cases e3 : g ds[i] (ρ ++ List.replicate m .no) with
    | none => rw [e3] at hc5; cases hc5
    | some ρ1 =>
      rw [e3] at hc5
      have hc5 : (p ρ1).bind (fun b => if b = true then (f ρ1).bind fun y => (compL g p f (ρ ++ List.replicate m .no) (ds.drop (i + 1))).map (y :: ·) else compL g p f (ρ ++ List.replicate m .no) (ds.drop (i + 1))) = some rest := hc5
      obtain ⟨tl1, tl2⟩ := hT _ _ _ e3
      have fg : ∀ {σ' : St} {H' : Hp}, SR X.K c hid ρ1 σ' H' → SR X.K c hid (ρ ++ List.replicate m .no) σ' H' := fun {σ' H'} z => z.forget tl1 fun j s e => by
        by_cases hj : j < X.N.length
        · exact .inr ((tl2 j hj).trans e)
        · refine .inl ?_
          rw [List.getElem?_append_right (by omega), List.getElem?_replicate] at e
          split at e
          · cases e; rfl
          · cases e
      -- what is kept of the iterator while the turn runs
      have keepT : ∀ {σ' : St} {H' : Hp} {s' : Shared}, Inv (compCx X N' scope C s3 H3 fp) ([] ++ pinsAt fp s7.heap) σ' H' s' → tn (i + 1) s'.heap ∧ ∀ b ∈ fp, H' b = none := fun {σ' H' s'} J' => by
        refine ⟨T.keep _ _ _ st7 fun b hb o e => (J'.pin (b, o) (List.mem_append_right _ (List.mem_append_right _ (mem_pinsAt hb e)))).1, fun b hb => ?_⟩
        obtain ⟨o, e, _⟩ := T.obj _ _ st7 b hb
        exact (J'.pin (b, o) (List.mem_append_right _ (List.mem_append_right _ (mem_pinsAt hb e)))).2.1
      refine thn (hg C s3 H3 fp hid _ ds[i] _ s7 σ5 H7 x u (fun σ' H' => H' = H7 ∧ SR X.K c hid ρ1 σ' H7 ∧ OwK (ρ ++ List.replicate m .no) ρ1 σ5 σ') I7' r7 ⟨sr5.ext s7', rx, ρ1, e3, fun σ' z o => ⟨rfl, z, o⟩⟩) fun _ s8 ⟨σ8, H8, I8, e8, q8, o8⟩ => ?_
      subst e8
      have na8 : ∀ i : Nat, Ow (ρ ++ List.replicate m Sl.no)[i]? → σ8[i]? ≠ some (some (.ref D0)) := fun j o => by
        have o1 : Ow ρ1[j]? := by
          by_cases hj : j < X.N.length
          · rw [tl2 j hj]; exact o
          · exfalso
            rw [List.getElem?_append_right (by omega), List.getElem?_replicate] at o
            split at o <;> exact o.elim
        rw [(o8 j o1).2]
        exact na5 j o
      cases e4 : p ρ1 with
      | none => rw [e4] at hc5; cases hc5
      | some b =>
        rw [e4] at hc5
        have hc5 : (if b = true then (f ρ1).bind fun y => (compL g p f (ρ ++ List.replicate m .no) (ds.drop (i + 1))).map (y :: ·) else compL g p f (ρ ++ List.replicate m .no) (ds.drop (i + 1))) = some rest := hc5
        refine thn (hp C s3 H3 fp hid ρ1 _ s8 σ8 H8 (fun b' H' => b' = b ∧ Same H8 H') I8 ⟨q8, b, e4, fun H' s' => ⟨rfl, s'⟩⟩) fun ok s9 ⟨H9, I9, e9, sm9⟩ => ?_
        subst e9
        have w9 : Same (vw H5 hid) (vw H9 hid) := vw_same (s7'.trans sm9)
        cases ok with
        | false =>
          have hc5 : compL g p f (ρ ++ List.replicate m .no) (ds.drop (i + 1)) = some rest := hc5
          obtain ⟨k1, k2⟩ := keepT I9
          exact ⟨ds.length - (i + 1), by omega, i + 1, xs, ad, σ8, H9, rfl, hlt, I9.unpinned, k1, k2, fg (q8.ext sm9), sm5.trans (s7'.trans sm9), sm9 _ _ (s7' _ _ ac5), rp5.mono w9, w5.trans w9, by omega, na8, rest, hc5, hy5⟩
        | true =>
          have hc5 : ((f ρ1).bind fun y => (compL g p f (ρ ++ List.replicate m .no) (ds.drop (i + 1))).map (y :: ·)) = some rest := hc5
          cases e5 : f ρ1 with
          | none => rw [e5] at hc5; cases hc5
          | some y =>
            rw [e5] at hc5
            have hc5 : (compL g p f (ρ ++ List.replicate m .no) (ds.drop (i + 1))).map (y :: ·) = some rest := hc5
            cases e6 : compL g p f (ρ ++ List.replicate m .no) (ds.drop (i + 1)) with
            | none => rw [e6] at hc5; cases hc5
            | some rest' =>
              rw [e6] at hc5
              cases hc5
              show wpAny (model X.prog X.w) X.A (eval elt _) _ _ s9
              refine thn (he C s3 H3 fp hid ρ1 _ s9 σ8 H9 (fun v H' => Same H9 H' ∧ Rep X.K (vw H' hid) v y) I9 ⟨q8.ext sm9, y, e5, fun v H' s' r => ⟨s', r⟩⟩) fun v s10 ⟨z, H10, I10, rz, sm10, rp10⟩ => ?_
              have sm' : Same H5 H10 := s7'.trans (sm9.trans sm10)
              have a10 : H10 D0 = some (.lst xs) := sm' _ _ ac5
              refine thn (mt_append (X := compCx X N' scope C s3 H3 fp) _ s10 σ8 H10 (.ref D0) [z] (.ref D0) [v] (fun _ H' => H' = upd H10 D0 (.lst (xs ++ [z]))) I10 rfl (.cons rz .nil) ⟨D0, xs, z, rfl, rfl, a10, by omega, rfl⟩) fun _ s11 ⟨_, H11, I11, _, e11⟩ => ?_
              subst e11
              obtain ⟨k1, k2⟩ := keepT I11
              have vv : vw (upd H10 D0 (.lst (xs ++ [z]))) hid = vw H10 hid := vw_upd hh
              have w10 : Same (vw H5 hid) (vw H10 hid) := vw_same sm'
              refine ⟨ds.length - (i + 1), by omega, i + 1, xs ++ [z], ad ++ [y], σ8, _, rfl, hlt, I11.unpinned, k1, k2, ?_, fun b o e => ?_, upd_same, ?_, ?_, by simp; omega, na8, rest', e6, by rw [← hy5]; simp⟩
              · -- the state with the list longer
                have q10 := fg ((q8.ext sm9).ext sm10)
                exact q10.write hh h00 na8
              · rw [upd_ne (ne_of_none e nD)]; exact sm' _ _ (sm5 _ _ e)
              · rw [vv]; exact (rp5.mono w10).append (.cons rp10 .nil)
              · rw [vv]; exact w5.trans w10
  · have e : i = ds.length := by omega
    subst e
    rw [List.drop_eq_nil_of_le (Nat.le_refl _)] at hc5
    cases hc5
    rw [List.append_nil] at hy5
    subst hy5
    refine thn (T.done (compCx X N' scope C s3 H3 fp) rfl rfl rfl hcalm ds.length [] s5 σ5 H5 (fun _ _ => False) I5 (stat no f5) st5 (io.2 H5 sm5 wH)) fun r s6 ⟨hr, I6⟩ => ?_
    subst hr
    exact hR s6 σ5 H5 xs I6 sm5 ac5 rp5
/-- the block: what stands behind the iterator -/
theorem comp_block (hcalm : X.calm = true) (hk : scope.kind = .function) (hs : okS scope X.env.scope = true) (hn : okN X.N N' scope = true) (hm : N'.length - X.N.length = m) (hT : Tail X.N.length g)
    (hg : ∀ C s₀ H₀ ex, DGt (compCx X N' scope C s₀ H₀ ex) c tg g) (hp : ∀ C s₀ H₀ ex, DIf (compCx X N' scope C s₀ H₀ ex) c ifs p) (he : ∀ C s₀ H₀ ex, DP (compCx X N' scope C s₀ H₀ ex) c .s elt f)
    {E : Value → Shared → Prop} {pins : List (Addr × Obj)} {σ : St} {H : Hp} {s : Shared} {hid : Hid} {ρ : Rho} {J : It} {it : Addr} {fp : List Addr} {tn : Nat → Heap → Prop} {ds ys : List D} {RR : Value → Addr → Result → Shared → Prop}
    (I : Inv X pins σ H s) (sr : SR X.K c hid ρ σ H) (T : Turn X.prog X.w X.K tg J fp it tn) (st : tn 0 s.heap) (hF : ∀ b ∈ fp, FpOk X pins H b) (io : ItB X.K H (vw H hid) J ds) (hz : ds.length ≤ sizeLine) (hc : compL g p f (ρ ++ List.replicate m .no) ds = some ys)
    (hR : ∀ (D C : Addr) (s' : Shared) (H' : Hp) (xs : List V), s.heap.objs.size ≤ D → s.heap.objs.size ≤ C → D ≠ C → H D = none → Same H H' → H' D = some (.lst xs) → Reps X.K (vw H' (hadd hid D)) xs ys → (∃ m, s'.heap.Ns C m) → H' C = none → s'.os = s.os → AllBare s'.gens → HOk X.prog X.w H' s'.heap → Un (frs X.stack) fp H H' s.heap s'.heap → RR (.ref D) C (.ok .next) s') :
    wpAny (model X.prog X.w) X.A (newList []) (fun acc s₃ => wpAny (model X.prog X.w) X.A (newFunctionEnv scope X.env.globals (clo X.env.cells scope.names []) [] X.env.qual none .none (some X.env)) (fun cenv s₄ =>
      codeAny (model X.prog X.w) X.A (.compStart (.ListComp elt [⟨tg, iter, ifs, 0⟩] scope pos) 0 (.ref it) acc { cenv with scope := relabel scope X.env }) (RR acc cenv.locals) s₄) E s₃) E s := by
  refine wpAny_newObj_type (nfe_own fun h₁ hns₁ kp1 oc₁ => ?_)
  dsimp only at hns₁ kp1 oc₁ ⊢
  generalize hH2 : s.heap.push { cls := .type "list", dict := none, data := .seq ([] : List Value).toArray } = H2 at hns₁ kp1 oc₁ ⊢
  have hC : H2.objs.size = s.heap.objs.size + 1 := by rw [← hH2, Heap.size_push]
  have hD : H s.heap.objs.size = none := I.hok.fresh (Nat.le_refl _)
  -- the list is tracked
  have I2 : Inv X pins σ (upd H s.heap.objs.size (.lst [])) { s with heap := H2 } := by
    rw [← hH2]
    exact I.laid (t' := s.toks) (fun b o e => Heap.get?_push_of_some _ e) (Nat.le_refl _) ⟨Nat.zero_le _, [], 0, .nil, Heap.get?_push_size _ rfl⟩
  have fpLt : ∀ b ∈ fp, b < s.heap.objs.size := fun b hb => let ⟨o, e, _⟩ := T.obj 0 s.heap st b hb; Heap.lt_size e
  have hF2 : ∀ b ∈ fp, FpOk X pins (upd H s.heap.objs.size (.lst [])) b := fun b hb => ⟨by rw [upd_ne (Nat.ne_of_lt (fpLt b hb))]; exact (hF b hb).1, (hF b hb).2⟩
  have kp0 : ∀ b o, s.heap.get? b = some o → H2.get? b = some o := fun b o e => by rw [← hH2]; exact Heap.get?_push_of_some _ e
  have IY := inv_comp (tk := s.toks) (N' := N') (fp := fp) I2 hF2 (fun b hb => let ⟨o, e, _⟩ := T.obj 0 s.heap st b hb; ⟨o, kp0 b o e⟩) hk hs hn hns₁ kp1 oc₁
  rw [hm] at IY
  dsimp only at IY
  have sr0 : SR X.K c (hadd hid s.heap.objs.size) (ρ ++ List.replicate m .no) (σ ++ List.replicate m none) (upd H s.heap.objs.size (.lst [])) := (sr.hide (same_new hD _) hD upd_same).more m
  have hρ : ρ.length = X.N.length := by rw [← sr.len]; exact I.len
  have nf : hid s.heap.objs.size = false := sr.fresh hD
  have st1 : tn 0 h₁ := T.keep _ _ _ st fun b hb o e => kp1 b o (kp0 b o e)
  have na0 : ∀ i : Nat, Ow (ρ ++ List.replicate m Sl.no)[i]? → (σ ++ List.replicate m none)[i]? ≠ some (some (V.ref s.heap.objs.size)) := (sr.more m).notOw nf
  have wv : Same (vw H hid) (vw (upd H s.heap.objs.size (.lst [])) (hadd hid s.heap.objs.size)) := by rw [vw_new hD]; exact Same.refl _
  have loop : ∀ s4 : Shared, s4 = { s with heap := h₁, toks := s.toks } →
      codeAny (model X.prog X.w) X.A (.compLoop (.ListComp elt [⟨tg, iter, ifs, 0⟩] scope pos) 0 (.ref it) (.ref s.heap.objs.size) (compEnvC scope (ownC X.env.cells scope H2.objs.size) H2.objs.size X.env)) (RR (.ref s.heap.objs.size) H2.objs.size) s4 := by
    rintro s4 rfl
    refine comp_loop (H := H) (hid := hadd hid s.heap.objs.size) (W := vw H hid) hcalm hT hg hp he hρ IY sr0 hadd_self (sr.fresh0 hD) na0 upd_same (same_new hD _) hD wv T st1 (fun b hb => (hF2 b hb).1) io hz hc ?_
    intro s' σ' H' xs I' sm' hx' rp'
    have un1 : Un (frs X.stack) fp H (upd H s.heap.objs.size (.lst [])) s.heap H2 := Un.laid (fun b o e => kp0 b o e) (Nat.le_refl _) hD
    refine hR s.heap.objs.size H2.objs.size s' H' xs (Nat.le_refl _) (by rw [hC]; exact Nat.le_succ _) (by rw [hC]; exact Nat.ne_of_lt (Nat.lt_succ_self _)) hD sm' hx' rp' (let ⟨m, hm, _⟩ := I'.loc; ⟨m, hm⟩) I'.free I'.os I'.bare I'.hok (un1.trans I'.base)
  exact codeAny_compStart_list (loop _ rfl) (T.self X.A 0 _ _ _ st1 (loop _ rfl))
/-- [elt for tg in iter if ..] -/
theorem dp_comp (hcalm : X.calm = true) (hT : Tail X.N.length g) (hi : DIb X c tg iter gi)
    (hg : ∀ C s₀ H₀ ex, DGt (compCx X N' scope C s₀ H₀ ex) c tg g) (hp : ∀ C s₀ H₀ ex, DIf (compCx X N' scope C s₀ H₀ ex) c ifs p) (he : ∀ C s₀ H₀ ex, DP (compCx X N' scope C s₀ H₀ ex) c .s elt f)
    (hk : scope.kind = .function := by rfl) (hs : okS scope X.env.scope = true := by kernel_rfl) (hn : okN X.N N' scope = true := by kernel_rfl) (hm : N'.length - X.N.length = m := by rfl) (hset : ∀ x, foldedSetIterable iter X.env x = pure x := by intro _; rfl) :
    DP X c .n (.ListComp elt [⟨tg, iter, ifs, 0⟩] scope pos) (compF m gi g p f) := by
  intro hid ρ pins s σ H Q I hq
  obtain ⟨sr, d, hd, q⟩ := hq
  obtain ⟨ds, ys, e1, hz, hc, rfl⟩ := compF_some hd
  rw [eval_ListComp]
  refine wpAny_comprehension_free (use := none) rfl hset (closureFor_clo fun x hx => I.ok.has x (okS_free hs x hx)) hk (okS_local hs) ?_
  refine thn (hi hid ρ pins s σ H (fun J H' => Same H H' ∧ ItB X.K H' (vw H' hid) J ds) I ⟨sr, ds, e1, fun J H' s1 io => ⟨s1, io⟩⟩) fun v s1 h1 => thn h1 fun itv s2 h2 => ?_
  obtain ⟨it, fp, tn, J, H2, rfl, I2, T, st2, f2, sm, io⟩ := h2
  refine comp_block (RR := fun acc C => compPost (model X.prog X.w) X.A X.xe none (EP X pins σ Q) acc C) hcalm hk hs hn hm hT hg hp he I2 (sr.ext sm) T st2 f2 io hz hc ?_
  intro D C s' H' xs hDge hCge hDC hD sm' hx rp ⟨mm, hns⟩ hC' hos hbare hok hun
  refine ⟨mm, hns, fun h' hsb => ⟨.ref D, H', ?_, rfl, q _ H' (sm.trans sm') ⟨D, xs, ys, rfl, rfl, sm.free hD, hx, rp⟩⟩⟩
  -- the outer state again
  have neC : ∀ b o, s2.heap.get? b = some o → b ≠ C := fun b o e z => by subst z; exact absurd (Heap.lt_size e) (Nat.not_lt.mpr hCge)
  have hun' : Un (frs X.stack) fp H2 H' s2.heap h' := ⟨fun b o e n h1 h2 => (hsb.2 b (neC b o e)).trans (hun.keep b o e n h1 h2), fun b o e n h1 h2 => let ⟨sl, z⟩ := hun.slot b o e n h1 h2; ⟨sl, (hsb.2 b (neC b o e)).trans z⟩, hun.free, fun b o e h2 => let ⟨o', z⟩ := hun.there b o e h2; ⟨o', (hsb.2 b (neC b o e)).trans z⟩, hun.tups, hun.frzs, hun.tbls⟩
  have hok' : HOk X.prog X.w H' h' := fun b o e => by
    have nb : ∀ b' o', H' b' = some o' → b' ≠ C := fun b' o' e' z => by subst z; rw [hC'] at e'; cases e'
    refine (hok b o e).stay (fun c' u hc' z => (hsb.2 c' ?_).trans z) (fun _ z => z) fun _ _ z => z
    rcases hc' with z' | z'
    · rw [z']; exact nb b o e
    · exact nb c' _ z'
  exact I2.call' (s' := { s' with heap := h' }) (ch := fp) hos hun' hok' hbare fun b hb => ⟨(f2 b hb).2.2.2.1, (f2 b hb).2.1, (f2 b hb).2.2.2.2.1, (f2 b hb).2.2.2.2.2⟩
end
end L2
set_option Elab.async false
set_option linter.all false
set_option maxRecDepth 100000
namespace L2
open PySem PySem.Spec PyProof.Rows
section
variable {X : Cx} {c : Ct} {elt tg iter : Expr} {ifs : List Expr} {scope : Scope} {pos spos py : Pos} {N' : List Str} {m : Nat} {gi : FA} {g : FG} {p : FT} {f : FE} {y : Str}
/-- name = [.. for ..] on one line: the store comes ahead of the names' end -/
theorem ps_comp (i : Nat) (hcalm : X.calm = true) (hN : X.N.Nodup) (hT : Tail X.N.length g) (hi : DIb X c tg iter gi)
    (hg : ∀ C s₀ H₀ ex, DGt (compCx X N' scope C s₀ H₀ ex) c tg g) (hp : ∀ C s₀ H₀ ex, DIf (compCx X N' scope C s₀ H₀ ex) c ifs p) (he : ∀ C s₀ H₀ ex, DP (compCx X N' scope C s₀ H₀ ex) c .s elt f)
    (hsw : swapsWith (.ListComp elt [⟨tg, iter, ifs, 0⟩] scope pos) (some (.Name y py)) spos.line X.env = pure true) (hyi : X.N[i]? = some y) (hy : X.env.scope.names.lookup y = some .local)
    (hk : scope.kind = .function) (hs : okS scope X.env.scope = true) (hn : okN X.N N' scope = true) (hm : N'.length - X.N.length = m) (hset : ∀ x, foldedSetIterable iter X.env x = pure x) (ρ : Rho) :
    PS X (.Assign [.Name y py] (.ListComp elt [⟨tg, iter, ifs, 0⟩] scope pos) spos) (tAsg (fun σ H Q => ∃ hid, rdP X.K c hid .n (compF m gi g p f) ρ σ H Q) (gName i)) := by
  intro pins s σ H E I hq
  obtain ⟨hid, sr, d, hd, q⟩ := hq
  obtain ⟨ds, ys, e1, hz, hc, rfl⟩ := compF_some hd
  rw [exec_Assign_Name_used _ _ _ _ hsw]
  refine wpAny_bind (wpAny_standAt (wpAny_bind ?_))
  show wpAny _ X.A (do let _ ← comprehension (.ListComp elt [⟨tg, iter, ifs, 0⟩] scope pos) scope X.env _ (newList []) false (eval iter X.env) (some (assign (.Name y py) X.env))) _ _ s
  refine wpAny_bind (wpAny_mono (wpAny_comprehension_free (use := some (assign (.Name y py) X.env)) (Q := fun _ s' => SP X pins E .next s') rfl hset (closureFor_clo fun x hx => I.ok.has x (okS_free hs x hx)) hk (okS_local hs) ?_) (fun _ s' hq => wpAny_pure (wpAny_pure hq)) fun _ _ e => e)
  refine thn (hi hid ρ pins s σ H (fun J H' => Same H H' ∧ ItB X.K H' (vw H' hid) J ds) I ⟨sr, ds, e1, fun J H' s1 io => ⟨s1, io⟩⟩) fun v s1 h1 => thn h1 fun itv s2 h2 => ?_
  obtain ⟨it, fp, tn, J, H2, rfl, I2, T, st2, f2, sm, io⟩ := h2
  refine comp_block (RR := fun acc C => compPost (model X.prog X.w) X.A X.xe (some (assign (.Name y py) X.env)) (fun _ s' => SP X pins E .next s') acc C) hcalm hk hs hn hm hT hg hp he I2 (sr.ext sm) T st2 f2 io hz hc ?_
  intro D C s' H' xs hDge hCge hDC hD sm' hx rp ⟨mm, hns⟩ hC' hos hbare hok hun
  have I3 : Inv X pins σ H' s' := I2.call' (ch := fp) hos hun hok hbare fun b hb => ⟨(f2 b hb).2.2.2.1, (f2 b hb).2.1, (f2 b hb).2.2.2.2.1, (f2 b hb).2.2.2.2.2⟩
  have fin := q _ H' (sm.trans sm') ⟨D, xs, ys, rfl, rfl, sm.free hD, hx, rp⟩
  have ltC : ∀ b o, s2.heap.get? b = some o → b ≠ C := fun b o e z => by subst z; exact absurd (Heap.lt_size e) (Nat.not_lt.mpr hCge)
  have hLC : C ≠ X.env.locals := fun z => by
    have := I2.lt
    rw [← z] at this
    exact absurd this (Nat.not_lt.mpr hCge)
  show wpAny _ X.A (assign (.Name y py) X.env (.ref D)) _ _ s'
  refine wpAny_assign_Name (store_ok2 (v := .ref D) I3 hN hyi (.inl hy) rfl (fun s'' I4 hb => ?_) (.inr hy))
  obtain ⟨a, hsb, ha⟩ := hb
  have hCa : C ≠ a := by
    rcases ha with rfl | ha
    · exact hLC
    · obtain ⟨w', o, ho, _⟩ := I2.cell y a ha
      exact fun z => ltC a o ho z.symm
  refine ⟨mm, hns.sameBut hsb hCa, fun h3 hs3 => ⟨_, H', ?_, fin⟩⟩
  refine I4.turned (t' := s''.toks) (it := C) (fun b o nb e => (hs3.2 b nb).trans e) hC' hLC (.inr (Nat.le_trans I2.sz hCge)) (fun x c' e z => ?_) (fun q hq z => ?_)
  · obtain ⟨w', o, ho, _⟩ := I2.cell x c' e
    exact ltC c' o ho z
  · exact ltC q.1 q.2 (I2.pin q hq).1 z
theorem ds_ownC (i : Nat) {k : Kd} (hcalm : X.calm = true) (hN : X.N.Nodup) (hT : Tail X.N.length g) (hi : DIb X c tg iter gi)
    (hg : ∀ C s₀ H₀ ex, DGt (compCx X N' scope C s₀ H₀ ex) c tg g) (hp : ∀ C s₀ H₀ ex, DIf (compCx X N' scope C s₀ H₀ ex) c ifs p) (he : ∀ C s₀ H₀ ex, DP (compCx X N' scope C s₀ H₀ ex) c .s elt f)
    (hsw : swapsWith (.ListComp elt [⟨tg, iter, ifs, 0⟩] scope pos) (some (.Name y py)) spos.line X.env = pure true := by rfl) (hyi : X.N[i]? = some y := by rfl) (hy : X.env.scope.names.lookup y = some .local := by rfl)
    (hk : scope.kind = .function := by rfl) (hs : okS scope X.env.scope = true := by kernel_rfl) (hn : okN X.N N' scope = true := by kernel_rfl) (hm : N'.length - X.N.length = m := by rfl) (hset : ∀ x, foldedSetIterable iter X.env x = pure x := by intro _; rfl) :
    DS X c k (.Assign [.Name y py] (.ListComp elt [⟨tg, iter, ifs, 0⟩] scope pos) spos) (ownF i (compF m gi g p f)) := fun ρ => PS.imp (ps_comp i hcalm hN hT hi hg hp he hsw hyi hy hk hs hn hm hset ρ) fun D σ H ⟨hid, sr, q⟩ => by
  unfold ownF at q
  cases e1 : compF m gi g p f ρ with
  | none => rw [e1] at q; exact q.elim
  | some z =>
    rw [e1] at q
    exact ⟨hid, sr, z, e1, fun v H' s r => own_ (sr.post s r (by decide)) q⟩
theorem ds_setC (i : Nat) {k : Kd} (hcalm : X.calm = true) (hN : X.N.Nodup) (hT : Tail X.N.length g) (hi : DIb X c tg iter gi)
    (hg : ∀ C s₀ H₀ ex, DGt (compCx X N' scope C s₀ H₀ ex) c tg g) (hp : ∀ C s₀ H₀ ex, DIf (compCx X N' scope C s₀ H₀ ex) c ifs p) (he : ∀ C s₀ H₀ ex, DP (compCx X N' scope C s₀ H₀ ex) c .s elt f)
    (hsw : swapsWith (.ListComp elt [⟨tg, iter, ifs, 0⟩] scope pos) (some (.Name y py)) spos.line X.env = pure true := by rfl) (hyi : X.N[i]? = some y := by rfl) (hy : X.env.scope.names.lookup y = some .local := by rfl)
    (hk : scope.kind = .function := by rfl) (hs : okS scope X.env.scope = true := by kernel_rfl) (hn : okN X.N N' scope = true := by kernel_rfl) (hm : N'.length - X.N.length = m := by rfl) (hset : ∀ x, foldedSetIterable iter X.env x = pure x := by intro _; rfl) :
    DS X c k (.Assign [.Name y py] (.ListComp elt [⟨tg, iter, ifs, 0⟩] scope pos) spos) (setF i (compF m gi g p f)) := fun ρ => PS.imp (ps_comp i hcalm hN hT hi hg hp he hsw hyi hy hk hs hn hm hset ρ) fun D σ H ⟨hid, sr, q⟩ => by
  unfold setF at q
  cases e1 : compF m gi g p f ρ with
  | none => rw [e1] at q; exact q.elim
  | some z =>
    rw [e1] at q
    exact ⟨hid, sr, z, e1, fun v H' s r => q _ H' hid ((sr.ext s).setV (RN.rep r fun a n => sr.fresh n) i) (vw_same s)⟩
end
end L2
set_option Elab.async false
set_option linter.all false
set_option maxRecDepth 100000
namespace L2
open PySem PySem.Spec PyProof.Rows

/-! ### == by data -/
mutual
def eqD : D → D → Bool
  | .non, .non => true
  | .bl a, .bl b => a == b
  | .bl a, .int b => (if a then 1 else 0) == b
  | .int a, .bl b => a == (if b then 1 else 0)
  | .int a, .int b => a == b
  | .str a, .str b => a == b
  | .tup a, .tup b => eqDs a b
  | .lst a, .lst b => eqDs a b
  | .lst a, .scr b => eqDs a b
  | .scr a, .lst b => eqDs a b
  | .scr a, .scr b => eqDs a b
  | _, _ => false
def eqDs : List D → List D → Bool
  | [], [] => true
  | x :: xs, y :: ys => eqD x y && eqDs xs ys
  | _, _ => false
end
mutual
def dep : D → Nat
  | .tup a => deps a + 1
  | .lst a => deps a + 1
  | .scr _ => cLine
  | _ => 0
def deps : List D → Nat
  | [] => 0
  | x :: xs => max (dep x) (deps xs)
end
theorem deps_get : ∀ {xs : List D} {i : Nat} {d : D}, xs[i]? = some d → dep d ≤ deps xs
  | [], _, _, h => by simp at h
  | x :: xs, 0, d, h => by simp at h; subst h; unfold deps; exact Nat.le_max_left _ _
  | x :: xs, i + 1, d, h => by
    have := deps_get (xs := xs) (i := i) (d := d) (by simpa using h)
    unfold deps
    exact Nat.le_trans this (Nat.le_max_right _ _)
mutual
theorem eqD_refl : ∀ x : D, eqD x x = true
  | .non => by unfold eqD; rfl
  | .bl a => by unfold eqD; simp
  | .int a => by unfold eqD; simp
  | .str a => by unfold eqD; simp
  | .tup a => by unfold eqD; exact eqDs_refl a
  | .lst a => by unfold eqD; exact eqDs_refl a
  | .scr a => by unfold eqD; exact eqDs_refl a
theorem eqDs_refl : ∀ x : List D, eqDs x x = true
  | [] => by unfold eqDs; rfl
  | x :: xs => by unfold eqDs; rw [eqD_refl x, eqDs_refl xs]; rfl
end
def eqAtI (xs ys : List D) (j : Nat) : Bool := match xs[j]?, ys[j]? with
  | some x, some y => eqD x y
  | _, _ => false
theorem range_all {xs ys : List D} (h : xs.length = ys.length) : (List.range xs.length).all (eqAtI xs ys) = eqDs xs ys := by
  induction xs generalizing ys with
  | nil =>
    cases ys with
    | nil => unfold eqDs; rfl
    | cons y ys => simp at h
  | cons x xs ih =>
    cases ys with
    | nil => simp at h
    | cons y ys =>
      rw [List.length_cons, List.range_succ_eq_map, List.all_cons, List.all_map]
      have e0 : eqAtI (x :: xs) (y :: ys) 0 = eqD x y := rfl
      have e1 : ((eqAtI (x :: xs) (y :: ys)) ∘ Nat.succ) = eqAtI xs ys := by funext j; simp [eqAtI]
      rw [e0, e1, ih (by simpa using h)]
      conv => rhs; unfold eqDs
theorem eqDs_len : ∀ {xs ys : List D}, xs.length ≠ ys.length → eqDs xs ys = false
  | [], [], h => absurd rfl h
  | [], _ :: _, _ => by unfold eqDs; rfl
  | _ :: _, [], _ => by unfold eqDs; rfl
  | x :: xs, y :: ys, h => by unfold eqDs; rw [eqDs_len (xs := xs) (ys := ys) (by simpa using h)]; simp
section
variable {X : Cx} {pins : List (Addr × Obj)} {σ : St} {H : Hp} {s : Shared}
theorem list_tuple_no (I : Inv X pins σ H s) {a : Addr} {xs ys : List V} (h : SqL X.K H a xs) (h' : SqT X.K H a ys) : False := by
  obtain ⟨its, _, pl, _⟩ := I.list h
  obtain ⟨its', _, pt, _⟩ := I.tuple h'
  exact SeqAt.ne_of_list_tuple pl.isList pt rfl
theorem eqz {a b : List D} (h : ∀ zs, eqDs a zs = eqDs b zs) : (∀ z, eqD (.tup a) z = eqD (.tup b) z) ∧ (∀ z, eqD (.lst a) z = eqD (.lst b) z) ∧ ∀ z, eqD (.scr a) z = eqD (.lst b) z := by
  refine ⟨fun z => ?_, fun z => ?_, fun z => ?_⟩ <;> cases z <;> unfold eqD <;> first | exact h _ | rfl
theorem eqz2 {b : List D} : ∀ z, eqD (.scr b) z = eqD (.lst b) z := (eqz fun _ => rfl).2.2
mutual
theorem Rep.eqv (I : Inv X pins σ H s) : ∀ {v : V} {x y : D}, Rep X.K H v x → Rep X.K H v y → ∀ z, eqD x z = eqD y z
  | _, _, _, .non, .non => fun _ => rfl
  | _, _, _, .bl, .bl => fun _ => rfl
  | _, _, _, .int, .int => fun _ => rfl
  | _, _, _, .str, .str => fun _ => rfl
  | _, _, _, .tup h r, .tup h' r' => by rw [I.tuple_inj h h'] at r; exact (eqz (Reps.eqv I r r')).1
  | _, _, _, .lst h r, .lst h' r' => by rw [I.list_inj (SqL.of h) (SqL.of h')] at r; exact (eqz (Reps.eqv I r r')).2.1
  | _, _, _, .lst h r, .scr h' r' => by rw [I.list_inj (SqL.of h) h'.seq] at r; exact fun z => ((eqz (Reps.eqv I r r')).2.1 z).trans (eqz2 z).symm
  | _, _, _, .scr h r, .lst h' r' => by rw [I.list_inj h.seq (SqL.of h')] at r; exact (eqz (Reps.eqv I r r')).2.2
  | _, _, _, .scr h r, .scr h' r' => by rw [I.list_inj h.seq h'.seq] at r; exact fun z => ((eqz (Reps.eqv I r r')).2.2 z).trans (eqz2 z).symm
  | _, _, _, .tup h r, .lst h' r' => (list_tuple_no I (SqL.of h') h).elim
  | _, _, _, .lst h r, .tup h' r' => (list_tuple_no I (SqL.of h) h').elim
  | _, _, _, .tup h r, .scr h' r' => (list_tuple_no I h'.seq h).elim
  | _, _, _, .scr h r, .tup h' r' => (list_tuple_no I h.seq h').elim
theorem Reps.eqv (I : Inv X pins σ H s) : ∀ {v : List V} {x y : List D}, Reps X.K H v x → Reps X.K H v y → ∀ z, eqDs x z = eqDs y z
  | _, _, _, .nil, .nil => fun _ => rfl
  | _, _, _, .cons r t, .cons r' t' => fun z => by
    cases z with
    | nil => unfold eqDs; rfl
    | cons w ws => unfold eqDs; rw [Rep.eqv I r r' w, Reps.eqv I t t' ws]
end
theorem repList (I : Inv X pins σ H s) {a : Addr} {xs : List V} {ds : List D} (h : SqL X.K H a xs) (r : Reps X.K H xs ds) : ∃ its : List Value, s.heap.IsList a its.toArray ∧ its.length = ds.length ∧ ∀ (j : Nat) (hj : j < its.length), ∃ (v : V) (d : D), ds[j]? = some d ∧ RelV v its[j] ∧ Rep X.K H v d := by
  obtain ⟨its, rv, pl, _⟩ := I.list h
  have h1 := rv.length
  have h2 := r.length
  refine ⟨its, pl.isList, by omega, fun j hj => ?_⟩
  have e : xs[j]? = some xs[j] := List.getElem?_eq_getElem (by omega)
  obtain ⟨u, e1, r1⟩ := rv.get e
  obtain ⟨d, e2, r2⟩ := r.get' e
  have : its[j] = u := by rw [List.getElem?_eq_getElem hj] at e1; exact Option.some.inj e1
  rw [this]
  exact ⟨xs[j], d, e2, r1, r2⟩
theorem repTup (I : Inv X pins σ H s) {a : Addr} {xs : List V} {ds : List D} (h : SqT X.K H a xs) (r : Reps X.K H xs ds) : ∃ its : List Value, s.heap.IsTuple a its.toArray ∧ its.length = ds.length ∧ ∀ (j : Nat) (hj : j < its.length), ∃ (v : V) (d : D), ds[j]? = some d ∧ RelV v its[j] ∧ Rep X.K H v d := by
  obtain ⟨its, rv, pl, _⟩ := I.tuple h
  have h1 := rv.length
  have h2 := r.length
  refine ⟨its, pl, by omega, fun j hj => ?_⟩
  have e : xs[j]? = some xs[j] := List.getElem?_eq_getElem (by omega)
  obtain ⟨u, e1, r1⟩ := rv.get e
  obtain ⟨d, e2, r2⟩ := r.get' e
  have : its[j] = u := by rw [List.getElem?_eq_getElem hj] at e1; exact Option.some.inj e1
  rw [this]
  exact ⟨xs[j], d, e2, r1, r2⟩
end
section
variable {X : Cx} {pins : List (Addr × Obj)} {σ : St} {H : Hp} {s : Shared}
theorem in1_units (A : Around) : A.in1.units = A.units + 1 := rfl
/-- the items' answers -/
theorem els_D {A : Around} {n : Nat} (IH : ∀ {x y : D} {v u : V} {a b : Value} {A : Around}, dep x < n → A.units + dep x < cLine → RelV v a → RelV u b → Rep X.K H v x → Rep X.K H u y → SeqAt.EqAt A s a b (eqD x y)) {xs ys : List D} {its its2 : List Value} (hd : deps xs < n) (hu : A.units + deps xs < cLine)
    (g1 : ∀ (j : Nat) (hj : j < its.length), ∃ (v : V) (d : D), xs[j]? = some d ∧ RelV v its[j] ∧ Rep X.K H v d) (g2 : ∀ (j : Nat) (hj : j < its2.length), ∃ (v : V) (d : D), ys[j]? = some d ∧ RelV v its2[j] ∧ Rep X.K H v d) :
    ∀ j (h1 : j < its.toArray.size) (h2 : j < its2.toArray.size), SeqAt.EqAt A s its.toArray[j] its2.toArray[j] (eqAtI xs ys j) := fun j h1 h2 => by
  obtain ⟨v, d, e1, r1, p1⟩ := g1 j (by simpa using h1)
  obtain ⟨u, d', e2, r2, p2⟩ := g2 j (by simpa using h2)
  have ez : eqAtI xs ys j = eqD d d' := by unfold eqAtI; rw [e1, e2]
  rw [ez]
  have hdd := deps_get e1
  exact IH (by omega) (by omega) (by simpa using r1) (by simpa using r2) p1 p2
theorem lists_D (I : Inv X pins σ H s) {A : Around} {n : Nat} (IH : ∀ {x y : D} {v u : V} {a b : Value} {A : Around}, dep x < n → A.units + dep x < cLine → RelV v a → RelV u b → Rep X.K H v x → Rep X.K H u y → SeqAt.EqAt A s a b (eqD x y)) {xs ys : List D} {zs ws : List V} {a b : Addr} (hd : deps xs < n) (hu : A.units + (deps xs + 1) < cLine)
    (h1 : SqL X.K H a zs) (r1 : Reps X.K H zs xs) (h2 : SqL X.K H b ws) (r2 : Reps X.K H ws ys) : SeqAt.RcAt A s (.ref a) (.ref b) (eqDs xs ys) ∧ SeqAt.RcNeAt A s (.ref a) (.ref b) (!eqDs xs ys) := by
  obtain ⟨its, l1, n1, g1⟩ := repList I h1 r1
  obtain ⟨its2, l2, n2, g2⟩ := repList I h2 r2
  by_cases e : xs.length = ys.length
  · have hsz : its.toArray.size = its2.toArray.size := by simp; omega
    have he := els_D (A := A.in1) IH hd (by rw [in1_units]; omega) g1 g2
    have ea : (List.range its.toArray.size).all (eqAtI xs ys) = eqDs xs ys := by rw [List.size_toArray, n1]; exact range_all e
    rw [← ea]
    exact ⟨SeqAt.RcAt.lists l1 l2 hsz (by omega) he, SeqAt.RcNeAt.lists l1 l2 hsz (by omega) he⟩
  · rw [eqDs_len e]
    have hsz : (its.toArray.size != its2.toArray.size) = true := by simp; omega
    exact ⟨SeqAt.RcAt.lists_lengths l1 l2 hsz (by omega), SeqAt.RcNeAt.lists_lengths l1 l2 hsz (by omega)⟩
theorem tups_D (I : Inv X pins σ H s) {A : Around} {n : Nat} (IH : ∀ {x y : D} {v u : V} {a b : Value} {A : Around}, dep x < n → A.units + dep x < cLine → RelV v a → RelV u b → Rep X.K H v x → Rep X.K H u y → SeqAt.EqAt A s a b (eqD x y)) {xs ys : List D} {zs ws : List V} {a b : Addr} (hd : deps xs < n) (hu : A.units + (deps xs + 1) < cLine)
    (h1 : SqT X.K H a zs) (r1 : Reps X.K H zs xs) (h2 : SqT X.K H b ws) (r2 : Reps X.K H ws ys) : SeqAt.RcAt A s (.ref a) (.ref b) (eqDs xs ys) ∧ SeqAt.RcNeAt A s (.ref a) (.ref b) (!eqDs xs ys) := by
  obtain ⟨its, l1, n1, g1⟩ := repTup I h1 r1
  obtain ⟨its2, l2, n2, g2⟩ := repTup I h2 r2
  have he := els_D (A := A.in1) IH hd (by rw [in1_units]; omega) g1 g2
  have ea : ((List.range (min its.toArray.size its2.toArray.size)).all (eqAtI xs ys) && its.toArray.size == its2.toArray.size) = eqDs xs ys := by
    rw [List.size_toArray, List.size_toArray, n1, n2]
    by_cases e : xs.length = ys.length
    · rw [← e, Nat.min_self, range_all e]; simp
    · rw [eqDs_len e]; simp [e]
  rw [← ea]
  exact ⟨SeqAt.RcAt.tuples l1 l2 (by omega) he, SeqAt.RcNeAt.tuples l1 l2 (by omega) he⟩
theorem eqAt_same (I : Inv X pins σ H s) {A : Around} {a b : Addr} {x y : D} (r1 : Rep X.K H (.ref a) x) (r2 : Rep X.K H (.ref b) y) (e : a = b) : SeqAt.EqAt A s (.ref a) (.ref b) (eqD x y) := by
  subst e
  rw [Rep.eqv I r1 r2, eqD_refl]
  exact SeqAt.EqAt.same _
theorem eqAt_n (I : Inv X pins σ H s) {n : Nat} (IH : ∀ {x y : D} {v u : V} {a b : Value} {A : Around}, dep x < n → A.units + dep x < cLine → RelV v a → RelV u b → Rep X.K H v x → Rep X.K H u y → SeqAt.EqAt A s a b (eqD x y)) {x y : D} {v u : V} {a b : Value} {A : Around} (hd : dep x < n + 1) (hu : A.units + dep x < cLine) (hc : A.units < cLine)
    (ra : RelV v a) (rb : RelV u b) (px : Rep X.K H v x) (py : Rep X.K H u y) : SeqAt.EqAt A s a b (eqD x y) := by
  unfold eqD
  cases px with
  | non =>
    cases ra
    cases py with
    | non =>
      cases rb
      exact SeqAt.EqAt.same _
    | bl =>
      cases rb
      exact SeqAt.EqAt.none_bool _
    | int =>
      obtain ⟨t2, rfl⟩ := rb
      exact SeqAt.EqAt.none_int _ _
    | str =>
      obtain ⟨t2, rfl⟩ := rb
      exact SeqAt.EqAt.none_str _ _
    | @tup a2 _ _ h2 r2 =>
      cases rb
      obtain ⟨its2, l2, _⟩ := repTup I h2 r2
      exact SeqAt.EqAt.none_tuple l2 (by omega)
    | @lst a2 _ _ h2 r2 =>
      cases rb
      obtain ⟨its2, l2, _⟩ := repList I (SqL.of h2) r2
      exact SeqAt.EqAt.none_list l2 (by omega)
    | @scr a2 _ _ h2 r2 =>
      cases rb
      obtain ⟨its2, l2, _⟩ := repList I h2.seq r2
      exact SeqAt.EqAt.none_list l2 (by omega)
  | bl =>
    cases ra
    cases py with
    | non =>
      cases rb
      exact SeqAt.EqAt.bool_none _
    | bl =>
      cases rb
      exact SeqAt.EqAt.bool_bool _ _
    | int =>
      obtain ⟨t2, rfl⟩ := rb
      exact SeqAt.EqAt.bool_int _ _ _
    | str =>
      obtain ⟨t2, rfl⟩ := rb
      exact SeqAt.EqAt.bool_str _ _ _
    | @tup a2 _ _ h2 r2 =>
      cases rb
      obtain ⟨its2, l2, _⟩ := repTup I h2 r2
      exact SeqAt.EqAt.bool_tuple _ l2 (by omega)
    | @lst a2 _ _ h2 r2 =>
      cases rb
      obtain ⟨its2, l2, _⟩ := repList I (SqL.of h2) r2
      exact SeqAt.EqAt.bool_list _ l2 (by omega)
    | @scr a2 _ _ h2 r2 =>
      cases rb
      obtain ⟨its2, l2, _⟩ := repList I h2.seq r2
      exact SeqAt.EqAt.bool_list _ l2 (by omega)
  | int =>
    obtain ⟨t1, rfl⟩ := ra
    cases py with
    | non =>
      cases rb
      exact SeqAt.EqAt.int_none _ _
    | bl =>
      cases rb
      exact SeqAt.EqAt.int_bool _ _ _
    | int =>
      obtain ⟨t2, rfl⟩ := rb
      exact SeqAt.EqAt.int_int _ _ _ _
    | str =>
      obtain ⟨t2, rfl⟩ := rb
      exact SeqAt.EqAt.int_str _ _ _ _
    | @tup a2 _ _ h2 r2 =>
      cases rb
      obtain ⟨its2, l2, _⟩ := repTup I h2 r2
      exact SeqAt.EqAt.int_tuple _ _ l2 (by omega)
    | @lst a2 _ _ h2 r2 =>
      cases rb
      obtain ⟨its2, l2, _⟩ := repList I (SqL.of h2) r2
      exact SeqAt.EqAt.int_list _ _ l2 (by omega)
    | @scr a2 _ _ h2 r2 =>
      cases rb
      obtain ⟨its2, l2, _⟩ := repList I h2.seq r2
      exact SeqAt.EqAt.int_list _ _ l2 (by omega)
  | str =>
    obtain ⟨t1, rfl⟩ := ra
    cases py with
    | non =>
      cases rb
      exact SeqAt.EqAt.str_none _ _
    | bl =>
      cases rb
      exact SeqAt.EqAt.str_bool _ _ _
    | int =>
      obtain ⟨t2, rfl⟩ := rb
      exact SeqAt.EqAt.str_int _ _ _ _
    | str =>
      obtain ⟨t2, rfl⟩ := rb
      exact SeqAt.EqAt.str_str _ _ _ _
    | @tup a2 _ _ h2 r2 =>
      cases rb
      obtain ⟨its2, l2, _⟩ := repTup I h2 r2
      exact SeqAt.EqAt.str_tuple _ _ l2 (by omega)
    | @lst a2 _ _ h2 r2 =>
      cases rb
      obtain ⟨its2, l2, _⟩ := repList I (SqL.of h2) r2
      exact SeqAt.EqAt.str_list _ _ l2 (by omega)
    | @scr a2 _ _ h2 r2 =>
      cases rb
      obtain ⟨its2, l2, _⟩ := repList I h2.seq r2
      exact SeqAt.EqAt.str_list _ _ l2 (by omega)
  | @tup a1 _ _ h1 r1 =>
    cases ra
    obtain ⟨its, l1, _⟩ := repTup I h1 r1
    cases py with
    | non =>
      cases rb
      exact SeqAt.EqAt.tuple_none l1 (by omega)
    | bl =>
      cases rb
      exact SeqAt.EqAt.tuple_bool _ l1 (by omega)
    | int =>
      obtain ⟨t2, rfl⟩ := rb
      exact SeqAt.EqAt.tuple_int _ _ l1 (by omega)
    | str =>
      obtain ⟨t2, rfl⟩ := rb
      exact SeqAt.EqAt.tuple_str _ _ l1 (by omega)
    | @tup a2 _ _ h2 r2 =>
      cases rb
      obtain ⟨its2, l2, _⟩ := repTup I h2 r2
      by_cases e : a1 = a2
      · exact (eqAt_same I (.tup h1 r1) (.tup h2 r2) e)
      · exact SeqAt.EqAt.of_refs e (tups_D I IH (by unfold dep at hd; omega) (by unfold dep at hu; omega) h1 r1 h2 r2).1
    | @lst a2 _ _ h2 r2 =>
      cases rb
      obtain ⟨its2, l2, _⟩ := repList I (SqL.of h2) r2
      exact SeqAt.EqAt.tuple_list l1 l2 (by omega)
    | @scr a2 _ _ h2 r2 =>
      cases rb
      obtain ⟨its2, l2, _⟩ := repList I h2.seq r2
      exact SeqAt.EqAt.tuple_list l1 l2 (by omega)
  | @scr a1 _ _ h1 r1 => exact absurd hu (by unfold dep; omega)
  | @lst a1 _ _ h1 r1 =>
    cases ra
    obtain ⟨its, l1, _⟩ := repList I (SqL.of h1) r1
    cases py with
    | non =>
      cases rb
      exact SeqAt.EqAt.list_none l1 (by omega)
    | bl =>
      cases rb
      exact SeqAt.EqAt.list_bool _ l1 (by omega)
    | int =>
      obtain ⟨t2, rfl⟩ := rb
      exact SeqAt.EqAt.list_int _ _ l1 (by omega)
    | str =>
      obtain ⟨t2, rfl⟩ := rb
      exact SeqAt.EqAt.list_str _ _ l1 (by omega)
    | @tup a2 _ _ h2 r2 =>
      cases rb
      obtain ⟨its2, l2, _⟩ := repTup I h2 r2
      exact SeqAt.EqAt.list_tuple l1 l2 (by omega)
    | @lst a2 _ _ h2 r2 =>
      cases rb
      obtain ⟨its2, l2, _⟩ := repList I (SqL.of h2) r2
      by_cases e : a1 = a2
      · exact (eqAt_same I (.lst h1 r1) (.lst h2 r2) e)
      · exact SeqAt.EqAt.of_refs e (lists_D I IH (by unfold dep at hd; omega) (by unfold dep at hu; omega) (SqL.of h1) r1 (SqL.of h2) r2).1
    | @scr a2 _ _ h2 r2 =>
      cases rb
      obtain ⟨its2, l2, _⟩ := repList I h2.seq r2
      by_cases e : a1 = a2
      · exact (eqAt_same I (.lst h1 r1) (.scr h2 r2) e)
      · exact SeqAt.EqAt.of_refs e (lists_D I IH (by unfold dep at hd; omega) (by unfold dep at hu; omega) (SqL.of h1) r1 h2.seq r2).1
theorem eqAt_D (I : Inv X pins σ H s) : ∀ (n : Nat) {x y : D} {v u : V} {a b : Value} {A : Around}, dep x < n → A.units + dep x < cLine → RelV v a → RelV u b → Rep X.K H v x → Rep X.K H u y → SeqAt.EqAt A s a b (eqD x y)
  | 0, x, y, v, u, a, b, A, hd, hu, ra, rb, px, py => absurd hd (Nat.not_lt_zero _)
  | n + 1, x, y, v, u, a, b, A, hd, hu, ra, rb, px, py => eqAt_n I (fun h1 h2 h3 h4 h5 h6 => eqAt_D I n h1 h2 h3 h4 h5 h6) hd hu (by omega) ra rb px py
theorem rcAt_D (I : Inv X pins σ H s) {x y : D} {v u : V} {a b : Value} {A : Around} (hu : A.units + dep x < cLine) (hc : A.units < cLine) (ra : RelV v a) (rb : RelV u b) (px : Rep X.K H v x) (py : Rep X.K H u y) : SeqAt.RcAt A s a b (eqD x y) := by
  have IH := fun {x y : D} {v u : V} {a b : Value} {A : Around} (n : Nat) => @eqAt_D X pins σ H s I n x y v u a b A
  have IH : ∀ {n : Nat} {x y : D} {v u : V} {a b : Value} {A : Around}, dep x < n → A.units + dep x < cLine → RelV v a → RelV u b → Rep X.K H v x → Rep X.K H u y → SeqAt.EqAt A s a b (eqD x y) := fun {n x y v u a b A} => eqAt_D I n
  unfold eqD
  cases px with
  | non =>
    cases ra
    cases py with
    | non =>
      cases rb
      exact SeqAt.RcAt.none_none
    | bl =>
      cases rb
      exact SeqAt.RcAt.none_bool _
    | int =>
      obtain ⟨t2, rfl⟩ := rb
      exact SeqAt.RcAt.none_int _ _
    | str =>
      obtain ⟨t2, rfl⟩ := rb
      exact SeqAt.RcAt.none_str _ _
    | @tup a2 _ _ h2 r2 =>
      cases rb
      obtain ⟨its2, l2, _⟩ := repTup I h2 r2
      exact SeqAt.RcAt.none_tuple  l2 (by omega)
    | @lst a2 _ _ h2 r2 =>
      cases rb
      obtain ⟨its2, l2, _⟩ := repList I (SqL.of h2) r2
      exact SeqAt.RcAt.none_list  l2 (by omega)
    | @scr a2 _ _ h2 r2 =>
      cases rb
      obtain ⟨its2, l2, _⟩ := repList I h2.seq r2
      exact SeqAt.RcAt.none_list  l2 (by omega)
  | bl =>
    cases ra
    cases py with
    | non =>
      cases rb
      exact SeqAt.RcAt.bool_none _
    | bl =>
      cases rb
      exact SeqAt.RcAt.bool_bool _ _
    | int =>
      obtain ⟨t2, rfl⟩ := rb
      exact SeqAt.RcAt.bool_int _ _ _
    | str =>
      obtain ⟨t2, rfl⟩ := rb
      exact SeqAt.RcAt.bool_str _ _ _
    | @tup a2 _ _ h2 r2 =>
      cases rb
      obtain ⟨its2, l2, _⟩ := repTup I h2 r2
      exact SeqAt.RcAt.bool_tuple _ l2 (by omega)
    | @lst a2 _ _ h2 r2 =>
      cases rb
      obtain ⟨its2, l2, _⟩ := repList I (SqL.of h2) r2
      exact SeqAt.RcAt.bool_list _ l2 (by omega)
    | @scr a2 _ _ h2 r2 =>
      cases rb
      obtain ⟨its2, l2, _⟩ := repList I h2.seq r2
      exact SeqAt.RcAt.bool_list _ l2 (by omega)
  | int =>
    obtain ⟨t1, rfl⟩ := ra
    cases py with
    | non =>
      cases rb
      exact SeqAt.RcAt.int_none _ _
    | bl =>
      cases rb
      exact SeqAt.RcAt.int_bool _ _ _
    | int =>
      obtain ⟨t2, rfl⟩ := rb
      exact SeqAt.RcAt.int_int _ _ _ _
    | str =>
      obtain ⟨t2, rfl⟩ := rb
      exact SeqAt.RcAt.int_str _ _ _ _
    | @tup a2 _ _ h2 r2 =>
      cases rb
      obtain ⟨its2, l2, _⟩ := repTup I h2 r2
      exact SeqAt.RcAt.int_tuple _ _ l2 (by omega)
    | @lst a2 _ _ h2 r2 =>
      cases rb
      obtain ⟨its2, l2, _⟩ := repList I (SqL.of h2) r2
      exact SeqAt.RcAt.int_list _ _ l2 (by omega)
    | @scr a2 _ _ h2 r2 =>
      cases rb
      obtain ⟨its2, l2, _⟩ := repList I h2.seq r2
      exact SeqAt.RcAt.int_list _ _ l2 (by omega)
  | str =>
    obtain ⟨t1, rfl⟩ := ra
    cases py with
    | non =>
      cases rb
      exact SeqAt.RcAt.str_none _ _
    | bl =>
      cases rb
      exact SeqAt.RcAt.str_bool _ _ _
    | int =>
      obtain ⟨t2, rfl⟩ := rb
      exact SeqAt.RcAt.str_int _ _ _ _
    | str =>
      obtain ⟨t2, rfl⟩ := rb
      exact SeqAt.RcAt.str_str _ _ _ _
    | @tup a2 _ _ h2 r2 =>
      cases rb
      obtain ⟨its2, l2, _⟩ := repTup I h2 r2
      exact SeqAt.RcAt.str_tuple _ _ l2 (by omega)
    | @lst a2 _ _ h2 r2 =>
      cases rb
      obtain ⟨its2, l2, _⟩ := repList I (SqL.of h2) r2
      exact SeqAt.RcAt.str_list _ _ l2 (by omega)
    | @scr a2 _ _ h2 r2 =>
      cases rb
      obtain ⟨its2, l2, _⟩ := repList I h2.seq r2
      exact SeqAt.RcAt.str_list _ _ l2 (by omega)
  | @tup a1 _ _ h1 r1 =>
    cases ra
    obtain ⟨its, l1, _⟩ := repTup I h1 r1
    cases py with
    | non =>
      cases rb
      exact SeqAt.RcAt.tuple_none  l1 (by omega)
    | bl =>
      cases rb
      exact SeqAt.RcAt.tuple_bool _ l1 (by omega)
    | int =>
      obtain ⟨t2, rfl⟩ := rb
      exact SeqAt.RcAt.tuple_int _ _ l1 (by omega)
    | str =>
      obtain ⟨t2, rfl⟩ := rb
      exact SeqAt.RcAt.tuple_str _ _ l1 (by omega)
    | @tup a2 _ _ h2 r2 =>
      cases rb
      obtain ⟨its2, l2, _⟩ := repTup I h2 r2
      exact (tups_D I IH (Nat.lt_succ_self _) (by unfold dep at hu; omega) h1 r1 h2 r2).1
    | @lst a2 _ _ h2 r2 =>
      cases rb
      obtain ⟨its2, l2, _⟩ := repList I (SqL.of h2) r2
      exact SeqAt.RcAt.tuple_list l1 l2 (by omega)
    | @scr a2 _ _ h2 r2 =>
      cases rb
      obtain ⟨its2, l2, _⟩ := repList I h2.seq r2
      exact SeqAt.RcAt.tuple_list l1 l2 (by omega)
  | @scr a1 _ _ h1 r1 => exact absurd hu (by unfold dep; omega)
  | @lst a1 _ _ h1 r1 =>
    cases ra
    obtain ⟨its, l1, _⟩ := repList I (SqL.of h1) r1
    cases py with
    | non =>
      cases rb
      exact SeqAt.RcAt.list_none  l1 (by omega)
    | bl =>
      cases rb
      exact SeqAt.RcAt.list_bool _ l1 (by omega)
    | int =>
      obtain ⟨t2, rfl⟩ := rb
      exact SeqAt.RcAt.list_int _ _ l1 (by omega)
    | str =>
      obtain ⟨t2, rfl⟩ := rb
      exact SeqAt.RcAt.list_str _ _ l1 (by omega)
    | @tup a2 _ _ h2 r2 =>
      cases rb
      obtain ⟨its2, l2, _⟩ := repTup I h2 r2
      exact SeqAt.RcAt.list_tuple l1 l2 (by omega)
    | @lst a2 _ _ h2 r2 =>
      cases rb
      obtain ⟨its2, l2, _⟩ := repList I (SqL.of h2) r2
      exact (lists_D I IH (Nat.lt_succ_self _) (by unfold dep at hu; omega) (SqL.of h1) r1 (SqL.of h2) r2).1
    | @scr a2 _ _ h2 r2 =>
      cases rb
      obtain ⟨its2, l2, _⟩ := repList I h2.seq r2
      exact (lists_D I IH (Nat.lt_succ_self _) (by unfold dep at hu; omega) (SqL.of h1) r1 h2.seq r2).1
theorem rcNeAt_D (I : Inv X pins σ H s) {x y : D} {v u : V} {a b : Value} {A : Around} (hu : A.units + dep x < cLine) (hc : A.units < cLine) (ra : RelV v a) (rb : RelV u b) (px : Rep X.K H v x) (py : Rep X.K H u y) : SeqAt.RcNeAt A s a b (!eqD x y) := by
  have IH : ∀ {n : Nat} {x y : D} {v u : V} {a b : Value} {A : Around}, dep x < n → A.units + dep x < cLine → RelV v a → RelV u b → Rep X.K H v x → Rep X.K H u y → SeqAt.EqAt A s a b (eqD x y) := fun {n x y v u a b A} => eqAt_D I n
  unfold eqD
  cases px with
  | non =>
    cases ra
    cases py with
    | non =>
      cases rb
      exact SeqAt.RcNeAt.none_none
    | bl =>
      cases rb
      exact SeqAt.RcNeAt.none_bool _
    | int =>
      obtain ⟨t2, rfl⟩ := rb
      exact SeqAt.RcNeAt.none_int _ _
    | str =>
      obtain ⟨t2, rfl⟩ := rb
      exact SeqAt.RcNeAt.none_str _ _
    | @tup a2 _ _ h2 r2 =>
      cases rb
      obtain ⟨its2, l2, _⟩ := repTup I h2 r2
      exact SeqAt.RcNeAt.none_tuple  l2 (by omega)
    | @lst a2 _ _ h2 r2 =>
      cases rb
      obtain ⟨its2, l2, _⟩ := repList I (SqL.of h2) r2
      exact SeqAt.RcNeAt.none_list  l2 (by omega)
    | @scr a2 _ _ h2 r2 =>
      cases rb
      obtain ⟨its2, l2, _⟩ := repList I h2.seq r2
      exact SeqAt.RcNeAt.none_list  l2 (by omega)
  | bl =>
    cases ra
    cases py with
    | non =>
      cases rb
      exact SeqAt.RcNeAt.bool_none _
    | bl =>
      cases rb
      exact SeqAt.RcNeAt.bool_bool _ _
    | int =>
      obtain ⟨t2, rfl⟩ := rb
      exact SeqAt.RcNeAt.bool_int _ _ _
    | str =>
      obtain ⟨t2, rfl⟩ := rb
      exact SeqAt.RcNeAt.bool_str _ _ _
    | @tup a2 _ _ h2 r2 =>
      cases rb
      obtain ⟨its2, l2, _⟩ := repTup I h2 r2
      exact SeqAt.RcNeAt.bool_tuple _ l2 (by omega)
    | @lst a2 _ _ h2 r2 =>
      cases rb
      obtain ⟨its2, l2, _⟩ := repList I (SqL.of h2) r2
      exact SeqAt.RcNeAt.bool_list _ l2 (by omega)
    | @scr a2 _ _ h2 r2 =>
      cases rb
      obtain ⟨its2, l2, _⟩ := repList I h2.seq r2
      exact SeqAt.RcNeAt.bool_list _ l2 (by omega)
  | int =>
    obtain ⟨t1, rfl⟩ := ra
    cases py with
    | non =>
      cases rb
      exact SeqAt.RcNeAt.int_none _ _
    | bl =>
      cases rb
      exact SeqAt.RcNeAt.int_bool _ _ _
    | int =>
      obtain ⟨t2, rfl⟩ := rb
      exact SeqAt.RcNeAt.int_int _ _ _ _
    | str =>
      obtain ⟨t2, rfl⟩ := rb
      exact SeqAt.RcNeAt.int_str _ _ _ _
    | @tup a2 _ _ h2 r2 =>
      cases rb
      obtain ⟨its2, l2, _⟩ := repTup I h2 r2
      exact SeqAt.RcNeAt.int_tuple _ _ l2 (by omega)
    | @lst a2 _ _ h2 r2 =>
      cases rb
      obtain ⟨its2, l2, _⟩ := repList I (SqL.of h2) r2
      exact SeqAt.RcNeAt.int_list _ _ l2 (by omega)
    | @scr a2 _ _ h2 r2 =>
      cases rb
      obtain ⟨its2, l2, _⟩ := repList I h2.seq r2
      exact SeqAt.RcNeAt.int_list _ _ l2 (by omega)
  | str =>
    obtain ⟨t1, rfl⟩ := ra
    cases py with
    | non =>
      cases rb
      exact SeqAt.RcNeAt.str_none _ _
    | bl =>
      cases rb
      exact SeqAt.RcNeAt.str_bool _ _ _
    | int =>
      obtain ⟨t2, rfl⟩ := rb
      exact SeqAt.RcNeAt.str_int _ _ _ _
    | str =>
      obtain ⟨t2, rfl⟩ := rb
      exact SeqAt.RcNeAt.str_str _ _ _ _
    | @tup a2 _ _ h2 r2 =>
      cases rb
      obtain ⟨its2, l2, _⟩ := repTup I h2 r2
      exact SeqAt.RcNeAt.str_tuple _ _ l2 (by omega)
    | @lst a2 _ _ h2 r2 =>
      cases rb
      obtain ⟨its2, l2, _⟩ := repList I (SqL.of h2) r2
      exact SeqAt.RcNeAt.str_list _ _ l2 (by omega)
    | @scr a2 _ _ h2 r2 =>
      cases rb
      obtain ⟨its2, l2, _⟩ := repList I h2.seq r2
      exact SeqAt.RcNeAt.str_list _ _ l2 (by omega)
  | @tup a1 _ _ h1 r1 =>
    cases ra
    obtain ⟨its, l1, _⟩ := repTup I h1 r1
    cases py with
    | non =>
      cases rb
      exact SeqAt.RcNeAt.tuple_none  l1 (by omega)
    | bl =>
      cases rb
      exact SeqAt.RcNeAt.tuple_bool _ l1 (by omega)
    | int =>
      obtain ⟨t2, rfl⟩ := rb
      exact SeqAt.RcNeAt.tuple_int _ _ l1 (by omega)
    | str =>
      obtain ⟨t2, rfl⟩ := rb
      exact SeqAt.RcNeAt.tuple_str _ _ l1 (by omega)
    | @tup a2 _ _ h2 r2 =>
      cases rb
      obtain ⟨its2, l2, _⟩ := repTup I h2 r2
      exact (tups_D I IH (Nat.lt_succ_self _) (by unfold dep at hu; omega) h1 r1 h2 r2).2
    | @lst a2 _ _ h2 r2 =>
      cases rb
      obtain ⟨its2, l2, _⟩ := repList I (SqL.of h2) r2
      exact SeqAt.RcNeAt.tuple_list l1 l2 (by omega)
    | @scr a2 _ _ h2 r2 =>
      cases rb
      obtain ⟨its2, l2, _⟩ := repList I h2.seq r2
      exact SeqAt.RcNeAt.tuple_list l1 l2 (by omega)
  | @scr a1 _ _ h1 r1 => exact absurd hu (by unfold dep; omega)
  | @lst a1 _ _ h1 r1 =>
    cases ra
    obtain ⟨its, l1, _⟩ := repList I (SqL.of h1) r1
    cases py with
    | non =>
      cases rb
      exact SeqAt.RcNeAt.list_none  l1 (by omega)
    | bl =>
      cases rb
      exact SeqAt.RcNeAt.list_bool _ l1 (by omega)
    | int =>
      obtain ⟨t2, rfl⟩ := rb
      exact SeqAt.RcNeAt.list_int _ _ l1 (by omega)
    | str =>
      obtain ⟨t2, rfl⟩ := rb
      exact SeqAt.RcNeAt.list_str _ _ l1 (by omega)
    | @tup a2 _ _ h2 r2 =>
      cases rb
      obtain ⟨its2, l2, _⟩ := repTup I h2 r2
      exact SeqAt.RcNeAt.list_tuple l1 l2 (by omega)
    | @lst a2 _ _ h2 r2 =>
      cases rb
      obtain ⟨its2, l2, _⟩ := repList I (SqL.of h2) r2
      exact (lists_D I IH (Nat.lt_succ_self _) (by unfold dep at hu; omega) (SqL.of h1) r1 (SqL.of h2) r2).2
    | @scr a2 _ _ h2 r2 =>
      cases rb
      obtain ⟨its2, l2, _⟩ := repList I h2.seq r2
      exact (lists_D I IH (Nat.lt_succ_self _) (by unfold dep at hu; omega) (SqL.of h1) r1 h2.seq r2).2
end
/-! as rules of two values -/
theorem Rep1.full {K : PySem.W.Frag} {H : Hp} {hid : Hid} {v : V} {d : D} (h : Rep1 K H (vw H hid) v d) : Rep K H v d := by
  rcases h with h | ⟨a, xs, ds, rfl, rfl, h1, h2⟩
  · exact h.mono (vw_le _ _)
  · exact .lst h1 (h2.mono (vw_le _ _))
def rEqD (K : PySem.W.Frag) : R2 := fun v u H Q => ∃ x y, Rep K H v x ∧ Rep K H u y ∧ dep x ≤ 32 ∧ Q (.bl (eqD x y)) H
def rNeD (K : PySem.W.Frag) : R2 := fun v u H Q => ∃ x y, Rep K H v x ∧ Rep K H u y ∧ dep x ≤ 32 ∧ Q (.bl (!eqD x y)) H
theorem op_eqD {X : Cx} (hu : X.A.units + 64 < cLine) : OpR X (compareOp .Eq) (rEqD X.K) := by
  intro pins s σ H x y v u Q I rx ry h
  obtain ⟨dx, dy, p1, p2, hd, q⟩ := h
  exact rcAt_D I (by omega) (by omega) rx ry p1 p2 X.prog X.w _ _ ⟨.bl _, H, I, rfl, q⟩
theorem op_neD {X : Cx} (hu : X.A.units + 64 < cLine) : OpR X (compareOp .NotEq) (rNeD X.K) := by
  intro pins s σ H x y v u Q I rx ry h
  obtain ⟨dx, dy, p1, p2, hd, q⟩ := h
  exact rcNeAt_D I (by omega) (by omega) rx ry p1 p2 X.prog X.w _ _ ⟨.bl _, H, I, rfl, q⟩
def eqF : D → D → Option D := fun x y => if dep x ≤ 32 then some (.bl (eqD x y)) else none
def neF : D → D → Option D := fun x y => if dep x ≤ 32 then some (.bl (!eqD x y)) else none
theorem od_eq {K : PySem.W.Frag} : OpD K .s (rEqD K) eqF := by
  intro H hid v u x y d Q hf h r1 r2 q
  unfold eqF at h
  split at h
  · cases h; exact ⟨x, y, r1.full, r2.full, ‹_›, q _ H (Same.refl _) .bl⟩
  · cases h
theorem od_ne {K : PySem.W.Frag} : OpD K .s (rNeD K) neF := by
  intro H hid v u x y d Q hf h r1 r2 q
  unfold neF at h
  split at h
  · cases h; exact ⟨x, y, r1.full, r2.full, ‹_›, q _ H (Same.refl _) .bl⟩
  · cases h
/-! in, not in -/
theorem mem_any {X : Cx} {pins : List (Addr × Obj)} {σ : St} {H : Hp} {s : Shared} (I : Inv X pins σ H s) {x : D} {v : V} {a : Value} {A : Around} (hx : Rep X.K H v x) (ra : RelV v a) : ∀ {ds : List D} {xs : List V} {its : List Value}, Reps X.K H xs ds → Vals xs its → A.units + deps ds < cLine →
    ∃ e : Value → Bool, (∀ y, y ∈ its → SeqAt.EqAt A s y a (e y)) ∧ its.any e = ds.any (fun d => eqD d x) := by
  intro ds xs its r rv hu
  classical
  -- the answer of an item hangs on its datum alone, which its value tells
  let e : Value → Bool := fun y => if h : ∃ (d : D) (u : V), RelV u y ∧ Rep X.K H u d then eqD h.choose x else false
  have key : ∀ y u d, RelV u y → Rep X.K H u d → e y = eqD d x := fun y u d h1 h2 => by
    have hex : ∃ (d : D) (u : V), RelV u y ∧ Rep X.K H u d := ⟨d, u, h1, h2⟩
    show (if h : ∃ (d : D) (u : V), RelV u y ∧ Rep X.K H u d then eqD h.choose x else false) = eqD d x
    rw [dif_pos hex]
    obtain ⟨u', s1, s2⟩ := hex.choose_spec
    have eu : u' = u := s1.inj h1
    rw [eu] at s2
    exact Rep.eqv I s2 h2 x
  refine ⟨e, ?_, ?_⟩
  · induction rv generalizing ds with
    | nil => intro y hy; cases hy
    | cons r1 t ih =>
      cases r with
      | cons p1 pt =>
        rename_i d ds
        intro y hy
        have hm : dep d ≤ deps (d :: ds) := deps_get (i := 0) rfl
        have hm2 : deps ds ≤ deps (d :: ds) := by conv => rhs; unfold deps
                                                  exact Nat.le_max_right _ _
        rcases List.mem_cons.mp hy with rfl | hy
        · rw [key _ _ _ r1 p1]
          exact eqAt_D I (dep d + 1) (Nat.lt_succ_self _) (by omega) r1 ra p1 hx
        · exact ih pt (by omega) y hy
  · induction rv generalizing ds with
    | nil => cases r; rfl
    | cons r1 t ih =>
      cases r with
      | cons p1 pt =>
        rename_i d ds
        have hm2 : deps ds ≤ deps (d :: ds) := by conv => rhs; unfold deps
                                                  exact Nat.le_max_right _ _
        rw [List.any_cons, List.any_cons, key _ _ _ r1 p1, ih pt (by omega)]
def rInD (K : PySem.W.Frag) (neg : Bool) : R2 := fun v u H Q => ∃ x ds a xs, Rep K H v x ∧ u = .ref a ∧ (SqL K H a xs ∨ SqT K H a xs) ∧ Reps K H xs ds ∧ deps ds ≤ 32 ∧ Q (.bl (if neg then !ds.any (fun d => eqD d x) else ds.any fun d => eqD d x)) H
theorem op_inD {X : Cx} (hu : X.A.units + 64 < cLine) : OpR X (compareOp .In) (rInD X.K false) := by
  intro pins s σ H v w a b Q I rx ry h
  obtain ⟨x, ds, p, xs, hx, rfl, hq, r, hd, q⟩ := h
  cases ry
  rcases hq with hq | hq
  · obtain ⟨its, rv, pl, hz⟩ := I.list hq
    obtain ⟨e, h1, h2⟩ := mem_any (A := X.A.in1) I hx rx r rv (by rw [in1_units]; omega)
    refine SeqAt.in_listAt e pl.isList (fun y hy => h1 y (by simpa using hy)) ⟨.bl _, H, I, rfl, ?_⟩
    rw [show its.toArray.any e = its.any e by simp, h2]
    exact q
  · obtain ⟨its, rv, pl, hz⟩ := I.tuple hq
    obtain ⟨e, h1, h2⟩ := mem_any (A := X.A.in1) I hx rx r rv (by rw [in1_units]; omega)
    refine SeqAt.in_tupleAt e pl (fun y hy => h1 y (by simpa using hy)) ⟨.bl _, H, I, rfl, ?_⟩
    rw [show its.toArray.any e = its.any e by simp, h2]
    exact q
def itemsD : D → Option (List D)
  | .lst ds => some ds
  | .tup ds => some ds
  | _ => none
def inF (neg : Bool) : D → D → Option D := fun x y => match itemsD y with
  | some ds => if deps ds ≤ 32 then some (.bl (if neg then !ds.any (fun d => eqD d x) else ds.any fun d => eqD d x)) else none
  | none => none
theorem od_in {K : PySem.W.Frag} (neg : Bool) : OpD K .s (rInD K neg) (inF neg) := by
  intro H hid v u x y d Q hf h r1 r2 q
  unfold inF at h
  split at h
  · split at h
    · rename_i ds e _
      cases h
      cases y with
      | lst zs =>
        cases e
        obtain ⟨a, xs, rfl, h1, h2⟩ := r2.lst
        exact ⟨x, _, a, xs, r1.full, rfl, .inl h1, h2.mono (vw_le _ _), ‹_›, q _ H (Same.refl _) .bl⟩
      | tup zs =>
        cases e
        obtain ⟨a, xs, rfl, _, h1, h2⟩ := r2.tup
        exact ⟨x, _, a, xs, r1.full, rfl, .inr h1, h2.mono (vw_le _ _), ‹_›, q _ H (Same.refl _) .bl⟩
      | _ => cases e
    · cases h
  · cases h
end L2
set_option Elab.async false
set_option linter.all false
set_option maxRecDepth 100000
namespace L2
open PySem PySem.Spec PyProof.Rows

/-! ### isinstance with a built-in type -/
def isT (T : String) : D → Bool
  | .non => T == "NoneType"
  | .bl _ => T == "bool" || T == "int"
  | .int _ => T == "int"
  | .str _ => T == "str"
  | .tup _ => T == "tuple"
  | .lst _ => T == "list"
  | .scr _ => T == "list"
structure KT (T : String) : Prop where
  n : ∀ K, PySem.W.kitOne K (.type "NoneType") (.type T) = some (T == "NoneType")
  b : ∀ K, PySem.W.kitOne K (.type "bool") (.type T) = some (T == "bool" || T == "int")
  i : ∀ K, PySem.W.kitOne K (.type "int") (.type T) = some (T == "int")
  s : ∀ K, PySem.W.kitOne K (.type "str") (.type T) = some (T == "str")
  t : ∀ K, PySem.W.kitOne K (.type "tuple") (.type T) = some (T == "tuple")
  l : ∀ K, PySem.W.kitOne K (.type "list") (.type T) = some (T == "list")
theorem kt_tuple : KT "tuple" := ⟨fun _ => by kernel_rfl, fun _ => by kernel_rfl, fun _ => by kernel_rfl, fun _ => by kernel_rfl, fun _ => by kernel_rfl, fun _ => by kernel_rfl⟩
section
variable {X : Cx} {c : Ct} {e o : Expr} {k : Kd} {f g : FE} {pos p p2 : Pos}
theorem call_isi {T : String} (kt : KT T) : CallR X (.builtin "isinstance") (fun xs H Q => ∃ v d, xs = [v, .ty T] ∧ Rep X.K H v d ∧ Q (.bl (isT T d)) H) := by
  intro pins s σ H xs us Q I r h
  obtain ⟨v, d, rfl, rp, q⟩ := h
  obtain ⟨u, w', rfl, rx, ry⟩ := vals2 r
  cases ry
  have fin : ∀ tk, EP X pins σ Q (.bool (isT T d)) { s with toks := tk } := fun tk => ⟨.bl _, H, I.tok _, rfl, q⟩
  cases rp with
  | non => cases rx; exact PySem.W.kia_one PySem.W.kitx_none I.kIn True.intro (kt.n _) (fun z => nomatch z) fin
  | bl => cases rx; exact PySem.W.kia_one PySem.W.kitx_bool I.kIn True.intro (kt.b _) (fun z => nomatch z) fin
  | int => obtain ⟨t, rfl⟩ := rx; exact PySem.W.kia_one PySem.W.kitx_int I.kIn True.intro (kt.i _) (fun z => nomatch z) fin
  | str => obtain ⟨t, rfl⟩ := rx; exact PySem.W.kia_one PySem.W.kitx_str I.kIn True.intro (kt.s _) (fun z => nomatch z) fin
  | tup h1 h2 =>
    cases rx
    obtain ⟨⟨ob, ho, hc⟩, _⟩ := I.tupleN h1
    exact PySem.W.kia_one PySem.W.kitx_tuple I.kIn ⟨ob, ho, hc⟩ (kt.t _) (fun z => nomatch z) fin
  | lst h1 h2 =>
    cases rx
    obtain ⟨its, _, ⟨ob, n, ho, hc, _⟩, _⟩ := I.list (SqL.of h1)
    exact PySem.W.kia_one PySem.W.kitx_list I.kIn ⟨ob, ho, hc⟩ (kt.l _) (fun z => nomatch z) fin
  | scr h1 h2 =>
    cases rx
    obtain ⟨its, _, ⟨ob, n, ho, hc, _⟩, _⟩ := I.list h1.seq
    exact PySem.W.kia_one PySem.W.kitx_list I.kIn ⟨ob, ho, hc⟩ (kt.l _) (fun z => nomatch z) fin
def isiF (T : String) (f : FE) : FE := fun ρ => (f ρ).map fun d => .bl (isT T d)
theorem dp_isi (T : String) {y : Str} (kt : KT T) (he : DP X c k e f) (hm : X.mg "isinstance" = none) (hmT : X.mg y = none) (hg : Gl X "isinstance" := by rfl) (hgT : Gl X y := by rfl) (hv : bootBuiltins "isinstance" = some (.builtin "isinstance") := by kernel_rfl) (hvT : bootBuiltins y = some (.type T) := by kernel_rfl) (hn : y ≠ "__name__" := by decide) (hd : (y == ("__debug__" : Str)) = false := by decide)
    (hs1 : starEach [e, .Name y p2] X.env = (false, eval e X.env) :: starEach [.Name y p2] X.env := by rfl) (hs2 : starEach [.Name y p2] X.env = (false, eval (.Name y p2) X.env) :: starEach [] X.env := by rfl) (hpl : (backTo pos (starEach [.Name y p2] X.env)).any (·.1) = false := by rfl) :
    DP X c .s (.Call (.Name "isinstance" p) [e, .Name y p2] [] pos) (isiF T f) := fun hid ρ =>
  PE.imp (pe_callB (call_isi kt) hg hm hv (pa_cons (he hid ρ) (pa_cons (pe_bltn (v := .ty T) hgT hmT hvT rfl hn hd) pa_nil hs2) hs1) (by decide) (by decide) hs1 hpl) fun σ H Q ⟨sr, d, hd, q⟩ => by
    unfold isiF at hd
    cases e1 : f ρ with
    | none => rw [e1] at hd; cases hd
    | some z =>
      rw [e1] at hd; cases hd
      exact ⟨sr, z, e1, fun v H' s' r => ⟨v, z, rfl, (RK.b k r fun a n => sr.fresh n).full, q _ H' s' .bl⟩⟩

/-! ### any, all of bools -/
/-! ### min, max, sum of ints -/
end
end L2
set_option Elab.async false
set_option linter.all false
set_option maxRecDepth 100000
namespace PySem.SeqAt
open AutoSeq1 (wpAny_loadPart')
open MeetsSeq MeetsSeq2 MeetsSeq3 SeqRoads2
theorem wpAny_forIn_rng {M : Model} {A : Around} {E : Value → Shared → Prop} {s : Shared} {β : Type} (f : Nat → β → Sem (ForInStep β)) (I : List Nat → β → Shared → Prop) (Q : β → Shared → Prop)
    (turn : ∀ x rest b s, I (x :: rest) b s → wpAny M A (f x b) (fun r s' => match r with | .yield b' => I rest b' s' | .done b' => Q b' s') E s)
    (fin : ∀ b s, I [] b s → Q b s) (a b : Nat) (c : β) (h : I (List.range' a (b - a)) c s) : wpAny M A (forIn [a:b] c f) Q E s := by
  rw [Std.Legacy.Range.forIn_eq_forIn_range']
  have hsz : ([a:b] : Std.Legacy.Range).size = b - a := by simp [Std.Legacy.Range.size]
  show wpAny M A (forIn (List.range' a ([a:b] : Std.Legacy.Range).size 1) c f) Q E s
  rw [hsz]
  exact wpAny_forIn_list f I Q turn fin _ c h
theorem tuple_indexAt (l : Addr) (items : Array Value) (n : Nat) (dd : Option Addr) (sl : Array (Option Value)) (x : Value) (e : Value → Bool) (j : Nat) (hj : j < items.size) (hit : e items[j] = true) (hno : ∀ m (hm : m < items.size), m < j → e items[m] = false) :
    Meets (Builtin.«tuple.index» ⟨[.ref l, x], []⟩)
      (fun A R s => s.heap.get? l = some { cls := .type "tuple", dict := dd, data := .seq items n, slots := sl } ∧ (∀ y, y ∈ items → EqAt A.in1 s y x (e y)) ∧ R (.ok (.ret (.int j s.toks))) { s with toks := s.toks + 1 }) :=
  .of_wp fun prog w A R s h => by
    obtain ⟨hp, g, d, tk, os⟩ := s; obtain ⟨hl, he, h⟩ := h
    wp_walk using wpAny_loadPart' hl, wpAny_forIn_rng _ (fun rest b s' => b.1 = none ∧ s' = ⟨hp, g, d, tk, os⟩ ∧ ∃ i, i ≤ j ∧ rest = List.range' i (items.size - i)) _
    case turn =>
      rintro y rest b s' ⟨hb, rfl, i, hij, hz⟩
      have lt : i < items.size := by omega
      have er : List.range' i (items.size - i) = i :: List.range' (i + 1) (items.size - (i + 1)) := by
        rw [show items.size - i = (items.size - (i + 1)) + 1 by omega]; rfl
      rw [er] at hz
      injection hz with e1 e2
      subst e1 e2
      rw [show items[y]? = some items[y] by simp [lt]]
      refine wpAny_bind (he _ (Array.getElem_mem lt) prog w _ _ ?_)
      by_cases ej : y = j
      · subst ej
        rw [hit]
        wp_walk
        exact ⟨_, rfl, h⟩
      · rw [hno y lt (by omega)]
        wp_walk
        exact ⟨rfl, rfl, y + 1, by omega, rfl⟩
    case fin =>
      rintro ⟨b1, b2⟩ s' ⟨hb, rfl, i, hij, hz⟩
      have := congrArg List.length hz
      simp at this
      omega
    case h =>
      exact ⟨rfl, rfl, 0, Nat.zero_le _, by simp⟩
end PySem.SeqAt
namespace L2
open PySem PySem.Spec PyProof.Rows
/-! ### index -/
def idxD (ds : List D) (x : D) : Option Nat := ds.findIdx? fun d => eqD d x
theorem idx_any {X : Cx} {pins : List (Addr × Obj)} {σ : St} {H : Hp} {s : Shared} (I : Inv X pins σ H s) {x : D} {v : V} {a : Value} {A : Around} (hx : Rep X.K H v x) (ra : RelV v a) : ∀ {ds : List D} {xs : List V} {its : List Value}, Reps X.K H xs ds → Vals xs its → A.units + deps ds < cLine →
    ∃ e : Value → Bool, (∀ y, y ∈ its → SeqAt.EqAt A s y a (e y)) ∧ ∀ (j : Nat) (hj : j < its.length) (d : D), ds[j]? = some d → e its[j] = eqD d x := by
  intro ds xs its r rv hu
  classical
  let e : Value → Bool := fun y => if h : ∃ (d : D) (u : V), RelV u y ∧ Rep X.K H u d then eqD h.choose x else false
  have key : ∀ y u d, RelV u y → Rep X.K H u d → e y = eqD d x := fun y u d h1 h2 => by
    have hex : ∃ (d : D) (u : V), RelV u y ∧ Rep X.K H u d := ⟨d, u, h1, h2⟩
    show (if h : ∃ (d : D) (u : V), RelV u y ∧ Rep X.K H u d then eqD h.choose x else false) = eqD d x
    rw [dif_pos hex]
    obtain ⟨u', s1, s2⟩ := hex.choose_spec
    have eu : u' = u := s1.inj h1
    rw [eu] at s2
    exact Rep.eqv I s2 h2 x
  have l1 := rv.length
  have l2 := r.length
  have at' : ∀ (j : Nat) (hj : j < its.length), ∃ u d, ds[j]? = some d ∧ RelV u its[j] ∧ Rep X.K H u d := fun j hj => by
    have ex : xs[j]? = some xs[j] := List.getElem?_eq_getElem (by omega)
    obtain ⟨w, e1, r1⟩ := rv.get ex
    obtain ⟨d, e2, r2⟩ := r.get' ex
    have : its[j] = w := by rw [List.getElem?_eq_getElem hj] at e1; exact Option.some.inj e1
    rw [this]
    exact ⟨_, d, e2, r1, r2⟩
  refine ⟨e, fun y hy => ?_, fun j hj d hd => ?_⟩
  · obtain ⟨j, hj, rfl⟩ := List.mem_iff_getElem.mp hy
    obtain ⟨u, d, e1, r1, r2⟩ := at' j hj
    rw [key _ _ _ r1 r2]
    have := deps_get e1
    exact eqAt_D I (dep d + 1) (Nat.lt_succ_self _) (by omega) r1 ra r2 hx
  · obtain ⟨u, d', e1, r1, r2⟩ := at' j hj
    rw [hd] at e1; cases e1
    exact key _ _ _ r1 r2
section
variable {X : Cx} {c : Ct} {e o : Expr} {k k2 : Kd} {f g : FE} {pos p p2 apos : Pos}
theorem mt_tupIndex (hu : X.A.units + 64 < cLine) : MtR X "tuple.index" (fun v vs H Q => ∃ a xs ds x y j, v = .ref a ∧ vs = [x] ∧ SqT X.K H a xs ∧ Reps X.K H xs ds ∧ Rep X.K H x y ∧ deps ds ≤ 32 ∧ idxD ds y = some j ∧ Q (.int j) H) := by
  intro pins s σ H v vs u us Q I rv rs h
  obtain ⟨a, xs, ds, x, y, j, rfl, rfl, h1, h2, h3, h4, h5, q⟩ := h
  cases rv
  obtain ⟨w, rfl, rw'⟩ := vals1 rs
  obtain ⟨its, r, pl, hz⟩ := I.tuple h1
  have l1 := r.length
  have l2 := h2.length
  obtain ⟨e, g1, g2⟩ := idx_any (A := X.A.in1.in1) I h3 rw' h2 r (by rw [in1_units, in1_units]; omega)
  unfold idxD at h5
  rw [List.findIdx?_eq_some_iff_getElem] at h5
  obtain ⟨hj, hp, hno⟩ := h5
  obtain ⟨⟨cls, dd, data, sl⟩, ho, hc, n, hd⟩ := id pl
  simp only at hc hd
  subst hc hd
  have hj' : j < its.length := by omega
  have gt : ∀ m (hm : m < its.length) (hm2 : m < ds.length), e its[m] = eqD ds[m] y := fun m hm hm2 => g2 m hm _ (List.getElem?_eq_getElem hm2)
  refine call_meets PySem.F.slot_tuple_index ⟨_, ho, rfl⟩ PySem.F.entry_tuple_index (PySem.F.args_tuple_index_2 _ _) (SeqAt.tuple_indexAt a its.toArray n dd sl w e j (by simpa using hj') ?_ ?_) ⟨ho, ?_, ?_⟩
  · simp only [List.getElem_toArray]; rw [gt j hj' hj]; exact hp
  · intro m hm hmj
    simp only [List.getElem_toArray]
    rw [gt m (by simpa using hm) (by omega)]
    have := hno m hmj
    simpa using this
  · intro z hz'
    exact SeqAt.EqAt.of_in1 (g1 z (by simpa using hz'))
  · exact ⟨.int j, H, I.tok _, ⟨_, rfl⟩, q⟩
end
end L2
set_option Elab.async false
set_option linter.all false
set_option maxRecDepth 100000
namespace L2
open PySem PySem.Spec PyProof.Rows
section
variable {X : Cx} {c : Ct} {e o : Expr} {k k2 : Kd} {f g : FE} {pos p p2 apos : Pos}
/-- t.index(x) of a tuple -/
def tidxF : D → D → Option D := fun t x => match t with
  | .tup ds => if deps ds ≤ 32 then (idxD ds x).map fun j => .int j else none
  | _ => none
theorem dp_tupIndex (hu : X.A.units + 64 < cLine) (ho : DP X c k o f) (he : DP X c k2 e g)
    (hbase : attributeBase o "index" X.env (eval o X.env) = eval o X.env := by rfl)
    (hfew : ((backTo pos (starEach [e] X.env)).all (fun x => !x.1) && (backToKw pos (keywordEach [] X.env)).all (fun x => x.1.isSome)
      && decide (([e] : List Expr).length + ([] : List Keyword).length + (if ([] : List Keyword).isEmpty then 0 else 1) < 30)) = true := by rfl)
    (hline : (apos.endLine == pos.line) = true := by rfl) (hs : starEach [e] X.env = (false, eval e X.env) :: starEach [] X.env := by rfl) (hplain : (backTo pos (starEach [] X.env)).any (·.1) = false := by rfl) :
    DP X c .s (.Call (.Attribute o "index" apos) [e] [] pos) (op2 tidxF f g) := fun hid ρ =>
  PE.imp (pe_bm PySem.F.plainAttrs_tuple PySem.F.slot_tuple_index PySem.F.type_tuple_index (mt_tupIndex hu) (ho hid ρ) (pa_cons (he hid ρ) pa_nil hs) hbase hfew hline hs hplain) fun σ H Q ⟨sr, d, hd, q⟩ => by
    obtain ⟨x, y, e1, e2, e3⟩ := op2_some hd
    unfold tidxF at e3
    split at e3
    · split at e3
      · rename_i ds _
        cases e4 : idxD ds y with
        | none => rw [e4] at e3; cases e3
        | some j =>
          rw [e4] at e3; cases e3
          refine ⟨sr, _, e1, fun v H1 s1 r1 => ?_⟩
          have b1 := RK.b k r1 fun a n => sr.fresh n
          obtain ⟨a, xs, rfl, t1, t2, t3⟩ := b1.tup
          refine ⟨.inr (.inl ⟨rfl, xs, t2⟩), sr.ext s1, y, e2, fun u H2 s2 r2 => ?_⟩
          have b2 := RK.b k2 r2 fun a n => (sr.ext s1).fresh n
          exact ⟨a, xs, ds, u, y, j, rfl, rfl, Same.seqT s2 t2, (t3.mono (vw_same s2)).mono (vw_le _ _), b2.full, ‹_›, e4, q _ H2 (s1.trans s2) .int⟩
      · cases e3
    · cases e3
/-! ### list(range(..)) -/
theorem call_rng1 : CallR X (.type "range") (fun xs H Q => ∃ j : Int, xs = [.int j] ∧ ∀ p, H p = none → Q (.ref p) (upd H p (.rng 0 j))) := by
  intro pins s σ H xs us Q I r h
  obtain ⟨j, rfl, q⟩ := h
  obtain ⟨u, rfl, t, rfl⟩ := vals1 r
  refine call_range_1 ⟨.ref s.heap.objs.size, _, I.laid (fun b o e => Heap.get?_push_of_some _ e) (Nat.le_refl _) ?_, rfl, q _ (I.hok.fresh (Nat.le_refl _))⟩
  exact ⟨_, _, _, Heap.get?_push_size _ rfl⟩
theorem ups_V (lo : Int) (n : Nat) : ∀ {K : PySem.W.Frag} {F : Hp}, Reps K F ((List.range n).map fun (i : Nat) => V.int (lo + i)) (ups lo n) := by
  intro K F
  unfold ups
  generalize List.range n = l
  induction l with
  | nil => exact .nil
  | cons a l ih => exact .cons .int ih
theorem call_list_rng (hc : X.calm = true) : CallR X (.type "list") (fun xs H Q => ∃ p lo hi, xs = [.ref p] ∧ H p = some (.rng lo hi) ∧ -(2 ^ 30) ≤ lo ∧ lo ≤ 2 ^ 30 ∧ -(2 ^ 30) ≤ hi ∧ hi - lo ≤ 1000000 ∧ hi ≤ 2 ^ 31 ∧ ∀ l, H l = none → Q (.ref l) (upd H l (.lst ((List.range (hi - lo).toNat).map fun (i : Nat) => V.int (lo + i))))) := by
  intro pins s σ H xs us Q I r h
  obtain ⟨p, lo, hi, rfl, hp, b1, b2, b3, b4, b5, q⟩ := h
  obtain ⟨u, rfl, rx⟩ := vals1 r
  cases rx
  obtain ⟨t, u, v, hr⟩ := I.hok p _ hp
  have hsz : Builtin.Range.rangeSize lo hi 1 = (hi - lo).toNat := by
    unfold Builtin.Range.rangeSize
    rw [if_pos (by decide)]
    split
    · rw [Int.ediv_one]; omega
    · omega
  refine call_list_range (a := lo) (b := hi) (c := 1) (n := (hi - lo).toNat) (I.ok.hd hc) hr ?_ hsz (by omega) fun h' tk acc' c' kp hS hacc => ?_
  · exact small_one (by omega) (by omega) (by omega) (by omega)
  · have hz : (hi - lo).toNat ≤ sizeLine := by rw [sizeLine_eq]; omega
    refine ⟨.ref s.heap.objs.size, _, I.laid (t' := tk) kp (Nat.le_refl _) (show ObjOk X.prog X.w _ h' _ (.lst _) from ⟨by simpa using hz, acc'.toList, c', ?_, by simpa using hS⟩), rfl, q _ (I.hok.fresh (Nat.le_refl _))⟩
    obtain ⟨ha, hb⟩ := hacc
    have key : ∀ (l : List Value) (k m : Nat), l.length = m → (∀ (j : Nat) v, l[j]? = some v → ∃ t, v = .int (lo + ((k + j : Nat) : Int) * 1) t) → Vals ((List.range' k m).map fun (i : Nat) => V.int (lo + i)) l := by
      intro l
      induction l with
      | nil => intro k m hm _; subst hm; exact .nil
      | cons x l ih =>
        intro k m hm hv
        subst hm
        rw [List.length_cons, List.range'_succ]
        refine .cons ?_ (ih (k + 1) l.length rfl fun j v e => ?_)
        · obtain ⟨t, rfl⟩ := hv 0 x rfl
          exact ⟨t, by simp⟩
        · obtain ⟨t, rfl⟩ := hv (j + 1) v (by simpa using e)
          exact ⟨t, by congr 3; omega⟩
    have := key acc'.toList 0 (hi - lo).toNat (by simpa using ha) fun j v e => by
      have := hb j v (by simpa using e)
      simpa using this
    rw [List.range_eq_range']
    exact this
def lrF1 : D → Option D
  | .int j => if j.natAbs ≤ 1000000 then some (.lst (ups 0 j.toNat)) else none
  | _ => none
def lr1 (f : FE) : FE := fun ρ => (f ρ).bind lrF1
theorem dp_listRange1 (hc : X.calm = true) (hml : X.mg "list" = none) (hmr : X.mg "range" = none) (he : DP X c k e f) (hgl : Gl X "list" := by rfl) (hgr : Gl X "range" := by rfl) (hvl : bootBuiltins "list" = some (.type "list") := by kernel_rfl) (hvr : bootBuiltins "range" = some (.type "range") := by kernel_rfl)
    (hs1 : starEach [e] X.env = (false, eval e X.env) :: starEach [] X.env := by rfl) (hpl1 : (backTo pos (starEach [] X.env)).any (·.1) = false := by rfl) (hpl2 : (backTo p2 (starEach [] X.env)).any (·.1) = false := by rfl) {p3 : Pos}
    (hs2 : starEach [.Call (.Name "range" p3) [e] [] p2] X.env = (false, eval (.Call (.Name "range" p3) [e] [] p2) X.env) :: starEach [] X.env := by rfl) :
    DP X c .n (.Call (.Name "list" p) [.Call (.Name "range" p3) [e] [] p2] [] pos) (lr1 f) := fun hid ρ =>
  PE.imp (pe_callTy (call_list_rng hc) hgl hml hvl (pa_cons (pe_callTy call_rng1 hgr hmr hvr (pa_cons (he hid ρ) pa_nil hs1) (by decide) (by decide) hs1 hpl2) pa_nil hs2) (by decide) (by decide) hs2 hpl1) fun σ H Q ⟨sr, d, hd, q⟩ => by
    unfold lr1 at hd
    cases e1 : f ρ with
    | none => rw [e1] at hd; cases hd
    | some z =>
      rw [e1] at hd
      have hd : lrF1 z = some d := hd
      unfold lrF1 at hd
      split at hd
      · split at hd
        · rename_i _ j _ _
          cases hd
          refine ⟨sr, _, e1, fun v H1 s1 r1 => ?_⟩
          have b1 := (RK.b k r1 fun a n => sr.fresh n).int
          cases b1
          refine ⟨j, rfl, fun r hr => ?_⟩
          refine ⟨r, 0, j, rfl, upd_same, by omega, by omega, by omega, by omega, by omega, fun l hl => ?_⟩
          have s2 : Same H (upd H1 r (.rng 0 j)) := s1.trans (same_new hr _)
          refine q _ _ (s2.trans (same_new hl _)) ?_
          have := rn_new (hid := hid) (K := X.K) hl s2 (ups_V 0 (j - 0).toNat)
          rw [show (j - 0).toNat = j.toNat by omega] at this ⊢
          exact this
        · cases hd
      · cases hd
/-! ### arithmetic by data -/
def addF := i2 (fun _ _ => true) fun i j => .int (i + j)
def subF := i2 (fun _ _ => true) fun i j => .int (i - j)
def mulF := i2 (fun i j => decide (i.natAbs < 2 ^ 1000) && decide (j.natAbs < 2 ^ 1000)) fun i j => .int (i * j)
def modF := i2 (fun _ j => decide (0 < j)) fun i j => .int (i % j)
def fdivF := i2 (fun _ j => decide (0 < j) && decide (j.natAbs < 2 ^ 1000)) fun i j => .int (i / j)
def powF := i2 (fun i j => decide (0 ≤ j) && decide (j ≤ 1000000) && decide (i.natAbs < 2 ^ 64)) fun i j => .int (i ^ j.toNat)
def ltF := i2 (fun _ _ => true) fun i j => .bl (decide (i < j))
def leF := i2 (fun _ _ => true) fun i j => .bl (decide (i ≤ j))
def gtF := i2 (fun _ _ => true) fun i j => .bl (decide (j < i))
def geF := i2 (fun _ _ => true) fun i j => .bl (decide (j ≤ i))
theorem bits_of {i : Int} (h : i.natAbs < 2 ^ 1000) : Builtin.Int.intBits i ≤ 2 ^ 20 := by
  unfold Builtin.Int.intBits
  split
  · exact Nat.zero_le _
  · rename_i hz
    have h0 : i.natAbs ≠ 0 := by simp at hz; omega
    have := (Nat.log2_lt h0).mpr h
    omega
theorem op_mulB : OpR X (binaryOp .Mult) (rI IntMulOk fun i j => .int (i * j)) := opI fun _ _ _ _ _ _ _ hc q => mul_int q hc
variable {a b : Expr}
theorem dp_add {k1 k2 : Kd} (ha : DP X c k1 a f) (hb : DP X c k2 b g) : DP X c .s (.BinOp a .Add b pos) (op2 addF f g) := dp_op op_add od_I0 ha hb
theorem dp_sub {k1 k2 : Kd} (ha : DP X c k1 a f) (hb : DP X c k2 b g) : DP X c .s (.BinOp a .Sub b pos) (op2 subF f g) := dp_op op_sub od_I0 ha hb
theorem od_mul {K : PySem.W.Frag} : OpD K .s (rI IntMulOk fun i j => .int (i * j)) mulF := od_I fun i j h => by
  simp only [Bool.and_eq_true, decide_eq_true_eq] at h
  exact IntMulOk.of_bits (bits_of h.1) (bits_of h.2)
theorem dp_mul {k1 k2 : Kd} (ha : DP X c k1 a f) (hb : DP X c k2 b g) : DP X c .s (.BinOp a .Mult b pos) (op2 mulF f g) := dp_op op_mulB od_mul ha hb
theorem od_mod {K : PySem.W.Frag} : OpD K .s (rI (fun _ j => 0 < j) fun i j => .int (i % j)) modF := od_I fun i j h => by simpa using h
theorem dp_mod {k1 k2 : Kd} (ha : DP X c k1 a f) (hb : DP X c k2 b g) : DP X c .s (.BinOp a .Mod b pos) (op2 modF f g) := dp_op op_mod od_mod ha hb
theorem op_fdivB : OpR X (binaryOp .FloorDiv) (rI (fun _ j => 0 < j ∧ j.natAbs < 2 ^ 1000) fun i j => .int (i / j)) := opI fun i j _ _ _ _ _ hc q => by
  obtain ⟨h1, h2⟩ := hc
  refine floordiv_int (by omega) (by rw [Int.fdiv_eq_ediv_of_nonneg i (by omega)]; exact q) (.inl (PyProof.noPylong_of_log2 ?_))
  have := (Nat.log2_lt (n := j.natAbs) (by omega)).mpr h2
  omega
theorem od_fdiv {K : PySem.W.Frag} : OpD K .s (rI (fun _ j => 0 < j ∧ j.natAbs < 2 ^ 1000) fun i j => .int (i / j)) fdivF := od_I fun i j h => by
  simp only [Bool.and_eq_true, decide_eq_true_eq] at h
  exact ⟨h.1, h.2⟩
theorem dp_fdiv {k1 k2 : Kd} (ha : DP X c k1 a f) (hb : DP X c k2 b g) : DP X c .s (.BinOp a .FloorDiv b pos) (op2 fdivF f g) := dp_op op_fdivB od_fdiv ha hb
theorem od_pow {K : PySem.W.Frag} : OpD K .s (rI CPow fun i j => .int (i ^ j.toNat)) powF := od_I fun i j h => by
  simp only [Bool.and_eq_true, decide_eq_true_eq] at h
  exact ⟨h.1.1, h.1.2, h.2⟩
theorem dp_pow {k1 k2 : Kd} (ha : DP X c k1 a f) (hb : DP X c k2 b g) : DP X c .s (.BinOp a .Pow b pos) (op2 powF f g) := dp_op op_pow od_pow ha hb
theorem de_add {f g : GE} (ha : DE X c .s a f) (hb : DE X c .s b g) : DE X c .s (.BinOp a .Add b pos) (op2E addF f g) := de_op op_add od_I0 ha hb
theorem de_sub {f g : GE} (ha : DE X c .s a f) (hb : DE X c .s b g) : DE X c .s (.BinOp a .Sub b pos) (op2E subF f g) := de_op op_sub od_I0 ha hb
/-- int(b) of a bool, an int -/
def intF : List D → Option D
  | [.int i] => some (.int i)
  | [.bl b] => some (.int (if b then 1 else 0))
  | _ => none
theorem cd_int : CallD X.K .s (fun xs H Q => (∃ i, xs = [.int i] ∧ Q (.int i) H) ∨ ∃ k, xs = [.bl k] ∧ Q (.int (if k then 1 else 0)) H) intF := by
  intro H hid vs ds d Q hf h r q
  unfold intF at h
  split at h
  · cases h
    obtain ⟨x, rfl, r1⟩ := Reps1.one r
    cases r1.int
    exact .inl ⟨_, rfl, q _ H (Same.refl _) .int⟩
  · cases h
    obtain ⟨x, rfl, r1⟩ := Reps1.one r
    cases r1.bl
    exact .inr ⟨_, rfl, q _ H (Same.refl _) .int⟩
  · cases h
end
end L2
set_option Elab.async false
set_option linter.all false
set_option maxRecDepth 100000
namespace L2
open PySem PySem.Spec PyProof.Rows
/-- a def that keeps its promise, as callers need it -/
structure Cl (P : Program) (w : World) (K : PySem.W.Frag) (mg : Str → Option Value) (base : Heap) (k : Nat) (x : Str) (ps : List Str) (sp : Sp) : Prop where
  ex : ∃ f fd, FnOk P w K mg base CX0 k f fd ps sp ∧ mg x = some (.ref f) ∧ PySem.W.keepIn K (.ref f) = true ∧ Binds K fd ps []
/-- the def as the top has made it -/
structure Df (K : PySem.W.Frag) (mg : Str → Option Value) (x : Str) (st : Stmt) (ps : List Str) : Prop where
  ex : ∃ f fd, Fun K x x st f fd ∧ mg x = some (.ref f) ∧ Binds K fd ps []
section
variable {P : Program} {w : World} {K : PySem.W.Frag} {mg : Str → Option Value} {base : Heap} {x : Str} {st : Stmt} {N ps : List Str} {k n : Nat} {t : FS} {kd : Kd}
theorem cl_pure (F : Df K mg x st ps) (S : FnScope N ps (defScope st)) (hkd : kd ≠ .b) (hn : ps.length = n)
    (body : ∀ (f : Addr) (cdv : Value) (A : Around) (outer : List Env) (s : Shared) (H : Hp) (hid : Hid) (E : XK), Room k (A.deeper (envOfC x (defScope st) s.heap.objs.size f cdv)) →
      DSs (cxOf CX0 P w K mg base N x (defScope st) f cdv A outer s H E).nox ⟨H, hid, fun _ => false⟩ kd (defBody st) t) :
    Cl P w K mg base (k + 1) x ps (spP K kd n (fnP kd N.length t)) := by
  obtain ⟨f, fd, F, hm, hb⟩ := F.ex
  subst hn
  exact ⟨f, fd, fn_pure F S hkd (body f), hm, F.kp, hb⟩
theorem cl_eff (F : Df K mg x st ps) (S : FnScope N ps (defScope st)) (hkd : kd ≠ .b) (hn : ps.length = n + 1)
    (body : ∀ (f : Addr) (cdv : Value) (A : Around) (outer : List Env) (s : Shared) (H : Hp) (hid : Hid) (a : Addr) (E : XK), Room k (A.deeper (envOfC x (defScope st) s.heap.objs.size f cdv)) →
      DSs (cxOf CX0 P w K mg base N x (defScope st) f cdv A outer s H E).nox ⟨H, hid, fun b => decide (b = a)⟩ kd (defBody st) t) :
    Cl P w K mg base (k + 1) x ps (spE K kd n (fnE kd N.length t)) := by
  obtain ⟨f, fd, F, hm, hb⟩ := F.ex
  exact ⟨f, fd, fn_eff F S hkd hn (body f), hm, F.kp, hb⟩
theorem Cl.law {y : Str} {M : List D → Option D} (C : Cl P w K mg base k x [y] (spP K .s 1 M)) (hM : ∀ ns : List Int, ns.length ≤ 63 → M [.scr (ns.map D.int)] = some (.bl true)) : Cl P w K mg base k x [y] (spLaw K) := by
  obtain ⟨f, fd, F, r⟩ := C.ex
  exact ⟨f, fd, fn_law F hM, r⟩
end
section
variable {X : Cx} {c : Ct} {e a b : Expr} {es rest : List Expr} {k : Kd} {pos p : Pos} {x : Str} {ps : List Str} {j n : Nat}
def nF (n : Nat) (P : List D → Option D) : List D → Option D := fun ds => if ds.length = n then P ds else none
theorem dp_cl {P : List D → Option D} {fs : FA} (C : Cl X.prog X.w X.K X.mg X.base j x ps (spP X.K k n P)) (hr : Room j X.A)
    (ha : DA X c (e :: es) fs) (hg : Gl X x := by rfl) (hdb : (x == ("__debug__" : Str)) = false := by decide) (he : starEach (e :: es) X.env = (false, eval e X.env) :: starEach es X.env := by rfl) (hpl : (backTo pos (starEach es X.env)).any (·.1) = false := by rfl) :
    DP X c k (.Call (.Name x p) (e :: es) [] pos) (callF (nF n P) fs) := by
  obtain ⟨f, fd, F, hm, hk, hb⟩ := C.ex
  exact dp_call F hr hm hk hb ha hg hdb he hpl
theorem de_cl (i : Nat) {y : Str} {py : Pos} {M : List D → List D → Option (D × List D)} {fs : GA} (C : Cl X.prog X.w X.K X.mg X.base j x ps (spE X.K k n M)) (hr : Room j X.A)
    (ha : DG X c es fs) (hkb : k ≠ .b := by decide) (hN : X.N[i]? = some y := by rfl) (hv : Vis X.env.scope y := by first | exact Or.inl rfl | exact Or.inr (Or.inl rfl) | exact Or.inr (Or.inr rfl)) (hd : (y == ("__debug__" : Str)) = false := by decide)
    (hcd : (y == ("__classdict__" : Str)) = false := by decide) (hs : starEach (.Name y py :: es) X.env = (false, eval (.Name y py) X.env) :: starEach es X.env := by rfl) (hg : Gl X x := by rfl) (hdb : (x == ("__debug__" : Str)) = false := by decide) (hpl : (backTo pos (starEach es X.env)).any (·.1) = false := by rfl) :
    DE X c k (.Call (.Name x p) (.Name y py :: es) [] pos) (callE i n M fs) := by
  obtain ⟨f, fd, F, hm, hk, hb⟩ := C.ex
  exact de_callE i F hr hm hk hb ha hkb hN hv hd hcd hs hg hdb hpl
end
end L2
set_option Elab.async false
set_option linter.all false
set_option maxRecDepth 100000
namespace L2
open PySem PySem.W PyProof.Rows

/-! ### the sort by asked pairs, under an order -/
structure Od (b : Nat → Nat → Bool) : Prop where
  tr : ∀ {i j k : Nat}, b j i = false → b k j = false → b k i = false
  as : ∀ {i j : Nat}, b i j = true → b j i = false
theorem Od.rf {b : Nat → Nat → Bool} (O : Od b) (i : Nat) : b i i = false := by
  cases h : b i i with
  | false => rfl
  | true => have := O.as h; rw [h] at this; exact this
structure Pm (N : Nat) (p : Array Nat) : Prop where
  perm : p.Perm (List.toArray (List.range N))
theorem Pm.size {N : Nat} {p : Array Nat} (h : Pm N p) : p.size = N := by rw [h.perm.size_eq]; simp
theorem Pm.lt {N : Nat} {p : Array Nat} (h : Pm N p) (hN : 0 < N) (k : Nat) : p.getD k 0 < N := by
  by_cases hk : k < p.size
  · have e : p.getD k 0 = p[k] := by simp [Array.getD, hk]
    rw [e]
    have : p[k] ∈ (List.toArray (List.range N)) := h.perm.mem_iff.mp (Array.getElem_mem hk)
    simpa using this
  · have e : p.getD k 0 = 0 := by simp [Array.getD, hk]
    rw [e]; exact hN
section
variable {b : Nat → Nat → Bool} {N : Nat} {cmp : Nat → Nat → (Bool → Shared → Prop) → Shared → Prop} {s : Shared}
def Srt (b : Nat → Nat → Bool) (p : Array Nat) (n : Nat) : Prop := ∀ i j, i ≤ j → j < n → b (p.getD j 0) (p.getD i 0) = false
def Fal (b : Nat → Nat → Bool) (p : Array Nat) (n : Nat) : Prop := ∀ i j, i ≤ j → j < n → b (p.getD i 0) (p.getD j 0) = false
theorem Srt.succ (O : Od b) {p : Array Nat} {n : Nat} (h : Srt b p n) (hn : 1 ≤ n) (e : b (p.getD n 0) (p.getD (n - 1) 0) = false) : Srt b p (n + 1) := fun i j hij hj => by
  by_cases h1 : j < n
  · exact h i j hij h1
  · have : j = n := by omega
    subst this
    by_cases h2 : i = j
    · subst h2; exact O.rf _
    · exact O.tr (h i (j - 1) (by omega) (by omega)) e
theorem Fal.succ (O : Od b) {p : Array Nat} {n : Nat} (h : Fal b p n) (hn : 1 ≤ n) (e : b (p.getD (n - 1) 0) (p.getD n 0) = false) : Fal b p (n + 1) := fun i j hij hj => by
  by_cases h1 : j < n
  · exact h i j hij h1
  · have : j = n := by omega
    subst this
    by_cases h2 : i = j
    · subst h2; exact O.rf _
    · exact O.tr e (h i (j - 1) (by omega) (by omega))
theorem Fal.congr (O : Od b) {p q : Array Nat} {n : Nat} (h : Fal b p n) (e : ∀ k, k < n → b (p.getD k 0) (q.getD k 0) = false ∧ b (q.getD k 0) (p.getD k 0) = false) : Fal b q n := fun i j hij hj =>
  O.tr (O.tr (e j hj).1 (h i j hij hj)) (e i (by omega)).2
variable (O : Od b) (hN : 0 < N) (hc : ∀ (i j : Nat) (C : Bool → Shared → Prop), i < N → j < N → C (b i j) s → cmp i j C s)
include O hN hc
end
end L2
set_option Elab.async false
set_option linter.all false
set_option maxRecDepth 100000
namespace L2
open PySem PySem.W PySem.Calls PyProof.Rows

section
variable {prog : Program} {w : World} {A : Around} {E : Value → Shared → Prop} {s : Shared}
end
end L2
set_option Elab.async false
set_option linter.all false
set_option maxRecDepth 100000
namespace L2
open PySem PySem.W PySem.Spec PyProof.Rows

/-! ### orders, and sorting by insertion -/
structure Lt {α : Type} (lt : α → α → Bool) : Prop where
  tr : ∀ {a b c : α}, lt b a = false → lt c b = false → lt c a = false
  as : ∀ {a b : α}, lt a b = true → lt b a = false
  eq : ∀ {a b : α}, lt a b = false → lt b a = false → a = b
section
variable {α : Type} {lt : α → α → Bool}
end

/-! ### what may be sorted -/
def tpI (k : List Int) : D := .tup (k.map D.int)
end L2
set_option Elab.async false
set_option linter.all false
set_option maxRecDepth 100000
namespace L2
open PySem PySem.W PySem.Spec PyProof.Rows
section
variable {prog : Program} {w : World} {A : Around} {s : Shared} {b fin : Bool} {Q : Bool → Shared → Prop}
end
end L2
set_option Elab.async false
set_option linter.all false
set_option maxRecDepth 100000
namespace L2
open PySem PySem.Spec PyProof.Rows
section
variable {X : Cx} {c : Ct} {e a b : Expr} {es rest : List Expr} {f g : GE} {fs : GA} {k : Kd} {pos p : Pos} {x : Str} {id T : String} {r : List V → Hp → VK → Prop} {F : List D → Option D} {ps : List Str} {j n : Nat}
/-- built-ins with effects in their arguments -/
theorem Reps.b1 {K : PySem.W.Frag} {H W : Hp} : ∀ {vs : List V} {ds : List D}, Reps K W vs ds → Reps1 K H W vs ds
  | _, _, .nil => .nil
  | _, _, .cons r t => .cons (.inl r) (Reps.b1 t)
/-! tests with effects -/
end
section
variable {X : Cx} {c : Ct} {k : Kd} {t u : FS} {e : Expr} {pos : Pos}
end
end L2
set_option Elab.async false
set_option linter.all false
set_option maxRecDepth 100000
namespace L2
open PySem PySem.Spec PyProof.Rows

/-! ### comprehensions of two generators -/
section
variable {prog : Program} {w : World} {A : Around} {R : Result → Shared → Prop} {s : Shared} {elt t1 t2 i1 i2 : Expr} {ifs1 ifs2 : List Expr} {scope : Scope} {pos : Pos} {it acc : Value} {env : Env}
/-- what a turn does with an item that is let by -/
abbrev TAct := (Shared → Prop) → Shared → Prop
end
end L2
set_option Elab.async false
set_option linter.all false
set_option maxRecDepth 100000
namespace L2
open PySem PySem.Spec PyProof.Rows
def cpL (g : FG) (p : FT) (A : FA) (ρ0 : Rho) : List D → Option (List D)
  | [] => some []
  | d :: r => (g d ρ0).bind fun ρ1 => (p ρ1).bind fun b => if b = true then (A ρ1).bind fun ys => (cpL g p A ρ0 r).map (ys ++ ·) else cpL g p A ρ0 r
section
variable {Y : Cx} {c : Ct} {tg : Expr} {ifs : List Expr} {g : FG} {p : FT} {A : FA} {TA : TAct} {code : Code}
structure CLG (Y : Cx) (pins : List (Addr × Obj)) (c : Ct) (hid : Hid) (ρ0 : Rho) (L W H3 : Hp) (D0 : Addr) (fp : List Addr) (tn : Nat → Heap → Prop) (g : FG) (p : FT) (A : FA) (ds ys ad0 : List D) (n i : Nat) (xs : List V) (ad : List D) (σ' : St) (H' : Hp) (s' : Shared) : Prop where
  e : n = ds.length - i
  hi : i ≤ ds.length
  I : Inv Y pins σ' H' s'
  st : tn i s'.heap
  fr : ∀ b ∈ fp, H' b = none
  sr : SR Y.K c hid ρ0 σ' H'
  sm : Same L H'
  ac : H' D0 = some (.lst xs)
  rp : Reps Y.K (vw H' hid) xs ad
  w : Same W (vw H' hid)
  v : Same (vw H3 hid) (vw H' hid)
  na : ∀ i : Nat, Ow ρ0[i]? → σ'[i]? ≠ some (some (.ref D0))
  go : ∃ rest, cpL g p A ρ0 (ds.drop i) = some rest ∧ ad ++ rest = ad0 ++ ys
end
end L2
set_option Elab.async false
set_option linter.all false
set_option maxRecDepth 100000
namespace L2
open PySem PySem.Spec PyProof.Rows
section
variable {prog : Program} {w : World} {A : Around} {R : Result → Shared → Prop} {s : Shared} {elt t1 t2 i1 i2 : Expr} {ifs1 ifs2 : List Expr} {scope : Scope} {pos : Pos} {it acc : Value} {env : Env}
end
section
variable {Y : Cx} {c : Ct} {elt t1 t2 i1 i2 : Expr} {ifs1 ifs2 : List Expr} {scope : Scope} {pos : Pos} {f : FE} {g2 : FG} {p2 : FT} {gi2 : FA} {hid : Hid} {D0 : Addr} {L W : Hp} {ρ1 : Rho}
end
end L2
set_option Elab.async false
set_option linter.all false
set_option maxRecDepth 100000
namespace L2
open PySem PySem.Spec PyProof.Rows
section
variable {X : Cx} {c : Ct} {elt t1 t2 i1 i2 : Expr} {ifs1 ifs2 : List Expr} {scope : Scope} {pos : Pos} {N' : List Str} {m n1 : Nat} {gi1 gi2 : FA} {g1 g2 : FG} {p1 p2 : FT} {f : FE}
end
end L2
set_option Elab.async false
set_option linter.all false
set_option maxRecDepth 100000
namespace L2
open PySem PySem.Spec PyProof.Rows
section
variable {K : PySem.W.Frag}
end
/-! ### slices -/
/-- a bound of a slice: none, or an int -/
abbrev FO := Rho → Option (Option Int)
theorem PO.imp {X : Cx} {e : Option Expr} {t t' : TO} (h : PO X e t) (i : ∀ σ H Q, t' σ H Q → t σ H Q) : PO X e t' := fun pins s σ H Q I q => h pins s σ H Q I (i σ H Q q)
section
variable {X : Cx} {c : Ct} {e a b : Expr} {f g : FE} {k : Kd} {pos p2 : Pos} {lo hi : Option Expr} {l u : FO}
/-! t + u -/
end
end L2
set_option Elab.async false
set_option linter.all false
set_option maxRecDepth 100000
namespace PySem
open Sem (wp)
open AutoSeq1 (wpAny_loadPart')
section
variable {prog : Program} {w : World} {A : Around} {E : Value → Shared → Prop} {s : Shared}
theorem l2_nextOf_item {it t : Addr} {i : Nat} {us} {x : Value} {Q : Value → Shared → Prop} (hit : s.heap.IsTupleIter it t i) (ht : s.heap.IsTuple t us) (hx : us[i]? = some x)
    (hQ : ∀ g, g.IsTupleIter it t (i + 1) → Heap.SameBut it s.heap g → Q x { s with heap := g }) : wpAny (model prog w) A (Builtin.SmallTypes.nextOf (.ref it)) Q E s := by
  obtain ⟨o, ho, hc, hd⟩ := id hit
  obtain ⟨ot, hot, _, nt, hdt⟩ := ht
  unfold Builtin.SmallTypes.nextOf
  refine wpAny_bind (wpAny_callSpecial?_slot (name := Str.ofString "__next__") hit.typeIs F.slot_tuple_iterator_next (wpAny_call_entry F.slot_tuple_iterator_next hit.typeIs F.entry_tuple_iterator_next (show wpAny _ _ (field (.ref it) 0 >>= _) _ _ s from wpAny_bind (wpAny_field ho hd (x := .ref t) rfl ?_)) (F.args_tuple_iterator_next_1 _)))
  show wpAny _ _ (if (Value.ref t == Value.none) = true then _ else _) _ _ s
  rw [if_neg (show ¬ ((Value.ref t == Value.none) = true) from Bool.false_ne_true)]
  refine (show wpAny _ _ (field (.ref it) 1 >>= _) _ _ s from wpAny_bind (wpAny_field ho hd (x := .int i 0) rfl (show wpAny _ _ (seqItems? (.ref t) >>= _) _ _ s from wpAny_bind (wpAny_seqItems hot hdt ?_))))
  simp only [Int.toNat_natCast, hx]
  exact wpAny_bind (wpAny_setField ho hd (by simp) (wpAny_pure ⟨x, rfl, wpAny_pure (hQ _ ⟨_, Heap.get?_update_self _ ho (Obj.isFreed_of_fields (Obj.data_mapFields hd _)), (Obj.cls_mapFields ..).trans hc, by rw [Obj.data_mapFields hd]; simp [rawInt]⟩ (Heap.SameBut.update ..))⟩))
theorem l2_nextOf_end {it t : Addr} {i : Nat} {us} {Q : Value → Shared → Prop} (hh : A.handled = none) (hit : s.heap.IsTupleIter it t i) (ht : s.heap.IsTuple t us) (hx : us[i]? = none)
    (hE : ∀ g e, Heap.ExtBut it s.heap g → (∃ o, g.get? e = some o ∧ o.cls = .type "StopIteration") → E (.ref e) { s with heap := g }) : wpAny (model prog w) A (Builtin.SmallTypes.nextOf (.ref it)) Q E s := by
  obtain ⟨o, ho, hc, hd⟩ := id hit
  obtain ⟨ot, hot, _, nt, hdt⟩ := ht
  unfold Builtin.SmallTypes.nextOf
  refine wpAny_bind (wpAny_callSpecial?_slot (name := Str.ofString "__next__") hit.typeIs F.slot_tuple_iterator_next (wpAny_call_entry F.slot_tuple_iterator_next hit.typeIs F.entry_tuple_iterator_next (show wpAny _ _ (field (.ref it) 0 >>= _) _ _ s from wpAny_bind (wpAny_field ho hd (x := .ref t) rfl ?_)) (F.args_tuple_iterator_next_1 _)))
  show wpAny _ _ (if (Value.ref t == Value.none) = true then _ else _) _ _ s
  rw [if_neg (show ¬ ((Value.ref t == Value.none) = true) from Bool.false_ne_true)]
  refine (show wpAny _ _ (field (.ref it) 1 >>= _) _ _ s from wpAny_bind (wpAny_field ho hd (x := .int i 0) rfl (show wpAny _ _ (seqItems? (.ref t) >>= _) _ _ s from wpAny_bind (wpAny_seqItems hot hdt ?_))))
  simp only [Int.toNat_natCast, hx]
  refine wpAny_bind (wpAny_rule (wpAny_bind (wpAny_setField ho hd (by simp) (show wpAny _ _ (newExc (.type "StopIteration") [] >>= _) _ _ _ from wpAny_bind ?_))))
  simp only [newExc, newTuple]
  refine wpAny_bind (wpAny_newObj_type ?_ (by size_fits))
  refine wpAny_bind (m := firstArgMember _ _) (wpAny_of_eq (a := Value.none) (by first | rfl | (simp only [firstArgMember]; rfl)) (wpAny_newObj_type ?_ (by size_fits)))
  simp only [raiseNew]
  refine wpAny_bind (wpAny_handled ?_)
  first | rw [show A.in1.handled = none from hh] | rw [hh]
  exact wpAny_bind (wpAny_pure (wpAny_throw (hE _ _ (((Heap.SameBut.update ..).extBut.push _).push _) ⟨_, Heap.get?_push_size _ rfl, rfl⟩)))
/-- an enumerate's step, by what the step of its own iterator does -/
theorem l2_enum_item {e it : Addr} {i : Nat} {x old : Value} {N : Heap → Prop} {Q : Option Value → Shared → Prop} (he : IsEnum s.heap e it i old) (hne : e ≠ it) (hNk : ∀ g g', N g → (∀ o, g.get? it = some o → g'.get? it = some o) → N g')
    (nx : ∀ (A' : Around) (Q' : Value → Shared → Prop) (E' : Value → Shared → Prop), (∀ g, N g → Heap.SameBut it s.heap g → Q' x { s with heap := g }) → wpAny (model prog w) A' (Builtin.SmallTypes.nextOf (.ref it)) Q' E' s)
    (hQ : ∀ g, IsEnumOut g e it ((i : Int) + 1) x s.heap.objs.size → N g → g.get? s.heap.objs.size = some { cls := .type "tuple", data := .seq #[.int i s.toks, x] } → g.objs.size = s.heap.objs.size + 1 →
      (∀ b o, b ≠ e → b ≠ it → s.heap.get? b = some o → g.get? b = some o) → Q (some (.ref s.heap.objs.size)) { s with heap := g, toks := s.toks + 1 }) : wpAny (model prog w) A (pyNext (.ref e)) Q E s := by
  have hT : s.TypeIs (.ref e) "enumerate" := ⟨_, he, rfl⟩
  unfold pyNext
  refine wpAny_bind (wpAny_attempt (wpAny_callSpecial?_slot (name := Str.ofString "__next__") hT F.slot_enumerate_next (wpAny_call_entry F.slot_enumerate_next hT F.entry_enumerate_next ?_ (F.args_enumerate_next_1 _))))
  obtain ⟨hp, gn, dr, tk, os⟩ := s
  refine (show wpAny _ _ (field (.ref e) 2 >>= _) _ _ _ from wpAny_bind (wpAny_field he rfl (x := .ref it) rfl (wpAny_bind (nx _ _ _ fun g₁ n₁ b₁ => ?_))))
  replace b₁ : Heap.SameBut it hp g₁ := b₁
  have e₁ : IsEnum g₁ e it i old := (b₁.2 e hne).trans he
  refine (show wpAny _ _ (field (.ref e) 3 >>= _) _ _ ⟨g₁, gn, dr, tk, os⟩ from wpAny_bind (wpAny_field e₁ rfl (x := rawInt i) rfl ?_))
  refine (show wpAny _ _ (field (.ref e) 4 >>= _) _ _ ⟨g₁, gn, dr, tk, os⟩ from wpAny_bind (wpAny_field e₁ rfl (x := .none) rfl ?_))
  refine (show wpAny _ _ (mkInt i >>= _) _ _ ⟨g₁, gn, dr, tk, os⟩ from wpAny_bind (wpAny_mkInt ?_))
  refine (show wpAny _ _ (setField (.ref e) 3 (rawInt ((i : Int) + 1)) >>= _) _ _ ⟨g₁, gn, dr, tk + 1, os⟩ from wpAny_bind (wpAny_setField_rec e₁ (by simp) fun g₂ e₂ b₂ => ?_))
  replace b₂ : Heap.SameBut e g₁ g₂ := b₂
  replace e₂ : IsEnum g₂ e it ((i : Int) + 1) old := e₂
  refine (show wpAny _ _ (setField (.ref e) 4 .none >>= _) _ _ ⟨g₂, gn, dr, tk + 1, os⟩ from wpAny_bind (wpAny_setField_rec e₂ (by simp) fun g₃ e₃ b₃ => ?_))
  replace b₃ : Heap.SameBut e g₂ g₃ := b₃
  replace e₃ : IsEnum g₃ e it ((i : Int) + 1) old := e₃
  refine (show wpAny _ _ (newTuple [.int i tk, x] >>= _) _ _ ⟨g₃, gn, dr, tk + 1, os⟩ from wpAny_bind (wpAny_newTuple ?_))
  have z₃ : g₃.objs.size = hp.objs.size := by rw [b₃.1, b₂.1, b₁.1]
  have le : e < hp.objs.size := Heap.lt_size he
  have e₄ : IsEnum (g₃.push { cls := .type "tuple", data := .seq #[.int i tk, x] }) e it ((i : Int) + 1) old := Heap.get?_push_of_some _ e₃
  have n₄ : N (g₃.push { cls := .type "tuple", data := .seq #[.int i tk, x] }) := hNk _ _ n₁ fun o ho => Heap.get?_push_of_some _ (b₃.extBut _ _ (Ne.symm hne) (b₂.extBut _ _ (Ne.symm hne) ho))
  have t₄ : (g₃.push { cls := .type "tuple", data := .seq #[.int i tk, x] }).get? hp.objs.size = some { cls := .type "tuple", data := .seq #[.int i tk, x] } := by rw [← z₃]; exact Heap.get?_push_size _ rfl
  have s₄ : (g₃.push { cls := .type "tuple", data := .seq #[.int i tk, x] }).objs.size = hp.objs.size + 1 := by rw [Heap.size_push, z₃]
  have k₄ : ∀ b o, b ≠ e → b ≠ it → hp.get? b = some o → (g₃.push { cls := .type "tuple", data := .seq #[.int i tk, x] }).get? b = some o := fun b o h1 h2 h3 => Heap.get?_push_of_some _ (b₃.extBut b o h1 (b₂.extBut b o h1 (b₁.extBut b o h2 h3)))
  generalize g₃.push { cls := .type "tuple", data := .seq #[.int i tk, x] } = g₄ at e₄ n₄ t₄ s₄ k₄
  rw [z₃]
  refine (show wpAny _ _ (Builtin.SmallTypes.ownedTupleIsFree (.ref e) >>= _) _ _ ⟨g₄, gn, dr, tk + 1, os⟩ from wpAny_bind ?_)
  unfold Builtin.SmallTypes.ownedTupleIsFree
  refine wpAny_bind (wpAny_field e₄ rfl (x := .none) rfl (wpAny_pure ?_))
  simp only [if_true]
  refine wpAny_bind (wpAny_rule (wpAny_bind (wpAny_field e₄ rfl (x := old) rfl (wpAny_bind (wpAny_setField_rec e₄ (by simp) fun g₅ e₅ b₅ => ?_)))))
  replace b₅ : Heap.SameBut e g₄ g₅ := b₅
  replace e₅ : IsEnum g₅ e it ((i : Int) + 1) x := e₅
  refine (show wpAny _ _ (Builtin.SmallTypes.ownedTupleHandOut (.ref e) (.ref hp.objs.size) >>= _) _ _ ⟨g₅, gn, dr, tk + 1, os⟩ from wpAny_bind ?_)
  unfold Builtin.SmallTypes.ownedTupleHandOut
  refine wpAny_bind (wpAny_setField_rec e₅ (by simp) fun g₆ e₆ b₆ => ?_)
  replace b₆ : Heap.SameBut e g₅ g₆ := b₆
  replace e₆ : IsEnumOut g₆ e it ((i : Int) + 1) x hp.objs.size := e₆
  refine wpAny_setField_rec e₆ (by simp) fun g₇ e₇ b₇ => ?_
  replace b₇ : Heap.SameBut e g₆ g₇ := b₇
  replace e₇ : IsEnumOut g₇ e it ((i : Int) + 1) x hp.objs.size := e₇
  refine wpAny_bind (wpAny_letGo (wpAny_pure ⟨_, rfl, wpAny_pure (hQ g₇ e₇ (hNk _ _ n₄ fun o ho => ?_) ?_ ?_ fun b o h1 h2 h3 => ?_)⟩))
  · exact b₇.extBut _ _ (Ne.symm hne) (b₆.extBut _ _ (Ne.symm hne) (b₅.extBut _ _ (Ne.symm hne) ho))
  · exact b₇.extBut _ _ (Nat.ne_of_gt le) (b₆.extBut _ _ (Nat.ne_of_gt le) (b₅.extBut _ _ (Nat.ne_of_gt le) t₄))
  · rw [b₇.1, b₆.1, b₅.1, s₄]
  · exact b₇.extBut b o h1 (b₆.extBut b o h1 (b₅.extBut b o h1 (k₄ b o h1 h2 h3)))
theorem l2_enum_end {e it : Addr} {i : Nat} {old : Value} {Q : Option Value → Shared → Prop} (he : IsEnum s.heap e it i old)
    (nx : ∀ (A' : Around), A'.handled = A.handled → ∀ (Q' : Value → Shared → Prop) (E' : Value → Shared → Prop), (∀ g x, Heap.ExtBut it s.heap g → (∃ o, g.get? x = some o ∧ o.cls = .type "StopIteration") → E' (.ref x) { s with heap := g }) → wpAny (model prog w) A' (Builtin.SmallTypes.nextOf (.ref it)) Q' E' s)
    (hQ : ∀ g, Heap.ExtBut it s.heap g → Q none { s with heap := g }) : wpAny (model prog w) A (pyNext (.ref e)) Q E s := by
  have hT : s.TypeIs (.ref e) "enumerate" := ⟨_, he, rfl⟩
  unfold pyNext
  refine wpAny_bind (wpAny_attempt (wpAny_callSpecial?_slot (name := Str.ofString "__next__") hT F.slot_enumerate_next (wpAny_call_entry F.slot_enumerate_next hT F.entry_enumerate_next (show wpAny _ _ (field (.ref e) 2 >>= _) _ _ _ from wpAny_bind (wpAny_field he rfl (x := .ref it) rfl (wpAny_bind (nx A.in1 rfl _ _ fun g x k hx => ?_)))) (F.args_enumerate_next_1 _))))
  obtain ⟨o, ho, hc⟩ := hx
  exact wpAny_bind (wpAny_isInstance (T := "StopIteration") (b := true) ⟨o, ho, hc⟩ isSubtype_stop (wpAny_pure (hQ _ k)))
end
set_option maxHeartbeats 1000000 in
theorem l2_enum_newT (l : Addr) (us : Array Value) (n : Nat) (dct : Option Addr) (sl : Array (Option Value)) :
    Meets (Builtin.«enumerate.__new__» ⟨[.type "enumerate", .ref l], []⟩) (fun _ R s => s.heap.get? l = some { cls := .type "tuple", dict := dct, data := .seq us n, slots := sl } ∧
      R (.ok (.ret (.ref (s.heap.push { cls := .type "tuple_iterator", data := .fields #[.ref l, .int 0 0] }).objs.size)))
        { s with heap := (s.heap.push { cls := .type "tuple_iterator", data := .fields #[.ref l, .int 0 0] }).push { cls := .type "enumerate", data := .fields #[.none, .bool false, .ref s.heap.objs.size, rawInt 0, .none, .none] } }) :=
  .of_wp fun prog w A R s h => by
    obtain ⟨hp, g, d, tk, os⟩ := s; obtain ⟨hl, h⟩ := h
    have hsub := sub_enumerate
    have hL : Heap.IsTuple (Shared.heap ⟨hp, g, d, tk, os⟩) l us := ⟨_, hl, rfl, n, rfl⟩
    wp_walk using wpAny_loadPart' hl
    refine wpAny_stack_any fun st => wpAny_pure ?_
    split
    · rename_i c _ _ _ _ _
      cases (c == Value.type "enumerate")
      · wp_walk using wpAny_loadPart' hl, wpAny_pyIter_tuple hL
        exact ⟨_, rfl, h⟩
      · wp_walk using wpAny_loadPart' hl, wpAny_pyIter_tuple hL
        exact ⟨_, rfl, h⟩
    · wp_walk using wpAny_loadPart' hl, wpAny_pyIter_tuple hL
      exact ⟨_, rfl, h⟩
section
variable {prog : Program} {w : World} {A : Around} {E : Value → Shared → Prop} {s : Shared}
theorem l2_call_enumT {l : Addr} {us : Array Value} {Q : Value → Shared → Prop} (hL : s.heap.IsTuple l us)
    (h : ∀ g, IsEnum g (s.heap.objs.size + 1) s.heap.objs.size 0 .none → g.IsTupleIter s.heap.objs.size l 0 → g.objs.size = s.heap.objs.size + 2 → (∀ b o, s.heap.get? b = some o → g.get? b = some o) → Q (.ref (s.heap.objs.size + 1)) { s with heap := g }) :
    wpAny (model prog w) A (call (.type "enumerate") [.ref l]) Q E s := by
  obtain ⟨⟨cls, dct, dat, sl⟩, ho, hc, n, hd⟩ := hL
  have hc : cls = .type "tuple" := hc
  have hd : dat = .seq us n := hd
  subst hc hd
  refine callType_new F.called_enumerate (by decide) (F.typeCall_enumerate_1 _) (F.newCall_enumerate_1 _) (fun obj => F.args_object_init_2 obj _) F.entry_enumerate_new (l2_enum_newT l us n dct sl) ⟨ho, ?_⟩
  have hz : (s.heap.push { cls := .type "tuple_iterator", data := .fields #[.ref l, .int 0 0] }).objs.size = s.heap.objs.size + 1 := Heap.size_push ..
  show _ ∧ _
  rw [hz]
  have he : IsEnum ((s.heap.push { cls := .type "tuple_iterator", data := .fields #[.ref l, .int 0 0] }).push { cls := .type "enumerate", data := .fields #[.none, .bool false, .ref s.heap.objs.size, rawInt 0, .none, .none] }) (s.heap.objs.size + 1) s.heap.objs.size 0 .none := by
    have := Heap.get?_push_size (s.heap.push { cls := .type "tuple_iterator", data := .fields #[.ref l, .int 0 0] }) (o := { cls := .type "enumerate", data := .fields #[.none, .bool false, .ref s.heap.objs.size, rawInt 0, .none, .none] }) rfl
    rw [hz] at this; exact this
  exact ⟨⟨_, he, rfl⟩, h _ he ⟨_, Heap.get?_push_of_some _ (Heap.get?_push_size _ rfl), rfl, rfl⟩ (by rw [Heap.size_push, hz]) fun b o x => Heap.get?_push_of_some _ (Heap.get?_push_of_some _ x)⟩
end
end PySem
namespace L2
open PySem PySem.Spec PyProof.Rows
/-- enumerate(t): pairs of a place and an item -/
def Ite (K : PySem.W.Frag) (a : Addr) : It :=
  ⟨fun i H => ∃ xs x, SqT K H a xs ∧ xs[i]? = some x, fun i H x H' => ∃ T, x = .ref T ∧ H T = none ∧ ∀ xs, SqT K H a xs → ∃ y, xs[i]? = some y ∧ H' = upd H T (.tup [.int i, y]), fun i H => ∃ xs, SqT K H a xs ∧ xs.length ≤ i⟩
theorem turn_enumT {P : Program} {w : World} {K : PySem.W.Frag} {es : List Expr} {x1} {pos : Pos} (a it e : Addr) (hei : e ≠ it) : Turn P w K (.Tuple es x1 pos) (Ite K a) [e, it] e (fun i h => (∃ old, IsEnum h e it i old) ∧ h.IsTupleIter it a i) where
  mem := by simp
  obj := fun i h st b hb => by
    obtain ⟨⟨old, he⟩, o, ho, hc, hd⟩ := st
    rcases List.mem_cons.mp hb with rfl | hb
    · exact ⟨_, he, fun v z => by cases z⟩
    · have : b = it := by simpa using hb
      subst this
      exact ⟨o, ho, fun v z => by rw [hd] at z; cases z⟩
  keep := fun i h h' st k => by
    obtain ⟨⟨old, he⟩, hit⟩ := st
    exact ⟨⟨old, k e (by simp) _ he⟩, hit.at fun o x => k it (by simp) o x⟩
  item := by
    intro X hP hw hK hc i pins s σ H E I hf st hg
    subst hP hw hK
    obtain ⟨xs, x, hq, hx⟩ := hg
    obtain ⟨its, rv, p, hz⟩ := I.tuple hq
    obtain ⟨u, hu, ru⟩ := rv.get hx
    obtain ⟨⟨old, he⟩, hit⟩ := st
    obtain ⟨e0, e1, e2, e3, e4, e5⟩ := hf e (by simp)
    obtain ⟨f0, f1, f2, f3, f4, f5⟩ := hf it (by simp)
    have ht : s.heap.IsTuple a its.toArray := p
    refine l2_enum_item (x := u) (N := fun g => g.IsTupleIter it a (i + 1)) he hei (fun g g' n k => n.at k) (fun A' Q' E' hq' => l2_nextOf_item hit ht (by simpa using hu) fun g n b => hq' g n b) fun g hout hit' hT hsz hk => ⟨_, rfl, ?_⟩
    refine wpAny_letOwnedTupleGo_enum hout fun g' he' hs' => ?_
    have elt : e < s.heap.objs.size := Heap.lt_size he
    have k2 : ∀ b o, b ≠ e → b ≠ it → s.heap.get? b = some o → g'.get? b = some o := fun b o h1 h2 h3 => (hs'.2 b h1).trans (hk b o h1 h2 h3)
    have hT' : g'.get? s.heap.objs.size = some { cls := .type "tuple", data := .seq #[.int i s.toks, u] } := (hs'.2 _ (Nat.ne_of_gt elt)).trans hT
    have hn : H s.heap.objs.size = none := I.hok.fresh (Nat.le_refl _)
    -- first the iterators' own turn, in a heap that keeps all else
    have I1 : Inv X pins σ (upd H s.heap.objs.size (.tup [.int i, x])) { s with heap := g', toks := s.toks + 1 } := by
      obtain ⟨oi, hoi, hci, hdi⟩ := id (show g'.IsTupleIter it a (i + 1) from hit'.at fun o y => (hs'.2 it (Ne.symm hei)).trans y)
      obtain ⟨os0, hos0, _⟩ := id hit
      have ilt : it < s.heap.objs.size := Heap.lt_size hos0
      have I0 : Inv X pins σ (upd H s.heap.objs.size (.tup [.int i, x])) { s with heap := s.heap.push { cls := .type "tuple", data := .seq #[.int i s.toks, u] }, toks := s.toks + 1 } :=
        I.laid (t' := s.toks + 1) (fun b o q => Heap.get?_push_of_some _ q) (Nat.le_refl _) (show ObjOk X.prog X.w _ _ _ (.tup [.int i, x]) from
          ⟨Nat.le_of_lt (small1000 (by simp)), [.int i s.toks, u], .cons ⟨_, rfl⟩ (.cons ru .nil), ⟨_, Heap.get?_push_size _ rfl, rfl, _, rfl⟩, _, Heap.get?_push_size _ rfl, rfl⟩)
      have u1 : ((s.heap.push { cls := .type "tuple", data := .seq #[.int i s.toks, u] }).update it fun _ => oi).get? it = some oi := Heap.get?_update_self (fun _ => oi) (Heap.get?_push_of_some _ hos0) (Obj.isFreed_of_fields hdi)
      have I1 : Inv X pins σ (upd H s.heap.objs.size (.tup [.int i, x])) { s with heap := (s.heap.push { cls := .type "tuple", data := .seq #[.int i s.toks, u] }).update it fun _ => oi, toks := s.toks + 1 } :=
        I0.turned (t' := s.toks + 1) (fun b o hb q => (Heap.get?_update_other _ _ (Ne.symm hb)).trans q) (by rw [upd_ne (Nat.ne_of_lt ilt)]; exact f0) f1 f3 f4 f5
      refine I1.turned (t' := s.toks + 1) (fun b o hb q => ?_) (by rw [upd_ne (Nat.ne_of_lt elt)]; exact e0) e1 e3 e4 e5
      by_cases hbi : b = it
      · subst hbi
        have q' : ((s.heap.push { cls := .type "tuple", data := .seq #[.int i s.toks, u] }).update b fun _ => oi).get? b = some o := q
        rw [u1] at q'; cases q'
        exact hoi
      · have q' : ((s.heap.push { cls := .type "tuple", data := .seq #[.int i s.toks, u] }).update it fun _ => oi).get? b = some o := q
        rw [Heap.get?_update_other _ _ (Ne.symm hbi)] at q'
        by_cases hbT : b = s.heap.objs.size
        · subst hbT
          rw [Heap.get?_push_size _ rfl] at q'
          cases q'
          exact hT'
        · rw [Heap.get?_push_ne _ _ _ hbT] at q'
          exact k2 b o hb hbi q'
    refine ⟨.ref s.heap.objs.size, upd H s.heap.objs.size (.tup [.int i, x]), I1, rfl, ⟨_, rfl, hn, fun ys hy => ⟨x, by rw [I.tuple_inj hy hq]; exact hx, rfl⟩⟩, ⟨⟨u, by simpa using he'⟩, hit'.at fun o y => (hs'.2 it (Ne.symm hei)).trans y⟩, fun b hb => ?_⟩
    rcases List.mem_cons.mp hb with rfl | hb
    · rw [upd_ne (Nat.ne_of_lt elt)]; exact e0
    · have : b = it := by simpa using hb
      subst this
      obtain ⟨o, ho, _⟩ := hit
      rw [upd_ne (Nat.ne_of_lt (Heap.lt_size ho))]; exact f0
  done := by
    intro X hP hw hK hc i pins s σ H E I hf st hg
    subst hP hw hK
    obtain ⟨xs, hq, hx⟩ := hg
    obtain ⟨its, rv, p, hz⟩ := I.tuple hq
    obtain ⟨⟨old, he⟩, hit⟩ := st
    obtain ⟨f0, f1, f2, f3, f4, f5⟩ := hf it (by simp)
    have hl := rv.length
    have hh := I.ok.hd hc
    refine l2_enum_end he (fun A' hA' Q' E' hq' => l2_nextOf_end (hA'.trans hh) hit (show s.heap.IsTuple a its.toArray from p) (by simp; omega) hq') fun g k => ⟨rfl, I.turned (t' := s.toks) (fun b o hb z => k b o hb z) f0 f1 f3 f4 f5⟩
  self := fun _ _ _ _ _ st h => let ⟨⟨_, he⟩, _⟩ := st; wpAny_pyIter_enum he h
section
variable {X : Cx} {c : Ct} {k : Kd} {es : List Expr} {x1 : Nat} {tp pos p : Pos}
def enuD (ds : List D) : List D := (List.range ds.length).map fun (i : Nat) => D.tup [.int i, ds.getD i .non]
def enuA (f : FE) : FA := fun ρ => (f ρ).bind fun d => match d with
  | .tup ds => some (enuD ds)
  | _ => none
theorem itok_enum {K : PySem.W.Frag} {W : Hp} {a : Addr} {xs : List V} {ds : List D} (h1 : SqT K W a xs) (h2 : Reps K W xs ds) : ItOk K W (Ite K a) (enuD ds) := by
  have l := h2.length
  have el : (enuD ds).length = ds.length := by simp [enuD]
  refine ⟨fun i d H e s => ?_, fun H s => ⟨_, Same.seqT s h1, by rw [el, ← l]; exact Nat.le_refl _⟩⟩
  have hi : i < ds.length := by rw [← el]; exact (List.getElem?_eq_some_iff.mp e).1
  have ex : xs[i]? = some xs[i] := List.getElem?_eq_getElem (by omega)
  refine ⟨⟨_, xs[i], Same.seqT s h1, ex⟩, fun y H' ⟨T, e2, hT, e3⟩ => ?_⟩
  subst e2
  obtain ⟨z, e4, e5⟩ := e3 _ (Same.seqT s h1)
  subst e5
  refine ⟨same_new hT _, fun hid tr sw => ?_⟩
  have hf : hid T = false := by
    cases eh : hid T with
    | false => rfl
    | true => obtain ⟨o, ho⟩ := tr T eh; rw [hT] at ho; cases ho
  obtain ⟨d', e6, r6⟩ := h2.get' e4
  have ed : d = .tup [.int i, d'] := by
    unfold enuD at e
    rw [List.getElem?_map, List.getElem?_range hi] at e
    have : ds.getD i .non = d' := by simp [List.getD, e6]
    rw [Option.map_some, this] at e
    exact (Option.some.inj e).symm
  rw [ed]
  exact rep_newT hT hf (.cons .int (.cons (r6.mono sw) .nil))
theorem dip_enum {iter : Expr} {f : FE} (h : DP X c .s iter f) (hm : X.mg "enumerate" = none) (hg : Gl X "enumerate" := by rfl) (hs : starEach [iter] X.env = [(false, eval iter X.env)] := by rfl) : DIp X c (.Tuple es x1 tp) (.Call (.Name "enumerate" p) [iter] [] pos) (enuA f) := by
  intro hid ρ pins s σ H R I hq
  obtain ⟨sr, ds, hd, q⟩ := hq
  unfold enuA at hd
  cases e1 : f ρ with
  | none => rw [e1] at hd; cases hd
  | some z =>
    rw [e1] at hd
    cases z with
    | tup us =>
      cases hd
      refine Call_ (ld_blt (u := .type "enumerate") I hg hm (by kernel_rfl) (PyProof.Rows.callWith_type1 (thn (pa_cons (h hid ρ) pa_nil hs pos pins s σ H (fun vs H' => ∃ v, vs = [v] ∧ Same H H' ∧ Rep X.K (vw H' hid) v (.tup us)) I ⟨sr, _, e1, fun v H' s' r => ⟨v, rfl, s', r⟩⟩) fun vs s1 ⟨ws, H1, I1, r1, w, e, s', r⟩ => ?_) hs rfl))
      subst e
      cases r1 with
      | cons ra rb =>
        cases rb
        cases r with
        | tup t1 t2 =>
          cases ra
          obtain ⟨its, rv, pt, hz⟩ := I1.tuple (Same.seqT (vw_le _ _) t1)
          refine l2_call_enumT (show s1.heap.IsTuple _ its.toArray from pt) fun g he hit hsz hk => ?_
          refine wpAny_pyIter_enum he ⟨_, [s1.heap.objs.size + 1, s1.heap.objs.size], _, _, H1, rfl, I1.kept (t' := s1.toks) fun b o e => hk b o e, turn_enumT _ _ _ (Nat.ne_of_gt (Nat.lt_succ_self _)), ⟨⟨_, he⟩, hit⟩, fun b hb => ?_, q _ H1 s' (itok_enum t1 t2)⟩
          rcases List.mem_cons.mp hb with rfl | hb
          · exact I1.fpOk (Nat.le_succ _) (I1.hok.fresh (Nat.le_succ _))
          · have : b = s1.heap.objs.size := by simpa using hb
            subst this
            exact I1.fpOk (Nat.le_refl _) (I1.hok.fresh (Nat.le_refl _))
    | _ => cases hd
end
end L2
set_option Elab.async false
set_option linter.all false
set_option maxRecDepth 100000
namespace L2
open PySem PySem.W PySem.Calls PyProof.Rows
section
variable {prog : Program} {w : World} {A : Around} {E : Value → Shared → Prop} {s : Shared} {κ : SortKind} {it : Array Keyed}
end
/-! by data: a rising list of tuples of ints, of any length -/
/-! xs.extend(a new list) -/
section
variable {X : Cx} {c : Ct} {e : Expr} {y : Str} {py apos pos : Pos} {g : FE}
end
end L2
set_option Elab.async false
set_option linter.all false
set_option maxRecDepth 100000
set_option maxHeartbeats 1000000
namespace L2
open PySem PySem.Spec PyProof.Rows
/-! ### evaluation of mirrors -/
def szK {α : Type} (d : α) (n : Nat) : Option α := if n ≤ sizeLine then some d else none
def szL {α : Type} (d : α) (n : Nat) : Option α := if n < sizeLine then some d else none
theorem szK_small {α : Type} {d : α} {n : Nat} (h : n ≤ 1000) : szK d n = some d := if_pos (Nat.le_of_lt (small1000 h))
theorem szL_small {α : Type} {d : α} {n : Nat} (h : n ≤ 1000) : szL d n = some d := if_pos (small1000 h)
theorem tupF_ev (fs : FA) (ρ : Rho) : tupF fs ρ = (fs ρ).bind fun ds => szK (.tup ds) ds.length := rfl
theorem lstF_ev (fs : FA) (ρ : Rho) : lstF fs ρ = (fs ρ).bind fun ds => szK (.lst ds) ds.length := rfl
theorem compF_ev (m : Nat) (gi : FA) (g : FG) (p : FT) (f : FE) (ρ : Rho) : compF m gi g p f ρ = (gi ρ).bind fun ds => (szK () ds.length).bind fun _ => (compL g p f (ρ ++ List.replicate m .no) ds).map D.lst := by
  unfold compF szK
  congr 1; funext ds
  split <;> rfl
theorem appM_ev (bs : List D) (d : D) : appM bs [d] = szL (.non, bs ++ [d]) bs.length := rfl
theorem popM_ev (bs : List D) (i : Int) : popM bs [.int i] = (szK () bs.length).bind fun _ => (ixN bs.length i).bind fun j => (bs[j]?).map fun d => (d, bs.eraseIdx j) := by
  unfold popM szK
  dsimp only
  split
  · rename_i j e
    split at e
    · rw [if_pos ‹_›, e]; rfl
    · cases e
  · rename_i e
    split at e
    · rw [if_pos ‹_›, e]; rfl
    · rw [if_neg ‹_›]; rfl
def rngK (ds : List D) : Option (List D) := match ds with
  | [.int j] => if j.natAbs < 4000000000 then some (ups 0 j.toNat) else none
  | _ => none
theorem rngA1_ev (f : FA) (ρ : Rho) : rngA1 f ρ = (f ρ).bind rngK := rfl
theorem rngK_int {j : Int} (h : j.natAbs ≤ 1000) : rngK [.int j] = some (ups 0 j.toNat) := by
  show (if j.natAbs < 4000000000 then some (ups 0 j.toNat) else none) = _
  rw [if_pos (by omega)]
theorem addF_int (i j : Int) : addF (.int i) (.int j) = some (.int (i + j)) := rfl
theorem subF_int (i j : Int) : subF (.int i) (.int j) = some (.int (i - j)) := rfl
theorem ltF_int (i j : Int) : ltF (.int i) (.int j) = some (.bl (decide (i < j))) := rfl
theorem geF_int (i j : Int) : geF (.int i) (.int j) = some (.bl (decide (j ≤ i))) := rfl
theorem modF_int {i j : Int} (h : 0 < j) : modF (.int i) (.int j) = some (.int (i % j)) := by
  unfold modF i2
  dsimp only
  rw [if_pos (by simpa using h)]
theorem lt1000 {n : Nat} (h : n < 10 ^ 200) : n < 2 ^ 1000 := Nat.lt_of_lt_of_le h (by decide)
theorem mulF_int {i j : Int} (h1 : i.natAbs < 10 ^ 200) (h2 : j.natAbs < 10 ^ 200) : mulF (.int i) (.int j) = some (.int (i * j)) := by
  unfold mulF i2
  dsimp only
  rw [if_pos (by rw [decide_eq_true (lt1000 h1), decide_eq_true (lt1000 h2)]; rfl)]
theorem fdivF_int {i j : Int} (h1 : 0 < j) (h2 : j.natAbs < 10 ^ 200) : fdivF (.int i) (.int j) = some (.int (i / j)) := by
  unfold fdivF i2
  dsimp only
  rw [if_pos (by rw [decide_eq_true h1, decide_eq_true (lt1000 h2)]; rfl)]
theorem powF_int {i j : Int} (h0 : 0 ≤ j) (h1 : j ≤ 1000000) (h2 : i.natAbs < 2 ^ 64) : powF (.int i) (.int j) = some (.int (i ^ j.toNat)) := by
  unfold powF i2
  dsimp only
  rw [if_pos (by rw [decide_eq_true h0, decide_eq_true h1, decide_eq_true h2]; rfl)]
theorem eqF_ev {x y : D} (h : dep x ≤ 32) : eqF x y = some (.bl (eqD x y)) := if_pos h
theorem neF_ev {x y : D} (h : dep x ≤ 32) : neF x y = some (.bl (!eqD x y)) := if_pos h
theorem eqD_int (i j : Int) : eqD (.int i) (.int j) = decide (i = j) := by
  unfold eqD
  rw [Bool.eq_iff_iff]; simp
theorem dep_int (i : Int) : dep (.int i) = 0 := by unfold dep; rfl
/-- a bag of digits -/
structure Bag (N : Nat) (a b : Int) : Prop where
  a0 : 0 ≤ a
  a1 : a.natAbs < 10 ^ 180
  b0 : 0 ≤ b
  b1 : b ≤ N
  lo : b ≠ 0 → a.natAbs < 2147483647
abbrev bagD (a b : Int) : List D := [.int a, .int b]
def tC_cell : FS :=
  seqS (ifS (toB (op2 ltF (nmF 1) (callF lenD (consA (nmF 0) (nilA))))) (retF (op2 ixD (nmF 0) (nmF 1))) (skip))
  (retF (cst (.int 0)))
def mC_cell : List D → Option D := fnP .s 2 tC_cell
def tC_bag : FS :=
  seqS (setF 2 (op2 modF (callF absI (consA (callF (nF 2 mC_cell) (consA (nmF 0) (consA (nmF 1) (nilA)))) (nilA))) (op2 mulF (op2 mulF (op2 powF (cst (.int 10)) (cst (.int 60))) (op2 powF (cst (.int 10)) (cst (.int 60)))) (op2 powF (cst (.int 10)) (cst (.int 60))))))
  (seqS (ifS (toB (op2 geF (nmF 2) (op2 powF (cst (.int 10)) (cst (.int 18))))) (retF (lstF (consA (nmF 2) (consA (cst (.int 0)) (nilA))))) (skip))
  (seqS (setF 3 (op2 modF (op2 addF (op2 addF (nmF 2) (op2 mulF (cst (.int 7919)) (nmF 1))) (cst (.int 17))) (cst (.int 2147483647))))
  (seqS (forS (puA (rngA1 (consA (callF min2D (consA (callF lenD (consA (nmF 0) (nilA))) (consA (cst (.int 9)) (nilA)))) (nilA)))) (gN 4) (setF 3 (op2 modF (op2 addF (op2 addF (op2 powF (nmF 3) (cst (.int 5))) (op2 modF (op2 ixD (nmF 0) (nmF 4)) (cst (.int 2147483629)))) (op2 mulF (cst (.int 31)) (nmF 4))) (cst (.int 2147483647)))))
  (retF (lstF (consA (nmF 3) (consA (cst (.int 1)) (nilA))))))))
def mC_bag : List D → Option D := fnP .n 5 tC_bag
def tC_take : FS :=
  seqS (ifS (toB (op2 eqF (op2 ixD (nbF 0) (cst (.int 1))) (cst (.int 0)))) (seqS (setF 2 (op2 modF (op2 ixD (nbF 0) (cst (.int 0))) (nmF 1)))
  (seqS (asgE (setIx 0 (cst (.int 0))) (pu (op2 fdivF (op2 ixD (nbF 0) (cst (.int 0))) (nmF 1))))
  (retF (nmF 2)))) (skip))
  (seqS (asgE (setIx 0 (cst (.int 0))) (pu (op2 modF (op2 addF (op2 addF (op2 powF (op2 ixD (nbF 0) (cst (.int 0))) (cst (.int 5))) (op2 mulF (cst (.int 48271)) (op2 ixD (nbF 0) (cst (.int 1))))) (cst (.int 11))) (cst (.int 2147483647)))))
  (seqS (asgE (setIx 0 (cst (.int 1))) (pu (op2 addF (op2 ixD (nbF 0) (cst (.int 1))) (cst (.int 1)))))
  (retF (op2 modF (op2 fdivF (op2 modF (op2 mulF (op2 ixD (nbF 0) (cst (.int 0))) (cst (.int 69621))) (cst (.int 2147483629))) (cst (.int 8))) (nmF 1)))))
def mC_take : List D → List D → Option (D × List D) := fnE .s 3 tC_take
def tC_order : FS :=
  seqS (ownF 2 (lr1 (nmF 1)))
  (seqS (ownF 3 (lstF (nilA)))
  (seqS (whL (toB (op2 neF (nbF 2) (lstF (nilA)))) (dropE (callE 3 1 appM (consG (callE 2 1 popM (consG (callE 0 1 mC_take (puA (consA (callF lenD (consA (nbF 2) (nilA))) (nilA)))) (puA (nilA)))) (puA (nilA))))) 16)
  (retO 3)))
def mC_order : List D → List D → Option (D × List D) := fnE .n 4 tC_order
theorem natAbs_mod {i m : Int} (h : 0 < m) : 0 ≤ i % m ∧ i % m < m := ⟨Int.emod_nonneg _ (by omega), Int.emod_lt_of_pos _ h⟩
theorem take_ev {N : Nat} {a b m : Int} (B : Bag N a b) (hN : N ≤ 1000000000) (hm : 0 < m) (hm2 : m.natAbs < 10 ^ 20) : ∃ d a' b', mC_take (bagD a b) [.int m] = some (.int d, bagD a' b') ∧ Bag (N + 1) a' b' ∧ 0 ≤ d ∧ d < m := by
  have hm3 : m.natAbs < 10 ^ 200 := Nat.lt_of_lt_of_le hm2 (by decide)
  by_cases hb : b = 0
  · subst hb
    refine ⟨a % m, a / m, 0, ?_, ⟨Int.ediv_nonneg B.a0 (by omega), ?_, by omega, by omega, fun z => absurd rfl z⟩, natAbs_mod hm⟩
    · simp [mC_take, fnE, tC_take, rhoE, bagD, seqS, ifS, toB, op2, ixD, nbF, nmF, cst, eqF_ev, eqD_int, dep_int, asB, atI, ixN, setF, modF_int hm, asgE, pu, fdivF_int hm hm3, setIx, getB, setB, outO, retF, arg0]
    · have h1 := B.a1
      have : a / m ≤ a := Int.ediv_le_self _ B.a0
      have : 0 ≤ a / m := Int.ediv_nonneg B.a0 (by omega)
      omega
  · have lo := B.lo hb
    have p1 : a.natAbs < 2 ^ 64 := Nat.lt_trans lo (by decide)
    have p2 : b.natAbs < 10 ^ 200 := Nat.lt_of_lt_of_le (show b.natAbs < 10 ^ 10 by have := B.b1; have := B.b0; omega) (by decide)
    generalize hA : (a ^ 5 + 48271 * b + 11) % 2147483647 = A
    have hA' : 0 ≤ A ∧ A < 2147483647 := by rw [← hA]; exact natAbs_mod (by decide)
    have p3 : A.natAbs < 10 ^ 200 := Nat.lt_of_lt_of_le (show A.natAbs < 10 ^ 10 by omega) (by decide)
    refine ⟨A * 69621 % 2147483629 / 8 % m, A, b + 1, ?_, ⟨hA'.1, ?_, by have := B.b0; omega, by have := B.b1; omega, fun _ => by omega⟩, natAbs_mod hm⟩
    · have c1 : (48271 : Int).natAbs < 10 ^ 200 := Nat.lt_of_lt_of_le (show (48271 : Int).natAbs < 10 ^ 10 by decide) (by decide)
      have c2 : (69621 : Int).natAbs < 10 ^ 200 := Nat.lt_of_lt_of_le (show (69621 : Int).natAbs < 10 ^ 10 by decide) (by decide)
      have c3 : (8 : Int).natAbs < 10 ^ 200 := Nat.lt_of_lt_of_le (show (8 : Int).natAbs < 10 ^ 10 by decide) (by decide)
      have e1 : powF (.int a) (.int 5) = some (.int (a ^ 5)) := powF_int (by decide) (by decide) p1
      have e2 : mulF (.int 48271) (.int b) = some (.int (48271 * b)) := mulF_int c1 p2
      have e3 : ∀ i : Int, modF (.int i) (.int 2147483647) = some (.int (i % 2147483647)) := fun i => modF_int (by decide)
      have e4 : ∀ i : Int, modF (.int i) (.int 2147483629) = some (.int (i % 2147483629)) := fun i => modF_int (by decide)
      have e5 : mulF (.int A) (.int 69621) = some (.int (A * 69621)) := mulF_int p3 c2
      have e6 : ∀ i : Int, fdivF (.int i) (.int 8) = some (.int (i / 8)) := fun i => fdivF_int (by decide) c3
      simp [mC_take, fnE, tC_take, rhoE, bagD, seqS, ifS, toB, op2, ixD, nbF, nmF, cst, eqF_ev, eqD_int, dep_int, asB, atI, ixN, hb, skip, e1, e2, e3, e4, addF_int, asgE, pu, setIx, getB, setB, outO, retF, arg0, hA, e5, e6, modF_int hm]
    · exact Nat.lt_of_lt_of_le (show A.natAbs < 10 ^ 10 by omega) (by decide)
end L2
set_option Elab.async false
set_option linter.all false
set_option maxRecDepth 100000
set_option maxHeartbeats 1000000
namespace L2
open PySem PySem.Spec PyProof.Rows
theorem seq_at {t u : FS} {ρ ρ' : Rho} (h : t ρ = .nx ρ') : seqS t u ρ = u ρ' := by unfold seqS; rw [h]
theorem seq_rt {t u : FS} {ρ ρ' : Rho} {d : D} (h : t ρ = .rt d ρ') : seqS t u ρ = .rt d ρ' := by unfold seqS; rw [h]
abbrev nI (i : Nat) : D := .int (i : Int)
abbrev scD (ns : List Int) : D := .scr (ns.map D.int)
theorem ups_N (n : Nat) : ups 0 n = (List.range n).map nI := by
  unfold ups
  simp
theorem ixN_nat {n j : Nat} (h : j < n) : ixN n (j : Int) = some j := by
  unfold ixN
  rw [if_pos (by omega), if_pos (by omega)]; simp
theorem cell_ev (ns : List Int) (k : Nat) : ∃ c, mC_cell [scD ns, nI k] = some (.int c) := by
  by_cases h : k < ns.length
  · refine ⟨ns[k], ?_⟩
    simp [mC_cell, fnP, tC_cell, rho0, seqS, ifS, toB, op2, nmF, callF, consA, nilA, lenD, ltF_int, asB, h, retF, ixD, atI, ixN_nat (show k < (ns.map D.int).length by simpa using h)]
    simp [ixN_nat h, h]
  · refine ⟨0, ?_⟩
    simp [mC_cell, fnP, tC_cell, rho0, seqS, ifS, toB, op2, nmF, callF, consA, nilA, lenD, ltF_int, asB, h, retF, skip, cst]
theorem bag_loop (ns : List Int) (k : D) (c : D) : ∀ (l : List Nat), (∀ i ∈ l, i < ns.length ∧ i < 1000) → ∀ (x : Int) (s4 : Sl), 0 ≤ x → x < 2147483647 → ∃ (x' : Int) (s4' : Sl), 0 ≤ x' ∧ x' < 2147483647 ∧
    forL (gN 4) (setF 3 (op2 modF (op2 addF (op2 addF (op2 powF (nmF 3) (cst (.int 5))) (op2 modF (op2 ixD (nmF 0) (nmF 4)) (cst (.int 2147483629)))) (op2 mulF (cst (.int 31)) (nmF 4))) (cst (.int 2147483647)))) (l.map nI) [.v (scD ns), .v k, .v c, .v (.int x), s4] = .nx [.v (scD ns), .v k, .v c, .v (.int x'), s4']
  | [], _, x, s4, h1, h2 => ⟨x, s4, h1, h2, rfl⟩
  | i :: l, hl, x, s4, h1, h2 => by
    obtain ⟨hi, hi2⟩ := hl i (by simp)
    have e1 : powF (.int x) (.int 5) = some (.int (x ^ 5)) := powF_int (by decide) (by decide) (Nat.lt_of_lt_of_le (show x.natAbs < 10 ^ 10 by omega) (by decide))
    have e2 : mulF (.int 31) (nI i) = some (.int (31 * i)) := mulF_int (Nat.lt_of_lt_of_le (show (31 : Int).natAbs < 10 ^ 10 by decide) (by decide)) (Nat.lt_of_lt_of_le (show (i : Int).natAbs < 10 ^ 10 by omega) (by decide))
    have e3 : ∀ i : Int, modF (.int i) (.int 2147483647) = some (.int (i % 2147483647)) := fun i => modF_int (by decide)
    have e4 : ∀ i : Int, modF (.int i) (.int 2147483629) = some (.int (i % 2147483629)) := fun i => modF_int (by decide)
    obtain ⟨y1, y2⟩ := natAbs_mod (i := x ^ 5 + ns[i] % 2147483629 + 31 * i) (m := 2147483647) (by decide)
    obtain ⟨x', s4', g1, g2, g3⟩ := bag_loop ns k c l (fun j hj => hl j (by simp [hj])) _ (.v (nI i)) y1 y2
    refine ⟨x', s4', g1, g2, ?_⟩
    rw [← g3]
    simp [forL, gN, setF, op2, nmF, cst, e1, e2, e3, e4, ixD, atI, ixN_nat (show i < (ns.map D.int).length by simpa using hi), ixN_nat hi, hi, addF_int]
theorem bag_ev (ns : List Int) (k : Nat) (hk : k ≤ 1000) (hn : ns.length ≤ 63) : ∃ a b, mC_bag [scD ns, nI k] = some (.lst (bagD a b)) ∧ Bag 1 a b := by
  obtain ⟨c, hc⟩ := cell_ev ns k
  have p1 : powF (.int 10) (.int 60) = some (.int (10 ^ 60)) := powF_int (by decide) (by decide) (by decide)
  have p2 : powF (.int 10) (.int 18) = some (.int (10 ^ 18)) := powF_int (by decide) (by decide) (by decide)
  have q60 : ((10 : Int) ^ 60).natAbs < 10 ^ 200 := by decide
  have q120 : ((10 : Int) ^ 60 * 10 ^ 60).natAbs < 10 ^ 200 := by decide
  have m1 : mulF (.int (10 ^ 60)) (.int (10 ^ 60)) = some (.int (10 ^ 60 * 10 ^ 60)) := mulF_int q60 q60
  have m2 : mulF (.int (10 ^ 60 * 10 ^ 60)) (.int (10 ^ 60)) = some (.int (10 ^ 60 * 10 ^ 60 * 10 ^ 60)) := mulF_int q120 q60
  have m3 : mulF (.int 7919) (nI k) = some (.int (7919 * k)) := mulF_int (Nat.lt_of_lt_of_le (show (7919 : Int).natAbs < 10 ^ 10 by decide) (by decide)) (Nat.lt_of_lt_of_le (show (k : Int).natAbs < 10 ^ 10 by omega) (by decide))
  generalize hA : (if c < 0 then -c else c) % (10 ^ 60 * 10 ^ 60 * 10 ^ 60) = A
  have hA' : 0 ≤ A ∧ A < 10 ^ 60 * 10 ^ 60 * 10 ^ 60 := by rw [← hA]; exact natAbs_mod (by decide)
  have s1 : setF 2 (op2 modF (callF absI (consA (callF (nF 2 mC_cell) (consA (nmF 0) (consA (nmF 1) (nilA)))) (nilA))) (op2 mulF (op2 mulF (op2 powF (cst (.int 10)) (cst (.int 60))) (op2 powF (cst (.int 10)) (cst (.int 60)))) (op2 powF (cst (.int 10)) (cst (.int 60))))) [.v (scD ns), .v (nI k), .no, .no, .no] = .nx [.v (scD ns), .v (nI k), .v (.int A), .no, .no] := by
    have m4 : ∀ i : Int, modF (.int i) (.int (10 ^ 60 * 10 ^ 60 * 10 ^ 60)) = some (.int (i % (10 ^ 60 * 10 ^ 60 * 10 ^ 60))) := fun i => modF_int (by decide)
    unfold setF
    have : op2 modF (callF absI (consA (callF (nF 2 mC_cell) (consA (nmF 0) (consA (nmF 1) (nilA)))) (nilA))) (op2 mulF (op2 mulF (op2 powF (cst (.int 10)) (cst (.int 60))) (op2 powF (cst (.int 10)) (cst (.int 60)))) (op2 powF (cst (.int 10)) (cst (.int 60)))) [.v (scD ns), .v (nI k), .no, .no, .no] = some (.int A) := by
      have ec : callF (nF 2 mC_cell) (consA (nmF 0) (consA (nmF 1) nilA)) [.v (scD ns), .v (nI k), .no, .no, .no] = some (.int c) := hc
      simp only [op2, callF, consA, nilA, cst, Option.bind_some, p1, m1, m2, absI]
      have ec' : ((nmF 0 [.v (scD ns), .v (nI k), .no, .no, .no]).bind fun d => ((nmF 1 [.v (scD ns), .v (nI k), .no, .no, .no]).bind fun d => (some []).map fun r => d :: r).map fun r => d :: r).bind (nF 2 mC_cell) = some (.int c) := hc
      rw [ec']
      simp only [Option.bind_some, Option.map_some, m4, absI, hA]
    rw [this]; rfl
  have r0 : rho0 5 [scD ns, nI k] = [.v (scD ns), .v (nI k), .no, .no, .no] := rfl
  unfold mC_bag fnP tC_bag
  rw [r0, seq_at s1]
  have hA180 : A.natAbs < 10 ^ 180 := by
    have : (10 : Int) ^ 60 * 10 ^ 60 * 10 ^ 60 = ((10 ^ 180 : Nat) : Int) := by decide
    rw [this] at hA'
    omega
  by_cases hb : (10 : Int) ^ 18 ≤ A
  · refine ⟨A, 0, ?_, ⟨hA'.1, hA180, by decide, by decide, fun z => absurd rfl z⟩⟩
    simp only [seqS, ifS, toB, op2, nmF, List.getElem?_cons_succ, List.getElem?_cons_zero, Option.bind_some, cst, p2, geF_int, asB, decide_eq_true hb, retF, lstF_ev, consA, nilA, Option.map_some]
    rw [szK_small (by simp)]
  · generalize hx : (A + 7919 * (k : Int) + 17) % 2147483647 = x
    have hx' : 0 ≤ x ∧ x < 2147483647 := by rw [← hx]; exact natAbs_mod (by decide)
    have m4 : modF (.int (A + 7919 * (k : Int) + 17)) (.int 2147483647) = some (.int x) := by rw [modF_int (by decide), hx]
    have hr : rngA1 (consA (callF min2D (consA (callF lenD (consA (nmF 0) (nilA))) (consA (cst (.int 9)) (nilA)))) (nilA)) [.v (scD ns), .v (nI k), .v (.int A), .v (.int x), .no] = some ((List.range (min ns.length 9)).map nI) := by
      rw [rngA1_ev]
      simp only [callF, consA, nilA, nmF, cst, List.getElem?_cons_zero, Option.bind_some, Option.map_some, lenD, min2D, List.length_map]
      have : (if (9 : Int) < (ns.length : Int) then (9 : Int) else (ns.length : Int)) = ((min ns.length 9 : Nat) : Int) := by split <;> omega
      rw [this, rngK_int (by omega), ups_N, Int.toNat_natCast]
    obtain ⟨x', s4', g1, g2, g3⟩ := bag_loop ns (nI k) (.int A) (List.range (min ns.length 9)) (fun i hi => by have := List.mem_range.mp hi; omega) x .no hx'.1 hx'.2
    refine ⟨x', 1, ?_, ⟨g1, Nat.lt_of_lt_of_le (show x'.natAbs < 10 ^ 10 by omega) (by decide), by decide, by decide, fun _ => by omega⟩⟩
    have f1 : forS (puA (rngA1 (consA (callF min2D (consA (callF lenD (consA (nmF 0) (nilA))) (consA (cst (.int 9)) (nilA)))) (nilA)))) (gN 4) (setF 3 (op2 modF (op2 addF (op2 addF (op2 powF (nmF 3) (cst (.int 5))) (op2 modF (op2 ixD (nmF 0) (nmF 4)) (cst (.int 2147483629)))) (op2 mulF (cst (.int 31)) (nmF 4))) (cst (.int 2147483647)))) [.v (scD ns), .v (nI k), .v (.int A), .v (.int x), .no] = .nx [.v (scD ns), .v (nI k), .v (.int A), .v (.int x'), s4'] := by
      unfold forS puA
      rw [hr]
      exact g3
    have i1 : ifS (toB (op2 geF (nmF 2) (op2 powF (cst (.int 10)) (cst (.int 18))))) (retF (lstF (consA (nmF 2) (consA (cst (.int 0)) (nilA))))) (skip) [.v (scD ns), .v (nI k), .v (.int A), .no, .no] = .nx [.v (scD ns), .v (nI k), .v (.int A), .no, .no] := by
      simp only [ifS, toB, op2, nmF, List.getElem?_cons_succ, List.getElem?_cons_zero, Option.bind_some, cst, p2, geF_int, asB, decide_eq_false hb, skip]
    have i2 : setF 3 (op2 modF (op2 addF (op2 addF (nmF 2) (op2 mulF (cst (.int 7919)) (nmF 1))) (cst (.int 17))) (cst (.int 2147483647))) [.v (scD ns), .v (nI k), .v (.int A), .no, .no] = .nx [.v (scD ns), .v (nI k), .v (.int A), .v (.int x), .no] := by
      simp only [setF, op2, nmF, List.getElem?_cons_succ, List.getElem?_cons_zero, Option.bind_some, cst, m3, addF_int, m4, List.set_cons_succ, List.set_cons_zero]
    rw [seq_at i1, seq_at i2, seq_at f1]
    simp only [retF, lstF_ev, consA, nilA, nmF, cst, List.getElem?_cons_succ, List.getElem?_cons_zero, Option.bind_some, Option.map_some]
    rw [szK_small (by simp)]
end L2
set_option Elab.async false
set_option linter.all false
set_option maxRecDepth 100000
set_option maxHeartbeats 1000000
namespace L2
open PySem PySem.Spec PyProof.Rows
theorem callE_at {i n : Nat} {M : List D → List D → Option (D × List D)} {fs : GA} {ρ ρ1 : Rho} {b0 bs ds bs' : List D} {d : D} (h0 : getB i ρ = some b0) (h1 : fs ρ = some (ds, ρ1)) (h2 : getB i ρ1 = some bs) (h3 : ds.length = n) (h4 : M bs ds = some (d, bs')) : callE i n M fs ρ = some (d, setB i bs' ρ1) := by
  unfold callE
  rw [h0]; dsimp only; rw [h1]; dsimp only; rw [h2]; dsimp only; rw [if_pos h3, h4]
theorem consG_at {f : GE} {fs : GA} {ρ ρ1 ρ2 : Rho} {d : D} {ds : List D} (h1 : f ρ = some (d, ρ1)) (h2 : fs ρ1 = some (ds, ρ2)) : consG f fs ρ = some (d :: ds, ρ2) := by
  unfold consG bE; rw [h1]; dsimp only [Option.bind]; rw [h2]; rfl
theorem puA_at {f : FA} {ρ : Rho} {ds : List D} (h : f ρ = some ds) : puA f ρ = some (ds, ρ) := by unfold puA; rw [h]; rfl
theorem pu_at {f : FE} {ρ : Rho} {d : D} (h : f ρ = some d) : pu f ρ = some (d, ρ) := by unfold pu; rw [h]; rfl
theorem erase_map {α β : Type} (f : α → β) : ∀ (l : List α) (j : Nat), (l.map f).eraseIdx j = (l.eraseIdx j).map f
  | [], _ => rfl
  | _ :: _, 0 => rfl
  | x :: l, j + 1 => by simp [erase_map f l j]
theorem erase_perm {α : Type} : ∀ (l : List α) (j : Nat) (h : j < l.length), (l[j] :: l.eraseIdx j).Perm l
  | _ :: _, 0, _ => .refl _
  | x :: l, j + 1, h => by
    have ih := erase_perm l j (by simpa using h)
    exact (List.Perm.swap _ _ _).trans (ih.cons x)
theorem deps_N : ∀ r : List Nat, deps (r.map nI) = 0
  | [] => by simp [deps]
  | a :: r => by
    rw [List.map_cons]
    unfold deps
    rw [deps_N r]
    simp [dep]
theorem dep_lstN (r : List Nat) : dep (.lst (r.map nI)) ≤ 32 := by unfold dep; rw [deps_N]; omega
theorem dep_tupN (r : List Nat) : dep (.tup (r.map nI)) ≤ 32 := by unfold dep; rw [deps_N]; omega
abbrev whO : FS → Nat → FS := fun b n => whL (toB (op2 neF (nbF 2) (lstF (nilA)))) b n
abbrev bodyO : FS := dropE (callE 3 1 appM (consG (callE 2 1 popM (consG (callE 0 1 mC_take (puA (consA (callF lenD (consA (nbF 2) (nilA))) (nilA)))) (puA (nilA)))) (puA (nilA))))
theorem testO (n : D) (bg : List D) (left found : List Nat) : toB (op2 neF (nbF 2) (lstF (nilA))) [.arg bg, .v n, .own (left.map nI), .own (found.map nI)] = some (!left.isEmpty) := by
  have h0 : lstF nilA [.arg bg, .v n, .own (left.map nI), .own (found.map nI)] = some (.lst []) := by
    rw [lstF_ev]; simp only [nilA, Option.bind_some]; exact szK_small (by simp)
  unfold toB op2
  rw [h0]
  simp only [nbF, List.getElem?_cons_succ, List.getElem?_cons_zero, Option.bind_some]
  rw [neF_ev (dep_lstN left)]
  cases left with
  | nil => simp [asB, eqD, eqDs]
  | cons x r => simp [asB, eqD, eqDs]
theorem bodyO_ev (n : D) {N : Nat} {a b : Int} (B : Bag N a b) (hN : N ≤ 1000000000) (left found : List Nat) (h0 : 0 < left.length) (h1 : left.length ≤ 100) (h2 : found.length ≤ 100) :
    ∃ (j : Nat) (hj : j < left.length) (a' b' : Int), bodyO [.arg (bagD a b), .v n, .own (left.map nI), .own (found.map nI)] = .nx [.arg (bagD a' b'), .v n, .own ((left.eraseIdx j).map nI), .own ((found ++ [left[j]]).map nI)] ∧ Bag (N + 1) a' b' := by
  obtain ⟨d, a', b', e, B', d0, d1⟩ := take_ev (m := left.length) B hN (by omega) (Nat.lt_of_lt_of_le (show (left.length : Int).natAbs < 10 ^ 10 by omega) (by decide))
  obtain ⟨j, rfl⟩ : ∃ j : Nat, d = (j : Int) := ⟨d.toNat, by omega⟩
  have hj : j < left.length := by omega
  refine ⟨j, hj, a', b', ?_, B'⟩
  have e2 : popM (left.map nI) [.int (j : Int)] = some (nI left[j], (left.eraseIdx j).map nI) := by
    rw [popM_ev, szK_small (by simp; omega)]
    simp only [Option.bind_some]
    rw [ixN_nat (by simpa using hj)]
    simp [hj, erase_map]
  have e3 : appM (found.map nI) [nI left[j]] = some (.non, (found ++ [left[j]]).map nI) := by
    rw [appM_ev, szL_small (by simp; omega)]; simp
  have g : callE 0 1 mC_take (puA (consA (callF lenD (consA (nbF 2) (nilA))) (nilA))) [.arg (bagD a b), .v n, .own (left.map nI), .own (found.map nI)] = some (nI j, [.arg (bagD a' b'), .v n, .own (left.map nI), .own (found.map nI)]) := by
    simp [callE, getB, puA, consA, callF, nbF, nilA, lenD, e, setB]
  have g2 : callE 2 1 popM (consG (callE 0 1 mC_take (puA (consA (callF lenD (consA (nbF 2) (nilA))) (nilA)))) (puA (nilA))) [.arg (bagD a b), .v n, .own (left.map nI), .own (found.map nI)] = some (nI left[j], [.arg (bagD a' b'), .v n, .own ((left.eraseIdx j).map nI), .own (found.map nI)]) := by
    refine (callE_at (i := 2) (n := 1) (b0 := left.map nI) (ds := [nI j]) (ρ1 := [.arg (bagD a' b'), .v n, .own (left.map nI), .own (found.map nI)]) rfl (consG_at g rfl) rfl rfl e2).trans rfl
  have g3 : callE 3 1 appM (consG (callE 2 1 popM (consG (callE 0 1 mC_take (puA (consA (callF lenD (consA (nbF 2) (nilA))) (nilA)))) (puA (nilA)))) (puA (nilA))) [.arg (bagD a b), .v n, .own (left.map nI), .own (found.map nI)] = some (.non, [.arg (bagD a' b'), .v n, .own ((left.eraseIdx j).map nI), .own ((found ++ [left[j]]).map nI)]) := by
    refine (callE_at (i := 3) (n := 1) (b0 := found.map nI) (ds := [nI left[j]]) (ρ1 := [.arg (bagD a' b'), .v n, .own ((left.eraseIdx j).map nI), .own (found.map nI)]) rfl (consG_at g2 rfl) rfl rfl e3).trans rfl
  unfold bodyO dropE
  rw [g3]
theorem loopO (n : D) : ∀ (f : Nat) (left found : List Nat) (N : Nat) (a b : Int), left.length < f → left.length ≤ 50 → found.length + left.length ≤ 100 → Bag N a b → N + left.length ≤ 1000000000 →
    ∃ (o : List Nat) (a' b' : Int), whO bodyO f [.arg (bagD a b), .v n, .own (left.map nI), .own (found.map nI)] = .nx [.arg (bagD a' b'), .v n, .own [], .own ((found ++ o).map nI)] ∧ o.Perm left ∧ Bag (N + left.length) a' b'
  | 0, left, found, N, a, b, h, _, _, _, _ => absurd h (Nat.not_lt_zero _)
  | f + 1, left, found, N, a, b, h, h1, h2, B, hN => by
    unfold whO whL
    rw [testO]
    cases e : left.isEmpty with
    | true =>
      have : left = [] := by simpa using e
      subst this
      exact ⟨[], a, b, by simp, .refl _, by simpa using B⟩
    | false =>
      have h0 : 0 < left.length := by cases left with
        | nil => cases e
        | cons x r => simp
      obtain ⟨j, hj, a1, b1, e1, B1⟩ := bodyO_ev n B (by omega) left found h0 (by omega) (by omega)
      have hl : (left.eraseIdx j).length = left.length - 1 := by rw [List.length_eraseIdx]; simp [hj]
      obtain ⟨o, a2, b2, e2, p, B2⟩ := loopO n f (left.eraseIdx j) (found ++ [left[j]]) (N + 1) a1 b1 (by omega) (by omega) (by simp; omega) B1 (by omega)
      refine ⟨left[j] :: o, a2, b2, ?_, ?_, ?_⟩
      · simp only [Bool.not_false]
        rw [e1]
        dsimp only
        have : whL (toB (op2 neF (nbF 2) (lstF nilA))) bodyO f = whO bodyO f := rfl
        rw [this, e2]
        simp
      · exact (p.cons _).trans (erase_perm left j hj)
      · rw [show N + left.length = N + 1 + (left.eraseIdx j).length by omega]; exact B2
/-- an order of 0 .. n - 1 -/
structure Ord (n : Nat) (r : List Nat) : Prop where
  perm : r.Perm (List.range n)
theorem Ord.len {n : Nat} {r : List Nat} (o : Ord n r) : r.length = n := by rw [o.perm.length_eq]; simp
theorem Ord.lt {n : Nat} {r : List Nat} (o : Ord n r) {v : Nat} (h : v ∈ r) : v < n := by simpa using o.perm.mem_iff.mp h
theorem Ord.has {n : Nat} {r : List Nat} (o : Ord n r) {v : Nat} (h : v < n) : v ∈ r := o.perm.mem_iff.mpr (by simpa using h)
theorem Ord.nd {n : Nat} {r : List Nat} (o : Ord n r) : r.Nodup := o.perm.nodup_iff.mpr List.nodup_range
theorem lr_ev {n : Nat} (h : n ≤ 1000) (f : FE) (ρ : Rho) (e : f ρ = some (nI n)) : lr1 f ρ = some (.lst ((List.range n).map nI)) := by
  unfold lr1 lrF1
  rw [e]
  simp only [Option.bind_some]
  rw [if_pos (by omega), ups_N]; rfl
theorem order_ev {N : Nat} {a b : Int} (B : Bag N a b) {n : Nat} (hn : n ≤ 12) (hN : N ≤ 900000000) : ∃ (o : List Nat) (a' b' : Int), mC_order (bagD a b) [nI n] = some (.lst (o.map nI), bagD a' b') ∧ Ord n o ∧ Bag (N + n) a' b' := by
  obtain ⟨o, a', b', e, p, B'⟩ := loopO (nI n) 16 (List.range n) [] N a b (by simp; omega) (by simp; omega) (by simp; omega) B (by simp; omega)
  refine ⟨o, a', b', ?_, ⟨p⟩, by simpa using B'⟩
  have r0 : rhoE 4 (bagD a b) [nI n] = [.arg (bagD a b), .v (nI n), .no, .no] := rfl
  have s1 : ownF 2 (lr1 (nmF 1)) [.arg (bagD a b), .v (nI n), .no, .no] = .nx [.arg (bagD a b), .v (nI n), .own ((List.range n).map nI), .no] := by
    unfold ownF
    rw [lr_ev (n := n) (by omega) (nmF 1) _ rfl]
    rfl
  have s2 : ownF 3 (lstF (nilA)) [.arg (bagD a b), .v (nI n), .own ((List.range n).map nI), .no] = .nx [.arg (bagD a b), .v (nI n), .own ((List.range n).map nI), .own []] := by
    unfold ownF
    rw [lstF_ev]
    simp only [nilA, Option.bind_some]
    rw [szK_small (by simp)]
    rfl
  unfold mC_order fnE tC_order
  rw [r0, seq_at s1, seq_at s2]
  have e' : whL (toB (op2 neF (nbF 2) (lstF (nilA)))) bodyO 16 [.arg (bagD a b), .v (nI n), .own ((List.range n).map nI), .own []] = .nx [.arg (bagD a' b'), .v (nI n), .own [], .own (o.map nI)] := e
  rw [seq_at e']
  simp [retO, getO, arg0]
end L2
set_option Elab.async false
set_option linter.all false
set_option maxRecDepth 100000
set_option maxHeartbeats 1000000
namespace L2
open PySem PySem.Spec PyProof.Rows
theorem op2_at {F : D → D → Option D} {f g : FE} {ρ : Rho} {x y : D} (h1 : f ρ = some x) (h2 : g ρ = some y) : op2 F f g ρ = F x y := by unfold op2; rw [h1, Option.bind_some, h2, Option.bind_some]
theorem op2E_at {F : D → D → Option D} {f g : GE} {ρ ρ1 ρ2 : Rho} {x y d : D} (h1 : f ρ = some (x, ρ1)) (h2 : g ρ1 = some (y, ρ2)) (h3 : F x y = some d) : op2E F f g ρ = some (d, ρ2) := by
  unfold op2E bE; rw [h1]; dsimp only [Option.bind]; rw [h2]; dsimp only [Option.bind]; rw [h3]; rfl
theorem setF_at {i : Nat} {f : FE} {ρ : Rho} {d : D} (h : f ρ = some d) : setF i f ρ = .nx (ρ.set i (.v d)) := by unfold setF; rw [h]
theorem setE_at {i : Nat} {f : GE} {ρ ρ1 : Rho} {d : D} (h : f ρ = some (d, ρ1)) : setE i f ρ = .nx (ρ1.set i (.v d)) := by unfold setE; rw [h]
theorem ownE_at {i : Nat} {f : GE} {ρ ρ1 : Rho} {ds : List D} (h : f ρ = some (.lst ds, ρ1)) : ownE i f ρ = .nx (ρ1.set i (.own ds)) := by unfold ownE; rw [h]; rfl
theorem ownF_at {i : Nat} {f : FE} {ρ : Rho} {ds : List D} (h : f ρ = some (.lst ds)) : ownF i f ρ = .nx (ρ.set i (.own ds)) := by unfold ownF; rw [h]; rfl
theorem tupF_at {f : FA} {ρ : Rho} {ds : List D} (h : f ρ = some ds) (h2 : ds.length ≤ 1000) : tupF f ρ = some (.tup ds) := by
  rw [tupF_ev, h, Option.bind_some, szK_small h2]
theorem lstF_at {f : FA} {ρ : Rho} {ds : List D} (h : f ρ = some ds) (h2 : ds.length ≤ 1000) : lstF f ρ = some (.lst ds) := by
  rw [lstF_ev, h, Option.bind_some, szK_small h2]
theorem consA_at {f : FE} {fs : FA} {ρ : Rho} {d : D} {ds : List D} (h1 : f ρ = some d) (h2 : fs ρ = some ds) : consA f fs ρ = some (d :: ds) := by unfold consA; rw [h1, h2]; rfl
theorem callF_at {F : List D → Option D} {f : FA} {ρ : Rho} {ds : List D} (h : f ρ = some ds) : callF F f ρ = F ds := by unfold callF; rw [h]; rfl
theorem atI_N {r : List Nat} {c : Nat} (h : c < r.length) : atI (r.map nI) (c : Int) = some (nI (r.getD c 0)) := atI_nat (by rw [List.getElem?_map, List.getElem?_eq_getElem h]; simp [List.getD, h])
theorem ixL_N {r : List Nat} {c : Nat} (h : c < r.length) : ixD (.lst (r.map nI)) (nI c) = some (nI (r.getD c 0)) := atI_N h
theorem ixT_N {r : List Nat} {c : Nat} (h : c < r.length) : ixD (.tup (r.map nI)) (nI c) = some (nI (r.getD c 0)) := atI_N h
theorem eqD_nI (a b : Nat) : eqD (nI a) (nI b) = decide (a = b) := by
  rw [eqD_int]; rw [Bool.eq_iff_iff]; simp; omega
theorem addN (a b : Nat) : addF (nI a) (nI b) = some (nI (a + b)) := by rw [addF_int]; simp
theorem add1 (a : Nat) : addF (nI a) (.int 1) = some (nI (a + 1)) := by rw [addF_int]; simp
theorem modN {a n : Nat} (h : 0 < n) : modF (nI a) (nI n) = some (nI (a % n)) := by rw [modF_int (by omega)]; rfl
theorem setIx_at {i : Nat} {fi : FE} {d : D} {ρ : Rho} {bs : List D} {j : Nat} (h1 : getB i ρ = some bs) (h2 : fi ρ = some (nI j)) (h3 : j < bs.length) : setIx i fi d ρ = some (setB i (bs.set j d) ρ) := by
  unfold setIx
  rw [h1]; dsimp only; rw [h2]; dsimp only; rw [ixN_nat h3]
theorem map_setN (x : List Nat) (j v : Nat) : (x.map nI).set j (nI v) = (x.set j v).map nI := by rw [List.map_set]
/-! the law's square -/
def fixS (n : Nat) (r x : List Nat) (c : Nat) : List Nat := if x.getD c 0 = r.getD c 0 then (x.set c (x.getD ((c + 1) % n) 0)).set ((c + 1) % n) (x.getD c 0) else x
abbrev turnQ : FS := seqS (setF 7 (op2 modF (op2 addF (nmF 6) (cst (.int 1))) (nmF 1)))
  (ifS (toB (op2 eqF (op2 ixD (nbF 5) (nmF 6)) (op2 ixD (nmF 4) (nmF 6)))) (asgE (gT 2 (gsC (setIx 5 (nmF 6)) (gsC (setIx 5 (nmF 7)) (gsN)))) (pu (tupF (consA (op2 ixD (nbF 5) (nmF 7)) (consA (op2 ixD (nbF 5) (nmF 6)) (nilA)))))) (skip))
theorem turnQ_ev (bg : List D) (p q : D) (n : Nat) (r x : List Nat) (c : Nat) (s7 : Sl) (hr : r.length = n) (hx : x.length = n) (hc : c < n) :
    turnQ [.arg bg, .v (nI n), .v p, .v q, .v (.lst (r.map nI)), .own (x.map nI), .v (nI c), s7] = .nx [.arg bg, .v (nI n), .v p, .v q, .v (.lst (r.map nI)), .own ((fixS n r x c).map nI), .v (nI c), .v (nI ((c + 1) % n))] := by
  have hd : (c + 1) % n < n := Nat.mod_lt _ (by omega)
  have e1 : setF 7 (op2 modF (op2 addF (nmF 6) (cst (.int 1))) (nmF 1)) [.arg bg, .v (nI n), .v p, .v q, .v (.lst (r.map nI)), .own (x.map nI), .v (nI c), s7] = .nx [.arg bg, .v (nI n), .v p, .v q, .v (.lst (r.map nI)), .own (x.map nI), .v (nI c), .v (nI ((c + 1) % n))] :=
    (setF_at ((op2_at (op2_at (x := nI c) (y := .int 1) rfl rfl |>.trans (add1 c)) (y := nI n) rfl).trans (modN (by omega)))).trans rfl
  unfold turnQ
  rw [seq_at e1]
  have i1 : op2 ixD (nbF 5) (nmF 6) [.arg bg, .v (nI n), .v p, .v q, .v (.lst (r.map nI)), .own (x.map nI), .v (nI c), .v (nI ((c + 1) % n))] = some (nI (x.getD c 0)) := (op2_at (x := .lst (x.map nI)) (y := nI c) rfl rfl).trans (ixL_N (by omega))
  have i2 : op2 ixD (nmF 4) (nmF 6) [.arg bg, .v (nI n), .v p, .v q, .v (.lst (r.map nI)), .own (x.map nI), .v (nI c), .v (nI ((c + 1) % n))] = some (nI (r.getD c 0)) := (op2_at (x := .lst (r.map nI)) (y := nI c) rfl rfl).trans (ixL_N (by omega))
  have i3 : op2 ixD (nbF 5) (nmF 7) [.arg bg, .v (nI n), .v p, .v q, .v (.lst (r.map nI)), .own (x.map nI), .v (nI c), .v (nI ((c + 1) % n))] = some (nI (x.getD ((c + 1) % n) 0)) := (op2_at (x := .lst (x.map nI)) (y := nI ((c + 1) % n)) rfl rfl).trans (ixL_N (by omega))
  unfold ifS toB
  rw [op2_at i1 i2, eqF_ev (by rw [dep_int]; omega), eqD_nI]
  by_cases e : x.getD c 0 = r.getD c 0
  · rw [decide_eq_true e]
    simp only [asB]
    unfold asgE
    rw [pu_at (tupF_at (consA_at i3 (consA_at i1 rfl)) (by simp))]
    simp only [gT, List.length_cons, List.length_nil, gsC]
    unfold fixS
    rw [if_pos e]
    rw [setIx_at (bs := x.map nI) (j := c) rfl rfl (by simp; omega)]
    simp only [Option.bind_some]
    rw [setIx_at (bs := (x.map nI).set c (nI (x.getD ((c + 1) % n) 0))) (j := (c + 1) % n) rfl rfl (by simp; omega)]
    simp only [Option.bind_some, gsN, map_setN]
    rfl
  · rw [decide_eq_false e]
    simp only [asB, skip]
    unfold fixS
    rw [if_neg e]
theorem swap_perm (x : List Nat) (c d : Nat) (hc : c < x.length) (hd : d < x.length) : ((x.set c (x.getD d 0)).set d (x.getD c 0)).Perm x := by
  have e : (x.toArray.swap c d (by simpa using hc) (by simpa using hd)).toList = (x.set c (x.getD d 0)).set d (x.getD c 0) := by
    simp [Array.toList_swap, List.getD, hc, hd]
  rw [← e]
  have := Array.swap_perm (xs := x.toArray) (i := c) (j := d) (by simpa using hc) (by simpa using hd)
  simpa using (Array.perm_iff_toList_perm.mp this)
theorem nd_inj {x : List Nat} (h : x.Nodup) {i j : Nat} (hi : i < x.length) (hj : j < x.length) (e : x.getD i 0 = x.getD j 0) : i = j := by
  have : x[i] = x[j] := by simpa [List.getD, hi, hj] using e
  exact (List.getElem_inj h).mp this
theorem Ord.fix {n : Nat} {r x : List Nat} (or : Ord n r) (ox : Ord n x) {c : Nat} (hc : c < n) (hn : 2 ≤ n) : Ord n (fixS n r x c) ∧ ((∀ i, i < c → x.getD i 0 ≠ r.getD i 0) → ∀ i, i < c + 1 → (fixS n r x c).getD i 0 ≠ r.getD i 0) := by
  have lx := ox.len
  have lr := or.len
  have hd : (c + 1) % n < n := Nat.mod_lt _ (by omega)
  have gx : ∀ i, i < n → x.getD i 0 = x[i]! := fun i hi => by simp [List.getD, lx, hi]
  unfold fixS
  by_cases e : x.getD c 0 = r.getD c 0
  · rw [if_pos e]
    have ne : (c + 1) % n ≠ c := by
      by_cases h : c + 1 < n
      · rw [Nat.mod_eq_of_lt h]; omega
      · rw [show c + 1 = n by omega, Nat.mod_self]; omega
    refine ⟨⟨(swap_perm x c _ (by omega) (by omega)).trans ox.perm⟩, fun h i hi => ?_⟩
    have g : ((x.set c (x.getD ((c + 1) % n) 0)).set ((c + 1) % n) (x.getD c 0)).getD i 0 = if i = (c + 1) % n then x.getD c 0 else if i = c then x.getD ((c + 1) % n) 0 else x.getD i 0 := by
      simp only [List.getD, List.getElem?_set, List.length_set]
      by_cases h1 : (c + 1) % n = i
      · subst h1; simp [lx, hd]
      · rw [if_neg h1, if_neg (Ne.symm h1)]
        by_cases h2 : c = i
        · subst h2; simp [lx, hc]
        · rw [if_neg h2, if_neg (Ne.symm h2)]
    rw [g]
    by_cases h1 : i = (c + 1) % n
    · rw [if_pos h1, e]
      intro z
      have := nd_inj or.nd (by omega) (by omega) z
      omega
    · rw [if_neg h1]
      by_cases h2 : i = c
      · rw [if_pos h2, h2, ← e]
        intro z
        have := nd_inj ox.nd (by omega) (by omega) z
        omega
      · rw [if_neg h2]; exact h i (by omega)
  · rw [if_neg e]
    refine ⟨ox, fun h i hi => ?_⟩
    by_cases hic : i = c
    · subst hic; exact e
    · exact h i (by omega)
theorem loopQ (bg : List D) (p q : D) {n : Nat} {r : List Nat} (or : Ord n r) (hn : 2 ≤ n) : ∀ (k c : Nat) (x : List Nat) (s6 s7 : Sl), c + k = n → Ord n x → (∀ i, i < c → x.getD i 0 ≠ r.getD i 0) →
    ∃ (x' : List Nat) (s6' s7' : Sl), forL (gN 6) turnQ ((List.range' c k).map nI) [.arg bg, .v (nI n), .v p, .v q, .v (.lst (r.map nI)), .own (x.map nI), s6, s7] = .nx [.arg bg, .v (nI n), .v p, .v q, .v (.lst (r.map nI)), .own (x'.map nI), s6', s7'] ∧ Ord n x' ∧ ∀ i, i < n → x'.getD i 0 ≠ r.getD i 0
  | 0, c, x, s6, s7, h, ox, hi => ⟨x, s6, s7, rfl, ox, fun i h' => hi i (by omega)⟩
  | k + 1, c, x, s6, s7, h, ox, hi => by
    obtain ⟨o1, o2⟩ := or.fix ox (c := c) (by omega) hn
    obtain ⟨x', a, b, e, o3, o4⟩ := loopQ bg p q or hn k (c + 1) (fixS n r x c) (.v (nI c)) (.v (nI ((c + 1) % n))) (by omega) o1 (o2 hi)
    refine ⟨x', a, b, ?_, o3, o4⟩
    rw [List.range'_succ, List.map_cons]
    unfold forL
    have : gN 6 (nI c) [.arg bg, .v (nI n), .v p, .v q, .v (.lst (r.map nI)), .own (x.map nI), s6, s7] = some [.arg bg, .v (nI n), .v p, .v q, .v (.lst (r.map nI)), .own (x.map nI), .v (nI c), s7] := rfl
    rw [this]
    dsimp only
    rw [turnQ_ev bg p q n r x c s7 or.len ox.len (by omega)]
    exact e
theorem compL_map {α : Type} {g : FG} {f : FE} {ρ0 : Rho} {h o : α → D} : ∀ (l : List α), (∀ i ∈ l, ∃ ρ1, g (h i) ρ0 = some ρ1 ∧ f ρ1 = some (o i)) → compL g yesT f ρ0 (l.map h) = some (l.map o)
  | [], _ => rfl
  | a :: l, H => by
    obtain ⟨ρ1, h1, h2⟩ := H a (by simp)
    have ih := compL_map l fun i hi => H i (by simp [hi])
    rw [List.map_cons]
    unfold compL
    rw [h1, Option.bind_some]
    simp only [yesT, Option.bind_some, if_true, h2, ih]
    rfl
theorem compF_at {m : Nat} {gi : FA} {g : FG} {p : FT} {f : FE} {ρ : Rho} {ds ys : List D} (h1 : gi ρ = some ds) (h2 : ds.length ≤ 1000) (h3 : compL g p f (ρ ++ List.replicate m .no) ds = some ys) : compF m gi g p f ρ = some (.lst ys) := by
  rw [compF_ev, h1, Option.bind_some, szK_small h2, Option.bind_some, h3]; rfl
theorem rot_ord : ∀ n, 2 ≤ n → n ≤ 6 → ∀ b, 1 ≤ b → b < n → Ord n ((List.range n).map fun i => (i + b) % n) := by
  intro n h1 h2 b h3 h4
  refine ⟨?_⟩
  have : ∀ n : _root_.Fin 7, ∀ b : _root_.Fin 7, ((List.range n.val).map fun i => (i + b.val) % n.val).isPerm (List.range n.val) = true ∨ ¬ (b.val < n.val) := by decide
  rcases this ⟨n, by omega⟩ ⟨b, by omega⟩ with h | h
  · exact List.isPerm_iff.mp h
  · exact absurd h4 h
abbrev tupN (r : List Nat) : D := .tup (r.map nI)
abbrev sqD (r x : List Nat) : D := .tup [tupN r, tupN x]
structure Sq (n : Nat) (r x : List Nat) : Prop where
  hr : Ord n r
  hx : Ord n x
  ne : ∀ i, i < n → x.getD i 0 ≠ r.getD i 0
theorem rngA1_at {f : FA} {ρ : Rho} {n : Nat} (h : f ρ = some [nI n]) (hn : n ≤ 1000) : rngA1 f ρ = some ((List.range n).map nI) := by
  rw [rngA1_ev, h, Option.bind_some, rngK_int (by omega), ups_N]; rfl
end L2
set_option Elab.async false
set_option linter.all false
set_option maxRecDepth 100000
set_option maxHeartbeats 1000000
namespace L2
open PySem PySem.Spec PyProof.Rows
theorem toN {j : Int} (h : 0 ≤ j) : D.int j = nI j.toNat := by show D.int j = D.int (j.toNat : Int); rw [Int.toNat_of_nonneg h]
theorem nF_at {n : Nat} {P : List D → Option D} {ds : List D} (h : ds.length = n) : nF n P ds = P ds := if_pos h
theorem asg_at {g : FG} {f : GE} {ρ ρ1 ρ2 : Rho} {d : D} (h1 : f ρ = some (d, ρ1)) (h2 : g d ρ1 = some ρ2) : asgE g f ρ = .nx ρ2 := by unfold asgE; rw [h1]; dsimp only; rw [h2]; rfl
theorem cl_at {n : Nat} {P : List D → Option D} {fs : FA} {ρ : Rho} {ds : List D} (h : fs ρ = some ds) (hl : ds.length = n) : callF (nF n P) fs ρ = P ds := (callF_at h).trans (nF_at hl)
theorem fnP_ret {kd : Kd} {n : Nat} {t : FS} {ds : List D} {ρ : Rho} {d : D} (h : t (rho0 n ds) = .rt d ρ) : fnP kd n t ds = some d := by unfold fnP; rw [h]
theorem retF_at {f : FE} {ρ : Rho} {d : D} (h : f ρ = some d) : retF f ρ = .rt d ρ := by unfold retF; rw [h]
theorem ifS_f {p : FT} {t u : FS} {ρ : Rho} (h : p ρ = some false) : ifS p t u ρ = u ρ := by unfold ifS; rw [h]
theorem ifS_t {p : FT} {t u : FS} {ρ : Rho} (h : p ρ = some true) : ifS p t u ρ = t ρ := by unfold ifS; rw [h]
theorem or2_at {p q : FT} {ρ : Rho} {b : Bool} (h1 : p ρ = some false) (h2 : q ρ = some b) : or2 p q ρ = some b := by unfold or2; rw [h1]; exact h2
theorem or2_t {p q : FT} {ρ : Rho} (h1 : p ρ = some true) : or2 p q ρ = some true := by unfold or2; rw [h1]; rfl
theorem and2_at {p q : FT} {ρ : Rho} {b : Bool} (h1 : p ρ = some true) (h2 : q ρ = some b) : and2 p q ρ = some b := by unfold and2; rw [h1]; exact h2
theorem and2_f {p q : FT} {ρ : Rho} (h1 : p ρ = some false) : and2 p q ρ = some false := by unfold and2; rw [h1]; rfl
theorem and2_bb {p q : FT} {ρ : Rho} {a b : Bool} (h1 : p ρ = some a) (h2 : a = true → q ρ = some b) (h3 : a = false → b = false) : and2 p q ρ = some b := by
  cases a with
  | true => exact and2_at h1 (h2 rfl)
  | false => rw [h3 rfl]; exact and2_f h1
theorem asD_at {p : FT} {ρ : Rho} {b : Bool} (h : p ρ = some b) : asD p ρ = some (.bl b) := by unfold asD; rw [h]; rfl
theorem dropE_at {f : GE} {ρ ρ1 : Rho} {d : D} (h : f ρ = some (d, ρ1)) : dropE f ρ = .nx ρ1 := by unfold dropE; rw [h]
theorem toB_at {f : FE} {ρ : Rho} {b : Bool} (h : f ρ = some (.bl b)) : toB f ρ = some b := by unfold toB; rw [h]; rfl
theorem tru_bl {f : FE} {ρ : Rho} {b : Bool} (h : f ρ = some (.bl b)) : tru1 f ρ = some b := by unfold tru1; rw [h]; rfl
theorem not_at {p : FT} {ρ : Rho} {b : Bool} (h : p ρ = some b) : not1 p ρ = some (!b) := by unfold not1; rw [h]; rfl
theorem ne_same {x : D} (h : dep x ≤ 32) : neF x x = some (.bl false) := by rw [neF_ev h, eqD_refl]; rfl
theorem forL_cons {g : FG} {b : FS} {d : D} {r : List D} {ρ ρ1 ρ2 : Rho} (h1 : g d ρ = some ρ1) (h2 : b ρ1 = .nx ρ2) : forL g b (d :: r) ρ = forL g b r ρ2 := by
  show (match g d ρ with
    | none => Out.no
    | some ρ1 => match b ρ1 with
      | .nx ρ2 => forL g b r ρ2
      | .ct ρ2 => forL g b r ρ2
      | .bk ρ2 => .nx ρ2
      | .rt d ρ2 => .rt d ρ2
      | .no => .no) = _
  rw [h1]; dsimp only; rw [h2]
theorem forS_at {f : GA} {g : FG} {b : FS} {ρ ρ1 : Rho} {ds : List D} (h : f ρ = some (ds, ρ1)) : forS f g b ρ = forL g b ds ρ1 := by unfold forS; rw [h]
theorem fnP_ex {kd : Kd} {n : Nat} {t : FS} {ds : List D} {d : D} (h : ∃ ρ, t (rho0 n ds) = .rt d ρ) : fnP kd n t ds = some d := let ⟨_, h⟩ := h; fnP_ret h
theorem seq_ex {t u : FS} {ρ : Rho} {d : D} (P : Rho → Prop) (h : ∃ ρ', t ρ = .nx ρ' ∧ P ρ') (hu : ∀ ρ', P ρ' → ∃ ρ'', u ρ' = .rt d ρ'') : ∃ ρ'', seqS t u ρ = .rt d ρ'' := by
  obtain ⟨ρ', h1, h2⟩ := h
  obtain ⟨ρ'', h3⟩ := hu ρ' h2
  exact ⟨ρ'', (seq_at h1).trans h3⟩
theorem forS_ex {f : GA} {g : FG} {b : FS} {ρ ρ1 : Rho} {ds : List D} {P : Rho → Prop} (h : f ρ = some (ds, ρ1)) (hl : ∃ ρ', forL g b ds ρ1 = .nx ρ' ∧ P ρ') : ∃ ρ', forS f g b ρ = .nx ρ' ∧ P ρ' := by
  obtain ⟨ρ', h1, h2⟩ := hl
  exact ⟨ρ', (forS_at h).trans h1, h2⟩
theorem forL_ex {g : FG} {b : FS} {P : Rho → Prop} : ∀ (l : List D), (∀ d ∈ l, ∀ ρ, P ρ → ∃ ρ1 ρ2, g d ρ = some ρ1 ∧ b ρ1 = .nx ρ2 ∧ P ρ2) → ∀ ρ, P ρ → ∃ ρ', forL g b l ρ = .nx ρ' ∧ P ρ'
  | [], _, ρ, p => ⟨ρ, rfl, p⟩
  | d :: l, h, ρ, p => by
    obtain ⟨ρ1, ρ2, h1, h2, p2⟩ := h d (by simp) ρ p
    obtain ⟨ρ', e, p'⟩ := forL_ex l (fun d' hd => h d' (by simp [hd])) ρ2 p2
    exact ⟨ρ', (forL_cons h1 h2).trans e, p'⟩
theorem ixm (i : Int) {n : Nat} (h : 0 < n) : (i % (n : Int)).toNat < n ∧ (((i % (n : Int)).toNat : Nat) : Int) = i % n := by
  have := natAbs_mod (i := i) (m := n) (by omega)
  omega
/-- a comprehension with a test -/
theorem compL_flt {α : Type} {g : FG} {p : FT} {f : FE} {ρ0 : Rho} {h o : α → D} {q : α → Bool} : ∀ (l : List α), (∀ i ∈ l, ∃ ρ1, g (h i) ρ0 = some ρ1 ∧ p ρ1 = some (q i) ∧ (q i = true → f ρ1 = some (o i))) → compL g p f ρ0 (l.map h) = some ((l.filter q).map o)
  | [], _ => rfl
  | a :: l, H => by
    obtain ⟨ρ1, h1, h2, h3⟩ := H a (by simp)
    have ih := compL_flt l fun i hi => H i (by simp [hi])
    rw [List.map_cons]
    unfold compL
    rw [h1, Option.bind_some, h2, Option.bind_some]
    cases e : q a with
    | true => rw [if_pos rfl, h3 e, Option.bind_some, ih]; simp [e]
    | false => rw [if_neg (by simp), ih]; simp [e]
theorem len_lstN (r : List Nat) (ρ : Rho) (f : FE) (h : f ρ = some (.lst (r.map nI))) : callF lenD (consA f nilA) ρ = some (nI r.length) := by
  rw [callF_at (consA_at h rfl)]
  show some (D.int ((r.map nI).length : Int)) = _
  rw [List.length_map]
theorem len_tupN (r : List Nat) (ρ : Rho) (f : FE) (h : f ρ = some (tupN r)) : callF lenD (consA f nilA) ρ = some (nI r.length) := by
  rw [callF_at (consA_at h rfl)]
  show some (D.int ((r.map nI).length : Int)) = _
  rw [List.length_map]
theorem subN (a b : Nat) : subF (nI a) (nI b) = some (.int ((a : Int) - b)) := subF_int _ _
end L2
set_option Elab.async false
set_option linter.all false
set_option maxRecDepth 100000
set_option maxHeartbeats 1000000
namespace L2
open PySem PySem.Spec PyProof.Rows
def tC_order_exchanged : FS :=
  seqS (ownF 3 (callF listD (consA (nmF 0) (nilA))))
  (seqS (asgE (gT 2 (gsC (setIx 3 (nmF 1)) (gsC (setIx 3 (nmF 2)) (gsN)))) (pu (tupF (consA (op2 ixD (nmF 0) (nmF 2)) (consA (op2 ixD (nmF 0) (nmF 1)) (nilA))))))
  (retF (callF tupleD (consA (nbF 3) (nilA)))))
def mC_order_exchanged : List D → Option D := fnP .s 4 tC_order_exchanged
/-! ### places round -/
def inB (n s e x : Nat) : Bool := decide (((x : Int) - s) % n < ((e : Int) - s) % n)
/-! cells -/
def cellK (A B : List Nat) : List (List Int) := A.flatMap fun (a : Nat) => B.map fun (b : Nat) => [(a : Int), (b : Int)]
/-! the mirrors -/
/-! the stand behind, and whether it is bare -/
def exO (o : List Nat) (a b : Nat) : List Nat := (o.set a (o.getD b 0)).set b (o.getD a 0)
theorem exch_ev {n : Nat} {o : List Nat} (ho : o.length = n) {a b : Nat} (ha : a < n) (hb : b < n) : mC_order_exchanged [tupN o, nI a, nI b] = some (tupN (exO o a b)) := by
  apply fnP_ret (kd := .s) (n := 4) (t := tC_order_exchanged)
  unfold tC_order_exchanged
  refine (seq_at (ρ' := [.v (tupN o), .v (nI a), .v (nI b), .own (o.map nI)]) ((ownF_at (ds := o.map nI) rfl).trans rfl)).trans ?_
  refine (seq_at (ρ' := [.v (tupN o), .v (nI a), .v (nI b), .own ((exO o a b).map nI)]) (asg_at (pu_at (tupF_at (consA_at ((op2_at (x := tupN o) (y := nI b) rfl rfl).trans (ixT_N (by omega))) (consA_at ((op2_at (x := tupN o) (y := nI a) rfl rfl).trans (ixT_N (by omega))) rfl)) (by simp))) ?_)).trans (retF_at rfl)
  simp only [gT, List.length_cons, List.length_nil, gsC]
  rw [setIx_at (bs := o.map nI) (j := a) rfl rfl (by simp; omega)]
  simp only [Option.bind_some]
  rw [setIx_at (bs := (o.map nI).set a (nI (o.getD b 0))) (j := b) rfl rfl (by simp; omega)]
  simp only [Option.bind_some, gsN, map_setN]
  rfl
end L2
set_option Elab.async false
set_option linter.all false
set_option maxRecDepth 100000
set_option maxHeartbeats 1000000
namespace L2
open PySem PySem.Spec PyProof.Rows
theorem eqDs_I : ∀ k l : List Int, eqDs (k.map D.int) (l.map D.int) = decide (k = l)
  | [], [] => by simp [eqDs]
  | [], _ :: _ => by simp [eqDs]
  | _ :: _, [] => by simp [eqDs]
  | a :: k, b :: l => by
    rw [List.map_cons, List.map_cons]
    unfold eqDs
    rw [eqDs_I k l, eqD_int, Bool.eq_iff_iff]
    simp
theorem eqD_tpI (k l : List Int) : eqD (tpI k) (tpI l) = decide (k = l) := by
  unfold tpI eqD
  exact eqDs_I k l
theorem Ord.get {n : Nat} {o : List Nat} (O : Ord n o) {i : Nat} (h : i < n) : o.getD i 0 < n := by
  have ho := O.len
  have : o.getD i 0 = o[i]'(by omega) := by simp [List.getD, ho, h]
  rw [this]; exact O.lt (List.getElem_mem _)
theorem Ord.inj {n : Nat} {o : List Nat} (O : Ord n o) {i j : Nat} (hi : i < n) (hj : j < n) (e : o.getD i 0 = o.getD j 0) : i = j := nd_inj O.nd (by rw [O.len]; exact hi) (by rw [O.len]; exact hj) e
end L2
set_option Elab.async false
set_option linter.all false
set_option maxRecDepth 100000
set_option maxHeartbeats 1000000
namespace L2
open PySem PySem.Spec PyProof.Rows
end L2
set_option Elab.async false
set_option linter.all false
set_option maxRecDepth 100000
set_option maxHeartbeats 1000000
namespace L2
open PySem PySem.Spec PyProof.Rows
end L2
set_option Elab.async false
set_option linter.all false
set_option maxRecDepth 100000
namespace L2
open PySem PySem.Spec PyProof.Rows
section
variable {X : Cx} {K : PySem.W.Frag}
end
section
variable {X : Cx} {c : Ct} {k : Kd} {pos : Pos}
/-- a, b = x, y with names of one's own -/
def parF (i j : Nat) (fs : FA) : FS := fun ρ => match fs ρ with
  | some [d1, d2] => .nx ((ρ.set i (.v d1)).set j (.v d2))
  | _ => .no
theorem ds_par (i j : Nat) {x y : Str} {a b : Expr} {fs : FA} {px py pt : Pos} {kt k2 pt2} (hc : X.calm = true) (hN : X.N.Nodup) (ha : DA X c [a, b] fs) (hi : X.N[i]? = some x := by rfl) (hj : X.N[j]? = some y := by rfl) (hij : i ≠ j := by decide)
    (hx : X.env.scope.names.lookup x = some .local := by rfl) (hy : X.env.scope.names.lookup y = some .local := by rfl)
    (hw : swappedStores [.Tuple [.Name x px, .Name y py] kt pt] (.Tuple [a, b] k2 pt2) X.env = pure (some [x, y]) := by rfl)
    (hs : swapsWithSole [.Tuple [.Name x px, .Name y py] kt pt] (.Tuple [a, b] k2 pt2) pos.line X.env = pure false := by rfl) :
    DS X c k (.Assign [.Tuple [.Name x px, .Name y py] kt pt] (.Tuple [a, b] k2 pt2) pos) (parF i j fs) := fun ρ =>
  PS.imp (ps_par hc hN hi hj hij hx hy (exPA fun hid => ha hid ρ) hw hs) fun D σ H ⟨hid, sr, q⟩ => by
    unfold parF at q
    cases e1 : fs ρ with
    | none => rw [e1] at q; exact q.elim
    | some ds =>
      rw [e1] at q
      match ds, e1, q with
      | [], _, q => exact q.elim
      | [_], _, q => exact q.elim
      | _ :: _ :: _ :: _, _, q => exact q.elim
      | [d1, d2], e1, q =>
        refine ⟨hid, sr, [d1, d2], e1, fun vs H1 s1 r1 => ?_⟩
        cases r1 with
        | cons r1 t =>
          cases t with
          | cons r2 t =>
            cases t
            exact ⟨_, _, rfl, q _ H1 hid (((sr.ext s1).setV r1 i).setV r2 j) (vw_same s1)⟩
end
end L2
set_option Elab.async false
set_option linter.all false
set_option maxRecDepth 100000
namespace L2
open PySem PySem.W PySem.Spec PyProof.Rows
/-! sorted of tuples whose first two items are ints, no two alike: the rest is never asked -/
section
variable {prog : Program} {w : World} {A : Around} {s : Shared} {b fin : Bool} {Q : Bool → Shared → Prop}
end
end L2
set_option Elab.async false
set_option linter.all false
set_option maxRecDepth 100000
namespace L2
open PySem PySem.Spec PyProof.Rows
section
variable {X : Cx} {c : Ct} {k : Kd} {es : List Expr} {x1 : Nat} {tp pos p : Pos}
end
/-! a, b, c = x, y, z with names of one's own -/
section
variable {X : Cx} {c : Ct} {k : Kd} {pos : Pos}
end
end L2
set_option Elab.async false
set_option linter.all false
set_option maxRecDepth 100000
set_option maxHeartbeats 1000000
namespace L2
open PySem PySem.Spec PyProof.Rows
/-! ### list.insert, list.pop() -/
theorem Reps.insertIdx {K : PySem.W.Frag} {F : Hp} {x : V} {u : D} (r : Rep K F x u) {xs : List V} {us : List D} (i : Nat) (h : Reps K F xs us) : Reps K F (xs.take i ++ x :: xs.drop i) (us.take i ++ u :: us.drop i) := (h.take i).append (.cons r (h.drop i))
def rInsert : V → List V → Hp → VK → Prop := fun x vs H Q => ∃ l xs i y, x = .ref l ∧ vs = [.int i, y] ∧ H l = some (.lst xs) ∧ 0 ≤ i ∧ i ≤ xs.length ∧ xs.length < sizeLine ∧ Q .non (upd H l (.lst (xs.take i.toNat ++ y :: xs.drop i.toNat)))
section
variable {X : Cx}
theorem mt_insert : MtM X "list.insert" rInsert := by
  intro pins s σ H x vs v us Q I rx rv h
  obtain ⟨l, xs, i, y, rfl, rfl, hH, h1, h2, hz, q⟩ := h
  cases rx
  cases rv with
  | cons r0 r1 => cases r1 with
    | cons r1 r2 =>
      cases r2
      obtain ⟨t, rfl⟩ := r0
      rename_i w
      obtain ⟨z, its, n, r, hl, e⟩ := I.lstM hH
      have l63 := line63
      have fit : Builtin.List.listFitsIndex i = true := by
        have := fitsIndex_both (k := i) (by omega) (by omega)
        simpa using this
      refine call_meets F.slot_list_insert ⟨_, e, rfl⟩ F.entry_list_insert (F.args_list_insert_3 _ _ _) (AutoSeq1.list_insert_list_int_val_1 l its.toArray n i t w (by rw [fit]; simp) (by rw [List.size_toArray]; omega)) ⟨e, ?_⟩
      refine ⟨.non, _, I.lset (its' := its.take i.toNat ++ w :: its.drop i.toNat) hH e ?_ ((r.take _).append (.cons r1 (r.drop _))) ?_, rfl, q⟩
      · show (its.toArray.extract 0 (if i < 0 then (i + (its.toArray.size : Int)).toNat else min i.toNat its.toArray.size)).push w ++ its.toArray.extract (if i < 0 then (i + (its.toArray.size : Int)).toNat else min i.toNat its.toArray.size) = _
        rw [if_neg (by omega), List.size_toArray, show min i.toNat its.length = i.toNat by omega]
        apply Array.ext'
        have hh : its.length - (i.toNat) + i.toNat = its.length := by omega
        simp [List.take_of_length_le]
      · rw [List.length_append, List.length_cons, List.length_take, List.length_drop]; omega
end
def insM : List D → List D → Option (D × List D) := fun bs ds => match ds with
  | [.int i, d] => if 0 ≤ i ∧ i ≤ bs.length ∧ bs.length < sizeLine then some (.non, bs.take i.toNat ++ d :: bs.drop i.toNat) else none
  | _ => none
theorem md_insert {K : PySem.W.Frag} : MtD K rInsert 2 insM := by
  intro H hid a xs us bs ds bs' d Q h1 h2 h3 h4 h5 h6 q
  unfold insM at h6
  split at h6
  · split at h6
    · rename_i hc
      cases h6
      cases h4 with
      | cons r0 t0 => cases t0 with
        | cons r1 t1 =>
          cases t1
          cases r0
          exact ⟨a, xs, _, _, rfl, rfl, h1, hc.1, by rw [h3.length]; exact hc.2.1, by rw [h3.length]; exact hc.2.2, q _ _ (h3.insertIdx r1 _) .non⟩
    · cases h6
  · cases h6
/-! ### list + list -/
section
variable {X : Cx} {c : Ct} {a b e : Expr} {f g : FE} {pos p p2 p3 : Pos} {k : Kd}
def rCatL (K : PySem.W.Frag) : R2 := fun x y H Q => ∃ l b xs zs, x = .ref l ∧ y = .ref b ∧ SqL K H l xs ∧ SqL K H b zs ∧ xs.length + zs.length ≤ sizeLine ∧ ∀ p, H p = none → Q (.ref p) (upd H p (.lst (xs ++ zs)))
theorem op_catL : OpR X (binaryOp .Add) (rCatL X.K) := by
  intro pins s σ H x y v u Q I rx ry h
  obtain ⟨l, b, xs, zs, rfl, rfl, hL, hB, hz, q⟩ := h
  cases rx
  cases ry
  obtain ⟨its, r, ⟨o, n, e, c1, d1, t1⟩, z1⟩ := I.list hL
  obtain ⟨its2, r2, ⟨o2, n2, e2, c2, d2, t2⟩, z2⟩ := I.list hB
  obtain ⟨oc, od, ot, sl⟩ := o
  obtain ⟨oc2, od2, ot2, sl2⟩ := o2
  dsimp only at c1 d1 t1 c2 d2 t2
  subst c1 d1 t1 c2 d2 t2
  have hl := r.length
  have hl2 := r2.length
  refine concat_meets ⟨_, e, rfl⟩ ⟨_, e2, rfl⟩ noFill_list_add seq_list_add PySem.F.slot_list_add PySem.F.entry_list_add (PySem.F.args_list_add_2 _ _) (list_addW l b its.toArray its2.toArray n n2 none none sl sl2 (by rw [List.size_toArray, List.size_toArray]; omega)) ⟨e, e2, ?_⟩
  have ea : its.toArray ++ its2.toArray = (its ++ its2).toArray := by simp
  rw [ea]
  exact ⟨.ref _, _, I.lnew (t' := s.toks) (r.append r2) (by rw [List.length_append]; omega), rfl, q _ I.fresh⟩
def catLF : D → D → Option D
  | .lst xs, .lst ys => if xs.length + ys.length ≤ sizeLine then some (.lst (xs ++ ys)) else none
  | _, _ => none
theorem od_catL {K : PySem.W.Frag} : OpD K .n (rCatL K) catLF := by
  intro H hid v u x y d Q hf h r1 r2 q
  unfold catLF at h
  split at h
  · split at h
    · rename_i hz
      cases h
      obtain ⟨a, xs, rfl, h1, h2⟩ := r1.lst
      obtain ⟨b, ys, rfl, h3, h4⟩ := r2.lst
      exact ⟨a, b, xs, ys, rfl, rfl, h1, h3, by rw [h2.length, h4.length]; exact hz, fun p hp => q _ _ (same_new hp _) (rn_new hp (Same.refl _) (h2.append h4))⟩
    · cases h
  · cases h
theorem dp_catL {k1 k2 : Kd} (ha : DP X c k1 a f) (hb : DP X c k2 b g) : DP X c .n (.BinOp a .Add b pos) (op2 catLF f g) := dp_op op_catL od_catL ha hb
/-! ### list(range(a, b)) -/
/-! ### list * int -/
end
/-! ### name += e, ints -/
section
variable {X : Cx} {c : Ct} {k : Kd} {e : Expr} {f : FE} {x : Str} {pos pos' : Pos}
end
end L2
set_option Elab.async false
set_option linter.all false
set_option maxRecDepth 100000
set_option maxHeartbeats 1000000
namespace L2
open PySem PySem.Spec PyProof.Rows
/-! ### what is asked of a class of one's own exceptions -/
abbrev bmV : List Value := [.type "ValueError", .type "Exception", .type "BaseException", .type "object"]
structure ExcC (K : PySem.W.Frag) (C : Addr) : Prop where
  ga : PySem.W.findIn K (.ref C) "__getattribute__" = some (some (.builtin "BaseException.__getattribute__"))
  gt : PySem.W.findIn K (.ref C) "__getattr__" = some none
  cl : PySem.W.findIn K (.ref C) "__class__" = some (some (.builtin "object.__class__"))
  sp : PySem.W.specialIn K (.builtin "object.__class__") "__get__" = some (some (.builtin "getset_descriptor.__get__"))
  tk : PySem.W.takesIn K (.builtin "object.__class__") = some true
  mo : PySem.W.mroIn K C (.type "object") = some true
  mb : PySem.W.mroIn K C (.type "BaseException") = some true
section
variable {K : PySem.W.Frag} {C : Addr} {prog : Program} {w : World} {A : Around} {E : Value → Shared → Prop} {s : Shared} {a : Addr} {o : Obj}
theorem ExcC.cls (X : ExcC K C) : ∃ cd, PySem.W.clsIn K C = some cd := by
  obtain ⟨cd, h, _⟩ := Option.bind_eq_some_iff.mp X.mo
  exact ⟨cd, h⟩
theorem exc_find (X : ExcC K C) : PySem.W.findObj K C none "__class__" = some (.bind (.builtin "getset_descriptor.__get__") (.builtin "object.__class__")) := by
  obtain ⟨cd, hc⟩ := X.cls
  unfold PySem.W.findObj
  rw [hc, Option.bind_some, X.cl, Option.bind_some]
  dsimp only
  rw [X.sp, Option.bind_some]
  dsimp only
  rw [X.tk, Option.bind_some]
theorem exc_class (X : ExcC K C) (KI : K.In s.heap) (I : PySem.W.InstAt s.heap a o C none) {Q : Option Value → Shared → Prop} (h : Q (some (.ref C)) { s with toks := s.toks + 1 }) :
    wpAny (model prog w) A (getAttr? (.ref a) "__class__") Q E s := by
  obtain ⟨hh, g, d, t, os⟩ := s
  have L0 := I.type (M := model prog w)
  have L1 := PySem.W.looks_findIn (M := model prog w) KI X.ga
  have L2 := PySem.W.looks_findIn (M := model prog w) KI X.gt
  have L3 := PySem.W.looks_find (M := model prog w) KI I (exc_find X)
  have L4 := PySem.W.looks_mroIn (M := model prog w) KI X.mb
  have f3 := F.attrBase_ValueError.ga.bind (.ref a)
  unfold getAttr? getAttrBy? getAttrBy
  refine wpAny_bind (wpAny_mkText (wpAny_bind (wpAny_attempt (wpAny_holding (wpAny_bind (L0.at (wpAny_bind (L1.at ?_))))))))
  dsimp only
  have hx2 : (Value.builtin "BaseException.__getattribute__" == Value.builtin "object.__getattribute__") = false := by decide +kernel
  rw [if_neg (by rw [hx2]; simp)]
  unfold getAttrByItsOwn hookBefore callGetattribute boundAndCalled
  refine wpAny_bind ?_
  show wpAny _ _ (typeLookup (.ref C) "__getattr__") _ _ _
  refine L2.at ?_
  refine wpAny_bind (wpAny_attempt (wpAny_holding ?_))
  simp only [Bool.false_and, Bool.false_eq_true, if_false]
  rw [f3]
  refine wpAny_bind (wpAny_pure ?_)
  dsimp only
  refine wpAny_call (codeAny_call_builtin F.attrBase_ValueError.ga.plain F.entry_bexc_ga ?_)
  have hk : builtinKind "BaseException.__getattribute__" = some .slot := by decide +kernel
  have hsplit : splitId "BaseException.__getattribute__" = some ("BaseException", "__getattribute__") := by decide +kernel
  have ha := F.args_bexc_ga (.ref a) (.str "__class__" t)
  show wpAny _ _ (checkBuiltinCall "BaseException.__getattribute__" ⟨[.ref a, .str "__class__" t], []⟩) _ _ _
  simp only [checkBuiltinCall, hk, hsplit]
  have LI : PySem.W.Looks (model prog w) hh (isInstance (.ref a) (.type "BaseException")) true := L0.andThen L4
  refine wpAny_bind (LI.at ?_)
  rw [if_neg (by simp)]
  refine wpAny_of_eq (a := ()) ha ?_
  unfold Builtin.«object.__getattribute__»
  refine wpAny_bind (wpAny_pure (a := (Value.ref a, [Value.str "__class__" t])) ?_)
  dsimp only
  refine wpAny_bind (wpAny_pure (a := ("__class__" : Str)) ?_)
  refine wpAny_bind (L0.at (wpAny_bind (L3.at ?_)))
  dsimp only
  show wpAny _ _ (do let v ← holding [Value.builtin "object.__class__"] (call (.builtin "getset_descriptor.__get__") [.builtin "object.__class__", .ref a, .ref C]); ret v) _ _ _
  refine wpAny_bind (wpAny_holding (wpAny_call (PySem.W.class_get (K := K) (ox := o) (od := none) KI I X.mo ?_)))
  refine wpAny_pure ?_
  dsimp only
  exact wpAny_of_eq (a := Value.ref C) rfl (wpAny_pure h)
/-- an exception as isinstance sees it -/
theorem exc_kit (X : ExcC K C) : PySem.W.KitX K (.ref a) (.ref C) (fun h => ∃ o, PySem.W.InstAt h a o C none) where
  ty := fun _ _ _ I => let ⟨_, I⟩ := I; I.type
  it := fun _ _ KI _ => by
    obtain ⟨cd, hc⟩ := X.cls
    unfold PySem.W.clsIn at hc
    split at hc
    · rename_i c' d' cd' sl' ho
      intro A' Q' E' s' k q
      unfold isType loadHead
      exact wpAny_bind (wpAny_loadPart (k _ _ (KI _ _ ho)) (wpAny_pure q))
    · cases hc
  ne := fun h tp dd its n sl KI htp => by
    obtain ⟨cd, hc⟩ := X.cls
    refine Bool.eq_false_iff.mpr fun q => ?_
    have e : C = tp := Value.ref.inj (beq_iff_eq.mp q)
    subst e
    unfold PySem.W.clsIn at hc
    split at hc
    · rename_i c' d' cd' sl' ho
      have z := (KI _ _ ho).symm.trans htp
      cases z
    · cases hc
  ca := fun KI I k => let ⟨_, I⟩ := I; exc_class X KI I k
end
end L2
set_option Elab.async false
set_option linter.all false
set_option maxRecDepth 100000
set_option maxHeartbeats 1000000
namespace L2
open PySem PySem.Spec PyProof.Rows
/-! ### an exception in flight -/
/-- the exception at e is like o0 but for its fields, and has been noted by a frame that it left -/
def Trc (h B : Heap) (e : Addr) (o0 : Obj) : Prop :=
  ∃ vs T oT ts, h.get? e = some { o0 with data := .fields vs } ∧ vs[1]? = some (.ref T) ∧ B.get? T = none ∧ T ≠ e ∧ h.get? T = some oT ∧ oT.data = .fields ts ∧ ts[3]? = some .none
def Fsh (h : Heap) (e : Addr) (o0 : Obj) : Prop := ∃ vs, h.get? e = some { o0 with data := .fields vs } ∧ vs[1]? = some .none
structure InFl (B : Heap) (l : List Env) (e : Addr) (o0 : Obj) (h : Heap) : Prop where
  st : B.StaysIn h
  ne : B.get? e = none
  ff : h.FunFrames B l
  tr : Trc h B e o0 ∨ Fsh h e o0
section
variable {M : Model} {A : Around} {E : Value → Shared → Prop} {s : Shared} {B : Heap} {env : Env} {outer : List Env} {L e : Addr} {o0 : Obj}
/-- a new entry of the traceback, no longer in flight -/
theorem fl_entry {vs : Array Value} {head : Value} {hn : Bool} {Q : Unit → Shared → Prop} (hfr : A.frames = some (env :: outer)) (hl : s.heap.FunFrames B (env :: outer)) (hf : env.frame = some L)
    (he : s.heap.get? e = some { o0 with data := .fields vs }) (hsz : 1 < vs.size) (hB : B.StaysIn s.heap) (ne : B.get? e = none)
    (h : ∀ h', InFl B (env :: outer) e o0 h' → Trc h' B e o0 → s.heap.UpToSlots h' → Q () { s with heap := h' }) :
    wpAny M A (do let a ← frameOf env; let pl ← entryPlaceOf L hn; let b ← EntryCells.newEntry head a .none (rawInt L) .none pl; setField (.ref e) 1 b) (fun _ s' => wpAny M A (setFlight (.ref e) none) Q E s') E s := by
  have hne : e ∉ frs (env :: outer) := fun hm => by
    obtain ⟨_, o, ho, nf⟩ := hl.mem hm
    rw [he] at ho; cases ho; exact nf vs rfl
  refine wpAny_bind (wpAny_frameOf_fun hfr hl hf fun h1 k1 => wpAny_bind (wpAny_entryPlaceOf fun pl hp => ?_))
  unfold EntryCells.newEntry newFields
  refine wpAny_bind (wpAny_newObj_type ?_ (hp.sizeOk5 _ _ _ _ _))
  have e1 : h1.get? e = some { o0 with data := .fields vs } := (k1.2.1 e hne).trans he
  generalize hten : ([head, .ref L, .none, rawInt L, .none] ++ (if pl.isEmpty then List.replicate 6 Value.none else pl)).toArray = ten
  have tsz : 3 < ten.size := by rw [← hten]; simp only [List.size_toArray, List.length_append, List.length_cons, List.length_nil]; omega
  generalize hT : h1.objs.size = T
  have Tn : h1.get? T = none := by rw [← hT]; exact Heap.get?_none_of_le (Nat.le_refl _)
  have Te : T ≠ e := fun q => by rw [q, e1] at Tn; cases Tn
  have e2 : (h1.push { cls := .type "traceback", dict := none, data := .fields ten }).get? e = some { o0 with data := .fields vs } := Heap.get?_push_of_some _ e1
  have t2 : (h1.push { cls := .type "traceback", dict := none, data := .fields ten }).get? T = some { cls := .type "traceback", dict := none, data := .fields ten } := by rw [← hT]; exact Heap.get?_push_size h1 rfl
  refine wpAny_setField e2 rfl hsz ?_
  have e3 := Heap.get?_update_self (Obj.mapFields (·.setIfInBounds 1 (Value.ref T))) e2 (Obj.isFreed_of_fields rfl)
  have t3 := (Heap.get?_update_other (h1.push { cls := .type "traceback", dict := none, data := .fields ten }) (Obj.mapFields (·.setIfInBounds 1 (Value.ref T))) (Ne.symm Te)).trans t2
  unfold setFlight
  refine wpAny_bind (wpAny_field e3 rfl (x := .ref T) (by simp [hsz]) ?_)
  rw [if_pos (by simp : (Value.ref T != Value.none) = true)]
  refine wpAny_setField t3 rfl tsz ?_
  have kp : ∀ b o, b ≠ e → h1.get? b = some o → (((h1.push { cls := .type "traceback", dict := none, data := .fields ten }).update e (Obj.mapFields (·.setIfInBounds 1 (Value.ref T)))).update T
      (Obj.mapFields (·.setIfInBounds 3 ((none : Option Addr).elim Value.none fun f => rawInt f)))).get? b = some o := fun b o nb hb => by
    rw [Heap.get?_update_other _ _ (fun q => by rw [← q, Tn] at hb; cases hb), Heap.get?_update_other _ _ (Ne.symm nb)]
    exact Heap.get?_push_of_some _ hb
  have nr : ∀ b o, s.heap.get? b = some o → (∀ vs, o.data ≠ .fields vs) → b ≠ e := fun b o hb nf q => by
    rw [q, he] at hb; cases hb; exact nf vs rfl
  have B1 : B.StaysIn h1 := fun b o hb => (k1.2.1 b fun hm => by rw [(hl.mem hm).1] at hb; cases hb).trans (hB b o hb)
  have TB : B.get? T = none := by
    cases q : B.get? T with
    | none => rfl
    | some o => rw [B1 T o q] at Tn; cases Tn
  have tr : Trc (((h1.push { cls := .type "traceback", dict := none, data := .fields ten }).update e (Obj.mapFields (·.setIfInBounds 1 (Value.ref T)))).update T
      (Obj.mapFields (·.setIfInBounds 3 ((none : Option Addr).elim Value.none fun f => rawInt f)))) B e o0 :=
    ⟨_, T, _, _, (Heap.get?_update_other _ _ Te).trans e3, by simp [hsz], TB, Te, Heap.get?_update_self _ t3 (Obj.isFreed_of_fields rfl), rfl, by simp [tsz]⟩
  refine h _ ⟨fun b o hb => kp b o (fun q => by rw [q, ne] at hb; cases hb) (B1 b o hb), ne, hl.of_keeps fun b o hb nf => ?_, .inl tr⟩ tr fun b o hb nf => ?_
  · obtain ⟨sl, q⟩ := k1.2.2 b o hb
    exact ⟨_, kp b _ (nr b o hb nf) q, rfl⟩
  · obtain ⟨sl, q⟩ := k1.2.2 b o hb
    exact ⟨sl, kp b _ (nr b o hb nf) q⟩
/-- a frame notes the exception, which is not in flight behind that -/
theorem fl_note {Q : Unit → Shared → Prop} (hfr : A.frames = some (env :: outer)) (hf : env.frame = some L) (x : InFl B (env :: outer) e o0 s.heap)
    (h : ∀ h', InFl B (env :: outer) e o0 h' → Trc h' B e o0 → s.heap.UpToSlots h' → Q () { s with heap := h' }) :
    wpAny M A (noteFrame (.ref e) env) (fun _ s' => wpAny M A (setFlight (.ref e) none) Q E s') E s := by
  obtain ⟨st, ne, ff, tr⟩ := x
  unfold noteFrame
  simp only [hf]
  rcases tr with ⟨vs, T, oT, ts, he, h1, TB, Te, hT, hd, h3⟩ | ⟨vs, he, h1⟩
  · refine wpAny_bind (wpAny_field he rfl h1 ?_)
    rw [if_pos (by simp : (Value.ref T != Value.none) = true)]
    refine wpAny_bind (wpAny_field hT hd h3 ?_)
    rw [if_neg (by simp [rawInt] : ¬ ((Value.none == rawInt L) = true))]
    refine wpAny_bind (wpAny_setField hT hd (Array.getElem?_eq_some_iff.mp h3).1 ?_)
    have ot : ∀ b, b ≠ T → (s.heap.update T (Obj.mapFields (·.setIfInBounds 3 Value.none))).get? b = s.heap.get? b := fun b nb => Heap.get?_update_other _ _ (Ne.symm nb)
    have nr : ∀ b o, s.heap.get? b = some o → (∀ vs, o.data ≠ .fields vs) → b ≠ T := fun b o hb nf q => by
      rw [q, hT] at hb; cases hb; exact nf ts hd
    exact fl_entry hfr (ff.of_keeps fun b o hb nf => ⟨o, (ot b (nr b o hb nf)).trans hb, rfl⟩) hf ((ot e (Ne.symm Te)).trans he) (Array.getElem?_eq_some_iff.mp h1).1
      (fun b o hb => (ot b fun q => by rw [q, TB] at hb; cases hb).trans (st b o hb)) ne fun h' x1 x2 x3 => h h' x1 x2 fun b o hb nf => x3 b o ((ot b (nr b o hb nf)).trans hb) nf
  · refine wpAny_bind (wpAny_field he rfl h1 ?_)
    rw [if_neg (by decide)]
    exact fl_entry hfr ff hf he (Array.getElem?_eq_some_iff.mp h1).1 st ne h
theorem fl_leave {Q : Unit → Shared → Prop} (hfr : A.frames = some (env :: outer)) (hf : env.frame = some L) (x : InFl B (env :: outer) e o0 s.heap)
    (h : ∀ h', InFl B outer e o0 h' → s.heap.UpToSlots h' → Q () { s with heap := h' }) : wpAny M A (leaving env (.ref e)) Q E s := by
  unfold leaving
  exact wpAny_bind (fl_note hfr hf x fun h' x1 _ x3 => h h' ⟨x1.st, x1.ne, x1.ff.2.2, x1.tr⟩ x3)
/-- once more: nothing but the entry's flight -/
theorem fl_land {Q : Unit → Shared → Prop} {l : List Env} (x : InFl B l e o0 s.heap) (t : Trc s.heap B e o0)
    (h : ∀ h', InFl B l e o0 h' → Trc h' B e o0 → s.heap.UpToSlots h' → Q () { s with heap := h' }) : wpAny M A (setFlight (.ref e) none) Q E s := by
  obtain ⟨vs, T, oT, ts, he, h1, TB, Te, hT, hd, h3⟩ := t
  have sz := (Array.getElem?_eq_some_iff.mp h3).1
  unfold setFlight
  refine wpAny_bind (wpAny_field he rfl h1 ?_)
  rw [if_pos (by simp : (Value.ref T != Value.none) = true)]
  refine wpAny_setField hT hd sz ?_
  have ot : ∀ b, b ≠ T → (s.heap.update T (Obj.mapFields (·.setIfInBounds 3 ((none : Option Addr).elim Value.none fun f => rawInt f)))).get? b = s.heap.get? b := fun b nb => Heap.get?_update_other _ _ (Ne.symm nb)
  have nr : ∀ b o, s.heap.get? b = some o → (∀ vs, o.data ≠ .fields vs) → b ≠ T := fun b o hb nf q => by
    rw [q, hT] at hb; cases hb; exact nf ts hd
  have tr : Trc (s.heap.update T (Obj.mapFields (·.setIfInBounds 3 ((none : Option Addr).elim Value.none fun f => rawInt f)))) B e o0 :=
    ⟨vs, T, _, _, (ot e (Ne.symm Te)).trans he, h1, TB, Te, Heap.get?_update_self _ hT (Obj.isFreed_of_fields (Obj.data_mapFields hd _)), Obj.data_mapFields hd _, by simp [sz]⟩
  exact h _ ⟨fun b o hb => (ot b fun q => by rw [q, TB] at hb; cases hb).trans (x.st b o hb), x.ne, x.ff.of_keeps fun b o hb nf => ⟨o, (ot b (nr b o hb nf)).trans hb, rfl⟩, .inl tr⟩ tr fun b o hb nf => ⟨o.slots, (ot b (nr b o hb nf)).trans hb⟩
end
end L2
set_option Elab.async false
set_option linter.all false
set_option maxRecDepth 100000
set_option maxHeartbeats 1000000
namespace L2
open PySem PySem.Spec PyProof.Rows
theorem ff_hide {h base g : Heap} {F : List Addr} : ∀ {l : List Env}, h.FunFrames base l → (∀ b ∈ frs l, b ∈ F) → h.FunFrames (PySem.W.hideAll g F) l
  | [], _, _ => trivial
  | env :: r, ⟨hk, ⟨L, o, hf, hn, ho, hd⟩, hr⟩, hF => by
    refine ⟨hk, ⟨L, o, hf, PySem.W.hideAll_none F (hF L ?_), ho, hd⟩, ff_hide hr fun b hb => hF b ?_⟩
    · unfold frs; rw [List.filterMap_cons, hf]; exact List.mem_cons_self
    · unfold frs; rw [List.filterMap_cons, hf]; exact List.mem_cons_of_mem _ hb
/-- what the addresses of F are to a body: frames that run, or newer things that it knows nothing of -/
def Away (X : Cx) (pins : List (Addr × Obj)) (H : Hp) (F : List Addr) : Prop := (∀ b ∈ frs X.stack, b ∈ F) ∧
  ∀ b ∈ F, b ∉ frs X.stack → X.s₀.heap.objs.size ≤ b ∧ H b = none ∧ b ≠ X.env.locals ∧ (∀ x c, X.env.cells.lookup x = some c → c ≠ b) ∧ ∀ p ∈ X.pn ++ pins, p.1 ≠ b
section
variable {X : Cx} {pins : List (Addr × Obj)} {σ : St} {H : Hp} {s : Shared} {F : List Addr} {h' : Heap}
theorem Away.free (w : Away X pins H F) (I : Inv X pins σ H s) {b : Addr} (hb : b ∈ F) : H b = none := by
  by_cases q : b ∈ frs X.stack
  · exact I.stkFree b q
  · exact (w.2 b hb q).2.1
/-- all but F is kept, of F all but the slots: the body's state is kept -/
theorem Inv.flown (I : Inv X pins σ H s) (w : Away X pins H F) (st : (PySem.W.hideAll s.heap F).StaysIn h') (up : s.heap.UpToSlots h') : Inv X pins σ H { s with heap := h' } := by
  have kp : ∀ b o, s.heap.get? b = some o → b ∉ F → h'.get? b = some o := fun b o e n => st b o (PySem.W.hideAll_get _ e n)
  have fr : ∀ b ∈ frs X.stack, ∃ o, s.heap.get? b = some o ∧ ∀ vs, o.data ≠ .fields vs := fun b hb => (I.stack.mem hb).2
  refine I.call' (s' := { s with heap := h' }) (ch := F.filter fun b => decide (b ∉ frs X.stack)) rfl ⟨?_, ?_, fun _ _ _ n _ => n, ?_, fun _ _ q => q, fun _ _ _ q => q, fun _ ps q => ⟨#[], by rw [q]; simp⟩⟩ ?_ I.bare ?_
  · intro b o e n hb hc
    refine kp b o e fun hF => hc ?_
    rw [List.mem_filter, decide_eq_true_eq]; exact ⟨hF, hb⟩
  · intro b o e n hb hc
    obtain ⟨o', e', nf⟩ := fr b hb
    rw [e] at e'; cases e'
    exact up b o e nf
  · intro b o e hc
    by_cases hF : b ∈ F
    · by_cases hs : b ∈ frs X.stack
      · obtain ⟨o', e', nf⟩ := fr b hs
        obtain ⟨sl, q⟩ := up b o' e' nf
        exact ⟨_, q⟩
      · exact absurd (by rw [List.mem_filter, decide_eq_true_eq]; exact ⟨hF, hs⟩) hc
    · exact ⟨o, kp b o e hF⟩
  · intro a o e
    refine (I.hok a o e).stay (fun b u hb q => kp b u q fun hF => ?_) (fun _ q => q) fun _ _ q => q
    have := w.free I hF
    rcases hb with rfl | hb
    · rw [e] at this; cases this
    · rw [hb] at this; cases this
  · intro b hb
    rw [List.mem_filter, decide_eq_true_eq] at hb
    obtain ⟨q1, q2, q3, q4, q5⟩ := w.2 b hb.1 hb.2
    exact ⟨.inr q1, q3, q4, q5⟩
end
/-- an exception of the class at C in a body's frame: the body's state as it was when the exception was made, and what has become of it -/
def XS (X : Cx) (pins : List (Addr × Obj)) (σ : St) (H : Hp) (o0 : Obj) (ea : Addr) (s' : Shared) : Prop :=
  ∃ (g : Heap) (F : List Addr), Inv X pins σ H { s' with heap := g } ∧ Away X pins H F ∧ InFl (PySem.W.hideAll g F) X.stack ea o0 s'.heap ∧ g.UpToSlots s'.heap ∧ g.get? ea = none
theorem XS.inv {X : Cx} {pins : List (Addr × Obj)} {σ : St} {H : Hp} {o0 : Obj} {ea : Addr} {s' : Shared} (x : XS X pins σ H o0 ea s') : Inv X pins σ H s' := by
  obtain ⟨g, F, I, w, fl, up, _⟩ := x
  exact I.flown (s := { s' with heap := g }) w fl.st up
/-- how an exception lies behind a call -/
def CXr (P : Program) (w : World) (G : Addr → Obj → Prop) : CXT := fun outer H s E e s' =>
  ∃ (ea : Addr) (o0 : Obj) (C : Addr) (g : Heap) (F : List Addr) (H' : Hp), e = .ref ea ∧ o0.cls = .ref C ∧ G C o0 ∧ s'.os = s.os ∧ AllBare s'.gens ∧ Un (frs outer) [] H H' s.heap g ∧ HOk P w H' g ∧
    InFl (PySem.W.hideAll g F) outer ea o0 s'.heap ∧ g.UpToSlots s'.heap ∧ (∀ b ∈ frs outer, b ∈ F) ∧ (∀ b ∈ F, H' b = none ∧ (b ∉ frs outer → s.heap.objs.size ≤ b)) ∧ g.get? ea = none ∧ E (.ref C) none H'
/-- an exception of a callee, seen from the caller -/
theorem xs_call {X : Cx} {pins : List (Addr × Obj)} {σ : St} {H : Hp} {s s' : Shared} {G : Addr → Obj → Prop} {E : XK} {e : Value} (I : Inv X pins σ H s) (h : CXr X.prog X.w G X.stack H s E e s') :
    ∃ ea o0 C H', e = .ref ea ∧ o0.cls = .ref C ∧ G C o0 ∧ XS X pins σ H' o0 ea s' ∧ E (.ref C) none H' := by
  obtain ⟨ea, o0, C, g, F, H', rfl, hc, hG, os, bare, un, hok, fl, up, hF, aw, gn, hE⟩ := h
  have J : Inv X pins σ H' { s' with heap := g } := I.call' (s' := { s' with heap := g }) (ch := []) os un hok bare fun b z => absurd z (by simp)
  refine ⟨ea, o0, C, H', rfl, hc, hG, ⟨g, F, J, ⟨hF, fun b hb nb => ?_⟩, fl, up, gn⟩, hE⟩
  have sz := (aw b hb).2 nb
  have lt : ∀ {c o}, s.heap.get? c = some o → c ≠ b := fun {c o} q z => by subst z; exact absurd (Heap.lt_size q) (Nat.not_lt.mpr sz)
  refine ⟨Nat.le_trans I.sz sz, (aw b hb).1, fun z => ?_, fun x c q => ?_, fun p hp => ?_⟩
  · have := I.lt
    rw [← z] at this
    exact absurd this (Nat.not_lt.mpr sz)
  · obtain ⟨v, o, ho, _⟩ := I.cell x c q
    exact lt ho
  · exact lt (I.pin p hp).1
/-- the exception leaves a def's frame -/
theorem xs_leave {CX : CXT} {P : Program} {w : World} {K : PySem.W.Frag} {mg : Str → Option Value} {base : Heap} {N : List Str} {qual : Str} {scope : Scope} {f : Addr} {cd : Value} {A : Around} {outer : List Env} {s : Shared} {H : Hp} {E : XK} {G : Addr → Obj → Prop}
    {pins : List (Addr × Obj)} {σ : St} {H' : Hp} {o0 : Obj} {ea C : Addr} {s' : Shared} (x : XS (cxOf CX P w K mg base N qual scope f cd A outer s H E) pins σ H' o0 ea s') (hc : o0.cls = .ref C) (hG : G C o0) (hE : E (.ref C) none H') {Q : Unit → Shared → Prop} {E' : Value → Shared → Prop}
    (q : ∀ s'', CXr P w G outer H s E (.ref ea) s'' → Q () s'') : wpAny (model P w) (A.deeper (envOfC qual scope s.heap.objs.size f cd)) (leaving (envOfC qual scope s.heap.objs.size f cd) (.ref ea)) Q E' s' := by
  obtain ⟨g, F, I, aw, fl, up, gn⟩ := x
  refine fl_leave (L := s.heap.objs.size) I.ok.frames rfl fl fun h' fl' up' => q _ ?_
  have L : (cxOf CX P w K mg base N qual scope f cd A outer s H E).stack = envOfC qual scope s.heap.objs.size f cd :: outer := rfl
  have sub : ∀ b ∈ frs outer, b ∈ frs (envOfC qual scope s.heap.objs.size f cd :: outer) := fun b hb => by
    unfold frs; rw [List.filterMap_cons]; exact List.mem_cons_of_mem _ hb
  refine ⟨ea, o0, C, g, F, H', rfl, hc, hG, I.os, I.bare, I.base, I.hok, fl', up.trans up', fun b hb => aw.1 b (sub b hb), fun b hb => ⟨aw.free I hb, fun nb => ?_⟩, gn, hE⟩
  by_cases z : b ∈ frs (envOfC qual scope s.heap.objs.size f cd :: outer)
  · have : b = s.heap.objs.size ∨ b ∈ frs outer := by
      unfold frs at z; rw [List.filterMap_cons] at z; exact List.mem_cons.mp z
    rcases this with rfl | q
    · exact Nat.le_refl _
    · exact absurd q nb
  · exact (aw.2 b hb z).1
end L2
set_option Elab.async false
set_option linter.all false
set_option maxRecDepth 100000
set_option maxHeartbeats 1000000
namespace L2
open PySem PySem.Spec PyProof.Rows
/-- an exception by data: the name of its class, and a number -/
structure Ex where
  x : Str
  n : Int
abbrev Named (K : PySem.W.Frag) (z : Ex) (C : Addr) : Prop := PySem.W.nsIn K mainGlobals z.x = some (some (.ref C))
/-- what is known of an exception's object -/
def G0 : Addr → Obj → Prop := fun _ o0 => o0.dict = none
abbrev CXe (P : Program) (w : World) : CXT := CXr P w G0
/-- an exception of this class may leave this body -/
def EX (X : Cx) (σ : St) : XK := fun v _ H' => ∀ pins ea o0 s', o0.cls = v → o0.dict = none → XS X pins σ H' o0 ea s' → X.xe (.ref ea) s'
abbrev RE := Rho → Option (Except Ex D)
abbrev RA := Rho → Option (Except Ex (List D))
def rdX (X : Cx) (c : Ct) (hid : Hid) (k : Kd) (f : RE) (ρ : Rho) : TE := fun σ H Q => SR X.K c hid ρ σ H ∧ ∃ r, f ρ = some r ∧ match r with
  | .ok d => ∀ v H', Same H H' → RK X.K k H H' hid v d → Q v H'
  | .error z => ∀ C H', Same H H' → Named X.K z C → EX X σ (.ref C) none H'
def DR (X : Cx) (c : Ct) (k : Kd) (e : Expr) (f : RE) : Prop := ∀ hid ρ, PE X e (rdX X c hid k f ρ)
def rdXA (X : Cx) (c : Ct) (hid : Hid) (f : RA) (ρ : Rho) : TA := fun σ H Q => SR X.K c hid ρ σ H ∧ ∃ r, f ρ = some r ∧ match r with
  | .ok ds => ∀ vs H', Same H H' → Reps X.K (vw H' hid) vs ds → Q vs H'
  | .error z => ∀ C H', Same H H' → Named X.K z C → EX X σ (.ref C) none H'
def DRA (X : Cx) (c : Ct) (es : List Expr) (f : RA) : Prop := ∀ hid ρ, PA X es (rdXA X c hid f ρ)
section
variable {X : Cx} {c : Ct} {e a b : Expr} {es rest : List Expr} {k : Kd} {pos p : Pos} {x : Str} {f : Addr} {fd : FuncData} {ps : List Str} {j n : Nat}
def puR (f : FE) : RE := fun ρ => (f ρ).map .ok
def puRA (f : FA) : RA := fun ρ => (f ρ).map .ok
theorem DP.rr {f : FE} (h : DP X c k e f) : DR X c k e (puR f) := fun hid ρ => PE.imp (h hid ρ) fun σ H Q ⟨sr, r, hr, q⟩ => by
  unfold puR at hr
  cases e1 : f ρ with
  | none => rw [e1] at hr; cases hr
  | some d => rw [e1] at hr; cases hr; exact ⟨sr, d, e1, q⟩
theorem DA.rr {f : FA} (h : DA X c es f) : DRA X c es (puRA f) := fun hid ρ => PA.imp (h hid ρ) fun σ H Q ⟨sr, r, hr, q⟩ => by
  unfold puRA at hr
  cases e1 : f ρ with
  | none => rw [e1] at hr; cases hr
  | some d => rw [e1] at hr; cases hr; exact ⟨sr, d, e1, q⟩
theorem DR.toS {f : RE} (h : DR X c .n e f) : DR X c .s e f := fun hid ρ => PE.imp (h hid ρ) fun σ H Q ⟨sr, r, hr, q⟩ => by
  refine ⟨sr, r, hr, ?_⟩
  cases r with
  | ok d => exact fun v H' s r => q v H' s (RN.rep r fun a n => sr.fresh n)
  | error z => exact q
theorem DP.nox {f : FE} (h : DP X.nox c k e f) : DP X c k e f := fun hid ρ => PE.nox (h hid ρ)
def consR (f : RE) (fs : RA) : RA := fun ρ => (f ρ).bind fun r => match r with
  | .error z => some (.error z)
  | .ok d => (fs ρ).map fun q => match q with
    | .error z => .error z
    | .ok ds => .ok (d :: ds)
theorem dra_cons {f : RE} {fs : RA} (ha : DR X c .s e f) (hr : DRA X c es fs) (hs : starEach (e :: es) X.env = (false, eval e X.env) :: starEach es X.env := by rfl) : DRA X c (e :: es) (consR f fs) := fun hid ρ =>
  PA.imp (pa_cons (ha hid ρ) (hr hid ρ) hs) fun σ H Q ⟨sr, r, h, q⟩ => by
    unfold consR at h
    cases e1 : f ρ with
    | none => rw [e1] at h; cases h
    | some r1 =>
      rw [e1] at h
      refine ⟨sr, r1, e1, ?_⟩
      cases r1 with
      | error z => cases h; exact q
      | ok d =>
        have h : (fs ρ).map (fun q => match q with
          | .error z => Except.error z
          | .ok ds => .ok (d :: ds)) = some r := h
        intro v H1 s1 r1
        cases e2 : fs ρ with
        | none => rw [e2] at h; cases h
        | some r2 =>
          rw [e2] at h
          refine ⟨sr.ext s1, r2, e2, ?_⟩
          cases r2 with
          | error z => cases h; exact fun C H' s2 => q C H' (s1.trans s2)
          | ok ds => cases h; exact fun vs H2 s2 r2 => q _ H2 (s1.trans s2) (.cons (r1.mono (vw_same s2)) r2)
/-! what a def that may raise promises -/
def spX (K : PySem.W.Frag) (k : Kd) (n : Nat) (P : List D → Option (Except Ex D)) : Sp := fun vs H Q E => ∃ hid ds, Trk hid H ∧ Reps K (vw H hid) vs ds ∧ ds.length = n ∧ ∃ r, P ds = some r ∧ match r with
  | .ok d => ∀ v H', Same H H' → RK K k H H' hid v d → Q v H'
  | .error z => ∀ C H', Same H H' → Named K z C → E (.ref C) none H'
structure ClX (P : Program) (w : World) (K : PySem.W.Frag) (mg : Str → Option Value) (base : Heap) (k : Nat) (x : Str) (ps : List Str) (sp : Sp) : Prop where
  ex : ∃ f fd, FnOk P w K mg base (CXe P w) k f fd ps sp ∧ mg x = some (.ref f) ∧ PySem.W.keepIn K (.ref f) = true ∧ Binds K fd ps []
/-- the callee runs, and may raise -/
theorem run_fnX {sp : Sp} {pins : List (Addr × Obj)} {σ : St} {H : Hp} {s : Shared} {Q : VK} {us : List Value} {vs : List V} (F : FnOk X.prog X.w X.K X.mg X.base (CXe X.prog X.w) j f fd ps sp) (hr : Room j X.A) (hb : Binds X.K fd ps [])
    (I : Inv X pins σ H s) (r : Vals vs us) (h : sp vs H Q (EX X σ)) : wpAny (model X.prog X.w) X.A (call (.ref f) us) (EP X pins σ Q) X.xe s := by
  have hl : (us ++ []).length = ps.length := by rw [List.append_nil, ← r.length]; exact F.len _ _ _ _ h
  have hb' := hb s us I.kIn hl
  rw [List.append_nil] at hb'
  refine wpAny_call (codeAny_mono (F.run X.A X.stack s H ⟨us, []⟩ us vs Q (EX X σ) hr I.env0 hb' r h) fun r s' hq => ?_)
  cases r with
  | error e =>
    obtain ⟨ea, o0, C, H', rfl, hc, hG, xs, hE⟩ := xs_call I hq
    exact hE pins ea o0 s' hc hG xs
  | ok fl =>
    cases fl with
    | ret u => exact I.after hq
    | next => exact False.elim hq
    | brk => exact False.elim hq
    | cont => exact False.elim hq
theorem pe_callX {sp : Sp} {t : TA} (F : FnOk X.prog X.w X.K X.mg X.base (CXe X.prog X.w) j f fd ps sp) (hr : Room j X.A) (hg : Gl X x) (hm : X.mg x = some (.ref f)) (hk : PySem.W.keepIn X.K (.ref f) = true) (hb : Binds X.K fd ps [])
    (ha : PA X (e :: es) t) (hdb : (x == ("__debug__" : Str)) = false := by decide) (he : starEach (e :: es) X.env = (false, eval e X.env) :: starEach es X.env := by rfl) (hpl : (backTo pos (starEach es X.env)).any (·.1) = false := by rfl) :
    PE X (.Call (.Name x p) (e :: es) [] pos) (fun σ H Q => t σ H fun vs H1 => sp vs H1 Q (EX X σ)) := by
  intro pins s σ H Q I h
  refine wpAny_Call_Name_kw (ld_glob I hg hm ?_ hdb)
  refine PySem.W.callWith_K (h₀ := X.base) I.ok.mod.kin hk (thn (ha pos pins s σ H _ I h) fun us s1 ⟨vs, H1, I1, r, q⟩ => ⟨I1.kIn, ?_⟩) he hpl
  exact run_fnX F hr hb I1 r q
def callR (n : Nat) (P : List D → Option (Except Ex D)) (fs : RA) : RE := fun ρ => (fs ρ).bind fun q => match q with
  | .error z => some (.error z)
  | .ok ds => if ds.length = n then P ds else none
/-- f(..) of a def that may raise -/
theorem dr_cl {P : List D → Option (Except Ex D)} {fs : RA} (F : ClX X.prog X.w X.K X.mg X.base j x ps (spX X.K k n P)) (hr : Room j X.A) (ha : DRA X c (e :: es) fs)
    (hg : Gl X x := by rfl) (hdb : (x == ("__debug__" : Str)) = false := by decide) (he : starEach (e :: es) X.env = (false, eval e X.env) :: starEach es X.env := by rfl) (hpl : (backTo pos (starEach es X.env)).any (·.1) = false := by rfl) :
    DR X c k (.Call (.Name x p) (e :: es) [] pos) (callR n P fs) := fun hid ρ => by
  obtain ⟨f, fd, F, hm, hk, hb⟩ := F.ex
  refine PE.imp (pe_callX F hr hg hm hk hb (ha hid ρ) hdb he hpl) fun σ H Q ⟨sr, r, h, q⟩ => ?_
  unfold callR at h
  cases e1 : fs ρ with
  | none => rw [e1] at h; cases h
  | some r1 =>
    rw [e1] at h
    refine ⟨sr, r1, e1, ?_⟩
    cases r1 with
    | error z => cases h; exact q
    | ok ds =>
      have h : (if ds.length = n then P ds else none) = some r := h
      split at h
      · intro vs H1 s1 r1
        refine ⟨hid, ds, (sr.ext s1).trk, r1, ‹_›, r, h, ?_⟩
        cases r with
        | ok d => exact fun v H' s2 r2 => q v H' (s1.trans s2) (RK.left s1 r2)
        | error z => exact fun C H' s2 => q C H' (s1.trans s2)
      · cases h
def callPR (n : Nat) (P : List D → Option D) (fs : RA) : RE := callR n (fun ds => (P ds).map .ok) fs
/-- f(..) of a def that does not raise, upon what may -/
theorem dr_clP {P : List D → Option D} {fs : RA} (C : Cl X.prog X.w X.K X.mg X.base j x ps (spP X.K k n P)) (hr : Room j X.A) (ha : DRA X c (e :: es) fs)
    (hg : Gl X x := by rfl) (hdb : (x == ("__debug__" : Str)) = false := by decide) (he : starEach (e :: es) X.env = (false, eval e X.env) :: starEach es X.env := by rfl) (hpl : (backTo pos (starEach es X.env)).any (·.1) = false := by rfl) :
    DR X c k (.Call (.Name x p) (e :: es) [] pos) (callPR n P fs) := fun hid ρ => by
  obtain ⟨f, fd, F, hm, hk, hb⟩ := C.ex
  refine PE.imp (pe_call F hr hg hm hk hb .nil (pass0 (X := X)) (ha hid ρ) hdb he hpl) fun σ H Q ⟨sr, r, h, q⟩ => ?_
  unfold callPR callR at h
  cases e1 : fs ρ with
  | none => rw [e1] at h; cases h
  | some r1 =>
    rw [e1] at h
    refine ⟨sr, r1, e1, ?_⟩
    cases r1 with
    | error z => cases h; exact q
    | ok ds =>
      have h : (if ds.length = n then (P ds).map Except.ok else none) = some r := h
      split at h
      · cases e2 : P ds with
        | none => rw [e2] at h; cases h
        | some d =>
          rw [e2] at h; cases h
          intro vs H1 s1 r1
          show spP X.K k n P (vs ++ []) H1 Q E0
          rw [List.append_nil]
          exact ⟨hid, ds, (sr.ext s1).trk, r1, ‹_›, d, e2, fun v H' s2 r2 => q v H' (s1.trans s2) (RK.left s1 r2)⟩
      · cases h
/-! two operands, the left one may raise -/
end
end L2
set_option Elab.async false
set_option linter.all false
set_option maxRecDepth 100000
set_option maxHeartbeats 1000000
namespace L2
open PySem PySem.Spec PyProof.Rows
section
variable {X : Cx} {c : Ct} {e : Expr} {k : Kd} {pos p : Pos} {x : Str}
end
/-! ### statements -/
abbrev OX := Except (Ex × Rho) Out
abbrev FX := Rho → OX
def EndX (X : Cx) (c : Ct) (k : Kd) (D : Ends) (W : Hp) : OX → Prop
  | .ok o => EndOk X.K c k D W o
  | .error z => ∀ σ' H' hid' C, SR X.K c hid' z.2 σ' H' → Same W (vw H' hid') → Named X.K z.1 C → EX X σ' (.ref C) none H'
theorem EndX.mono {X : Cx} {c : Ct} {k : Kd} {D : Ends} {W W' : Hp} {o : OX} (h : EndX X c k D W o) (s : Same W W') : EndX X c k D W' o := by
  cases o with
  | ok o => exact EndOk.mono h s
  | error z => exact fun σ' H' hid' C a b => h σ' H' hid' C a (s.trans b)
def rdSX (X : Cx) (c : Ct) (k : Kd) (t : FX) (ρ : Rho) : TS := fun D σ H => ∃ hid, SR X.K c hid ρ σ H ∧ EndX X c k D (vw H hid) (t ρ)
def DSX (X : Cx) (c : Ct) (k : Kd) (st : Stmt) (t : FX) : Prop := ∀ ρ, PS X st (rdSX X c k t ρ)
def DSsX (X : Cx) (c : Ct) (k : Kd) (st : List Stmt) (t : FX) : Prop := ∀ ρ, PSs X st (rdSX X c k t ρ)
section
variable {X : Cx} {c : Ct} {k : Kd} {st : Stmt} {sts rest : List Stmt} {t u : FX} {e : Expr} {pos pos' p : Pos} {x : Str} {i : Nat}
theorem PS.nox {t : TS} (h : PS X.nox st t) : PS X st t := fun pins s σ H D I hw =>
  wpAny_mono (h pins s σ H D (I.wish _) hw) (fun _ _ q => q.unwish) fun _ _ z => False.elim z
def lfX (t : FS) : FX := fun ρ => .ok (t ρ)
/-- a statement that raises nothing -/
theorem dsx_lift {t : FS} (h : DS X.nox c k st t) : DSX X c k st (lfX t) := fun ρ => PS.nox (h ρ)
theorem dssx_lift {t : FS} (h : DSs X.nox c k sts t) : DSsX X c k sts (lfX t) := fun ρ => PSs.nox (h ρ)
def seqX (t u : FX) : FX := fun ρ => match t ρ with
  | .ok (.nx ρ') => u ρ'
  | .ok o => .ok o
  | .error z => .error z
theorem dssx_one (h : DSX X c k st t) : DSsX X c k [st] t := fun ρ => pss_one (h ρ)
theorem dssx_cons (h1 : DSX X c k st t) (h2 : DSsX X c k rest u) : DSsX X c k (st :: rest) (seqX t u) := fun ρ =>
  PSs.imp (pss_cons (h1 ρ) (exPSs fun ρ1 => h2 ρ1)) fun D σ H ⟨hid, sr, q⟩ => by
    refine ⟨hid, sr, ?_⟩
    unfold seqX at q
    cases e : t ρ with
    | error z => rw [e] at q; exact q
    | ok o =>
      rw [e] at q
      cases o with
      | nx ρ1 => exact fun σ1 H1 hid1 sr1 v1 => ⟨ρ1, hid1, sr1, EndX.mono q v1⟩
      | rt d ρ1 => exact q
      | bk ρ1 => exact q
      | ct ρ1 => exact q
      | no => exact q
def ifX (p : FT) (t u : FX) : FX := fun ρ => match p ρ with
  | some true => t ρ
  | some false => u ρ
  | none => .ok .no
theorem dsx_if {p : FT} {a b : List Stmt} (hp : DT X c e p) (ha : DSsX X c k a t) (hb : DSsX X c k b u) : DSX X c k (.If e a b pos) (ifX p t u) := fun ρ =>
  PS.imp (ps_if (exPT fun hid => hp hid ρ) (ha ρ) (hb ρ)) fun D σ H ⟨hid, sr, q⟩ => by
    cases e1 : p ρ with
    | none => unfold ifX at q; rw [e1] at q; exact q.elim
    | some x =>
      refine ⟨hid, sr, x, e1, fun H1 s1 => ?_⟩
      unfold ifX at q
      rw [e1] at q
      cases x with
      | true => exact iteT ⟨hid, sr.ext s1, EndX.mono q (vw_same s1)⟩
      | false => exact iteF ⟨hid, sr.ext s1, EndX.mono q (vw_same s1)⟩
theorem dssx_nil : DSsX X c k [] (lfX skip) := fun ρ => PSs.imp pss_nil fun D σ H ⟨hid, sr, q⟩ => q σ H hid sr (Same.refl _)
theorem DT.nox {p : FT} (h : DT X.nox c e p) : DT X c e p := fun hid ρ => PT.nox (h hid ρ)
/-- return, name = value, an expression alone -/
def retR (f : RE) : FX := fun ρ => match f ρ with
  | some (.ok d) => .ok (.rt d ρ)
  | some (.error z) => .error (z, ρ)
  | none => .ok .no
theorem dsx_ret {f : RE} (he : DR X c k e f) (hk : k ≠ .b := by decide) : DSX X c k (.Return (some e) pos) (retR f) := fun ρ => PS.imp (ps_ret (exPE fun hid => he hid ρ)) fun D σ H ⟨hid, sr, q⟩ => by
  unfold retR at q
  cases e1 : f ρ with
  | none => rw [e1] at q; exact q.elim
  | some r =>
    rw [e1] at q
    refine ⟨hid, sr, r, e1, ?_⟩
    cases r with
    | ok d => exact fun v H' s r => q v H' (retS_ hk (sr.post s r hk) sr.h0)
    | error z => exact fun C H' s hn => q σ H' hid C (sr.ext s) (vw_same s) hn
end
/-! ### raise C(..) -/
theorem exc_obj {K : PySem.W.Frag} {h : Heap} {C : Addr} {bmB : List Value} {newId : String} (KI : K.In h) (q : PySem.W.excIn K C bmB newId = true) : ∃ bm N nm qn bs hdct sn sub ab col dd k0 k1 k2 k3 k5 mN,
    h.get? C = some (excClassObj nm qn C N bs bm hdct sn sub ab col dd k0 k1 k2 k3 k5 newId) ∧ h.Ns N mN ∧ mN "__init__" = none ∧ OwnTail h bmB bm := by
  unfold PySem.W.excIn at q
  split at q
  · rename_i dd cd sl ho
    split at q
    · rename_i C' bm k0 k1 k2 k3 n k5 hm hs
      simp only [Bool.and_eq_true, beq_iff_eq, Bool.not_eq_true'] at q
      obtain ⟨⟨⟨⟨⟨rfl, rfl⟩, hdel⟩, ht⟩, hok⟩, hni⟩ := q
      obtain ⟨nm, bs, mro, ns, qn, hd, sn, sub, ab, col, del⟩ := cd
      dsimp only at hm hdel hok hni
      subst hm hdel
      obtain ⟨l⟩ := sl
      simp only at hs
      subst hs
      exact ⟨bm, ns, nm, qn, bs, hd, sn, sub, ab, col, dd, k0, k1, k2, k3, k5, _, KI _ _ ho, .of_isNs (PySem.W.isNs_of_in KI hok), PySem.W.nsMap_none_of_in KI hok hni, PySem.W.tail_of_in KI ht⟩
    · cases q
  · cases q
section
variable {X : Cx} {c : Ct} {k : Kd} {e : Expr} {es : List Expr} {pos np cpos : Pos} {x : Str} {C : Addr}
/-- an exception that is made here -/
theorem xs_made {pins : List (Addr × Obj)} {σ : St} {H : Hp} {s : Shared} {h' : Heap} {ea : Addr} {vs : List Value} (I : Inv X pins σ H s) (m : Heap.MadeExcOf s.heap h' ea (.ref C) vs) :
    XS X pins σ H { cls := .ref C, data := .plain } ea { s with heap := h' } := by
  obtain ⟨t, he, htn, ht⟩ := m.there
  refine ⟨s.heap, frs X.stack, I, ⟨fun _ q => q, fun b hb nb => absurd hb nb⟩, ⟨fun b o q => m.keeps b o (PySem.W.of_hideAll _ q), ?_, ff_hide (I.stack.of_keeps fun b o q _ => ⟨o, m.keeps b o q, rfl⟩) fun _ q => q, .inr ⟨_, he, rfl⟩⟩, .of_keeps m.keeps, m.new⟩
  cases q : (PySem.W.hideAll s.heap (frs X.stack)).get? ea with
  | none => rfl
  | some o => have := PySem.W.of_hideAll _ q; rw [m.new] at this; cases this
def raiX (z : Ex) (fs : FA) : FX := fun ρ => match fs ρ with
  | some ds => if ds.length ≤ 20 then .error (z, ρ) else .ok .no
  | none => .ok .no
theorem dsx_raise {n : Int} {fs : FA} (hm : X.mg x = some (.ref C)) (hN : PySem.W.nsIn X.K mainGlobals x = some (some (.ref C))) (ho : PySem.W.excIn X.K C bmV "ValueError.__new__" = true) (hd : X.A.handled = none) (ha : DA X c (e :: es) fs) (hg : Gl X x := by rfl) (hdb : (x == ("__debug__" : Str)) = false := by decide)
    (he : starEach (e :: es) X.env = (false, eval e X.env) :: starEach es X.env := by rfl) (hpl : (backTo cpos (starEach es X.env)).any (·.1) = false := by rfl) :
    DSX X c k (.Raise (some (.Call (.Name x np) (e :: es) [] cpos)) none pos) (raiX ⟨x, n⟩ fs) := fun ρ pins s σ H D I ⟨hid, sr, q⟩ => by
  unfold raiX at q
  cases e1 : fs ρ with
  | none => rw [e1] at q; exact q.elim
  | some ds =>
    rw [e1] at q
    dsimp only at q
    by_cases hl : ds.length ≤ 20
    · rw [if_pos hl] at q
      obtain ⟨bm, N, nm, qn, bs, hdct, sn, sub, ab, col, dd, k0, k1, k2, k3, k5, mN, hC, hNs, hni, T⟩ := exc_obj I.mod.kin ho
      refine wpAny_Raise_call_subT (C := C) (nm := nm) (q := qn) (N := N) (bs := bs) (bm := bm) (hdct := hdct) (sn := sn) (sub := sub) (ab := ab) (col := col) (dd := dd) (k0 := k0) (k1 := k1) (k2 := k2) (k3 := k3) (k5 := k5)
        F.excBase_ValueError (mN := mN) (T.hasType F.excBase_ValueError.hasBase) hd (by rw [he]; show (false || (backTo cpos (starEach es X.env)).any (·.1)) = false; rw [hpl]; rfl) hni (ld_glob I hg hm ⟨rfl, ?_⟩ hdb)
      have P := ha hid ρ cpos pins s σ H (fun vs H' => Same H H' ∧ Reps X.K (vw H' hid) vs ds) I ⟨sr, ds, e1, fun vs H' a b => ⟨a, b⟩⟩
      rw [he] at P ⊢
      refine Calls.evalArgs_plain (wpAny_mono P (fun us s1 ⟨vs, H1, I1, r, sm, rp⟩ => ⟨rfl, ?_, I1.bk _ _ hC, hNs.keeps I1.bk, T.keeps I1.bk, fun h' ea m => ?_⟩) fun _ _ y => y)
      · show us.length ≤ sizeLine
        rw [← r.length, rp.length]; exact Nat.le_trans hl (by decide)
      · exact q σ H1 hid C (sr.ext sm) (vw_same sm) hN pins ea _ _ rfl rfl (xs_made I1 m)
    · rw [if_neg hl] at q; exact q.elim
end
end L2
set_option Elab.async false
set_option linter.all false
set_option maxRecDepth 100000
set_option maxHeartbeats 1000000
namespace L2
open PySem PySem.Spec PyProof.Rows
/-! ### defs that are called within an except suite -/
structure RoomU (k : Nat) (A : Around) : Prop where
  dp : A.depth + 3 * k + 5 < recursionLimit
  un : A.units + 16 * k + 200 < cLine
theorem Room.u {k : Nat} {A : Around} (r : Room k A) : RoomU k A := ⟨r.dp, r.un⟩
theorem RoomU.mono {j k : Nat} {A : Around} (r : RoomU k A) (h : j ≤ k) : RoomU j A := ⟨by have := r.dp; omega, by have := r.un; omega⟩
theorem RoomU.mark {k : Nat} {A : Around} (r : RoomU k A) (v : Option Value) : RoomU k (A.mark v) := ⟨r.dp, r.un⟩
theorem RoomU.deeper {k : Nat} {A : Around} (r : RoomU (k + 1) A) (env : Env) : RoomU k (A.deeper env) :=
  ⟨by have := r.dp; show A.depth + 1 + 3 * k + 5 < _; omega, by have := r.un; show A.units + 3 + 16 * k + 200 < _; omega⟩
theorem RoomU.depth {k : Nat} {A : Around} (r : RoomU k A) : A.depth < recursionLimit := by have := r.dp; omega
theorem RoomU.units {k : Nat} {A : Around} (r : RoomU k A) : A.units + 64 < cLine := by have := r.un; omega
structure FnOkU (P : Program) (w : World) (K : PySem.W.Frag) (mg : Str → Option Value) (base : Heap) (CX : CXT) (k : Nat) (f : Addr) (fd : FuncData) (ps : List Str) (sp : Sp) : Prop where
  len : ∀ vs H Q E, sp vs H Q E → vs.length = ps.length
  run : ∀ (A : Around) (outer : List Env) (s : Shared) (H : Hp) (args : Args) (us : List Value) (vs : List V) (Q : VK) (E : XK), RoomU k A → Env0 P w K mg base A outer s H → BindsTo s fd args (ps.zip us) → Vals vs us → sp vs H Q E →
    codeAny (model P w) A (.call (.ref f) args) (CR CX outer P w H s Q E) s
def cxU (CX : CXT) (P : Program) (w : World) (K : PySem.W.Frag) (mg : Str → Option Value) (base : Heap) (N : List Str) (qual : Str) (scope : Scope) (f : Addr) (cd : Value) (A : Around) (outer : List Env) (s : Shared) (H : Hp) (E : XK) : Cx where
  prog := P
  w := w
  K := K
  mg := mg
  base := base
  A := A.deeper (envOfC qual scope s.heap.objs.size f cd)
  N := N
  s₀ := s
  H₀ := H
  env := envOfC qual scope s.heap.objs.size f cd
  outer := outer
  stack := envOfC qual scope s.heap.objs.size f cd :: outer
  ex := []
  calm := false
  fn := fun _ => true
  pn := []
  xe := fun e s' => wpAny (model P w) (A.deeper (envOfC qual scope s.heap.objs.size f cd)) (leaving (envOfC qual scope s.heap.objs.size f cd) e) (fun _ s'' => CX outer H s E e s'') (fun e' s'' => CX outer H s E e' s'') s'
theorem inv_startU {CX : CXT} {P : Program} {w : World} {K : PySem.W.Frag} {mg : Str → Option Value} {base : Heap} {N ps : List Str} {qual : Str} {scope : Scope} {f : Addr} {cd : Value} {A : Around} {outer : List Env} {s s1 : Shared} {H : Hp} {E : XK} {us : List Value} {vs : List V}
    (S : FnScope N ps scope) (e0 : Env0 P w K mg base A outer s H) (hl : vs.length = ps.length) (r : Vals vs us)
    (x : InCallC s s.heap.objs.size (bindL (envOfC qual scope s.heap.objs.size f cd).kindOf (ps.zip us) fun _ => none) (cellsFrom (s.heap.objs.size + 1) scope.names []) (bindC (envOfC qual scope s.heap.objs.size f cd).kindOf (ps.zip us) fun _ => none) s1) :
    Inv (cxU CX P w K mg base N qual scope f cd A outer s H E) [] (start N vs) H s1 := by
  have hpl : ps.length ≤ N.length := by have := congrArg List.length S.pre; rw [List.length_take] at this; omega
  obtain ⟨h1, tk, rfl, hk⟩ := x.done
  have noA : ∀ b : Addr, b ∉ (cxU CX P w K mg base N qual scope f cd A outer s H E).ex := fun b z => absurd (show b ∈ ([] : List Addr) from z) (by simp)
  refine ⟨⟨e0.mod, S.kind, rfl, rfl, Nat.le_refl _, fun y z c h1 h2 => ?_, fun y hy => ?_, fun y c _ h => ?_, (fun q => nomatch q), Around.frames_deeper e0.frames, .inr ⟨rfl, rfl⟩, fun b z => absurd z (noA b), e0.bs, e0.bsz, fun b _ _ => noA b, fun b z => absurd z (noA b), e0.funs, e0.frf⟩,
    rfl, e0.bare, Un.kept hk, ⟨_, x.toInCall.ns, fun i y v h1 h2 h3 => ?_⟩, fun y c h => ⟨_, x.cell y c h⟩, e0.hok.fresh (Nat.le_refl _), fun y c h => ?_, fun p hp => absurd (show p ∈ ([] : List (Addr × Obj)) from hp) (by simp), e0.hok.kept hk, ?_⟩
  · exact name_of_addr x.apart (PySem.mem_of_lookup h1) (PySem.mem_of_lookup h2)
  · have hy : scope.names.lookup y = some .cell ∨ scope.names.lookup y = some .free := hy
    rcases hy with hy | hy
    · exact cell_has hy
    · exact absurd rfl (S.nofree _ (PySem.mem_of_lookup hy))
  · exact Nat.le_of_lt (x.above y c (PySem.mem_of_lookup h))
  · have hi : i < vs.length := by
      unfold start at h2
      by_cases hi : i < vs.length
      · exact hi
      · rw [List.getElem?_append_right (by simpa using hi)] at h2
        rw [List.getElem?_replicate] at h2
        split at h2 <;> cases h2
    have ha : vs[i]? = some v := by
      unfold start at h2
      rw [List.getElem?_append_left (by simpa using hi), List.getElem?_map] at h2
      cases e : vs[i]? with
      | none => rw [e] at h2; cases h2
      | some a => rw [e] at h2; cases h2; rfl
    obtain ⟨u, hu, rv⟩ := r.get ha
    have hp : ps[i]? = some y := by
      rw [← S.pre, List.getElem?_take_of_lt (by omega)]; exact h1
    have ndP : ps.Nodup := by rw [← S.pre]; exact S.nd.sublist (List.take_sublist _ _)
    refine ⟨u, rv, ?_⟩
    rcases S.par y (List.mem_of_getElem? hp) with k | k
    · exact .inl ⟨k, bindL_get ndP hp hu k⟩
    · obtain ⟨c, e⟩ := cell_has (n := s.heap.objs.size + 1) k
      refine .inr ⟨.inl k, c, e, ?_⟩
      have q := x.cell y c e
      rw [bindC_get ndP hp hu (by show scope.names.lookup y ≠ _; rw [k]; decide)] at q
      exact q
  · exact e0.hok.fresh (Nat.le_of_lt (x.above y c (PySem.mem_of_lookup h)))
  · unfold start
    show _ = N.length
    rw [List.length_append, List.length_map, List.length_replicate]
    omega
theorem fn_ofU {CX : CXT} {P : Program} {w : World} {K : PySem.W.Frag} {mg : Str → Option Value} {base : Heap} {k : Nat} {f : Addr} {name qual : Str} {params : Arguments} {body : List Stmt} {scope : Scope} {dV kV doc pm cdv ct oc : Value} {an od : Option Addr}
    {osl : Array (Option Value)} {N ps : List Str} {sp : Sp} (lk : K.lookup f = some ⟨oc, od, .func (PySem.W.fnOf name qual params body scope dV kV doc pm an cdv ct), osl⟩) (hcd : PySem.W.codeIn K cdv qual = true) (S : FnScope N ps scope)
    (len : ∀ vs H Q E, sp vs H Q E → vs.length = ps.length)
    (hbody : ∀ (A : Around) (outer : List Env) (s : Shared) (H : Hp) (vs : List V) (Q : VK) (E : XK), RoomU k (A.deeper (envOfC qual scope s.heap.objs.size f cdv)) → sp vs H Q E →
      ∃ t, PSs (cxU CX P w K mg base N qual scope f cdv A outer s H E) body t ∧ t { nx := fun _ H' => Q .non H', rt := Q } (start N vs) H) :
    FnOkU P w K mg base CX (k + 1) f (PySem.W.fnOf name qual params body scope dV kV doc pm an cdv ct) ps sp := by
  refine ⟨len, fun A outer s H args us vs Q E hr e0 hb r hsp => ?_⟩
  have hl := len _ _ _ _ hsp
  have KX : K.In s.heap := e0.mod.kin.keeps fun b o e => (e0.bs b o e).1
  have lim : s.heap.NoLimit := e0.mod.nolimit.keeps fun b o e => (e0.bs b o e).1
  have hkind : ∀ y ∈ ps.zip us, scope.names.lookup y.1 = some .local ∨ (scope.names.lookup y.1 = some .cell ∧ ((cellsFrom (s.heap.objs.size + 1) scope.names []).lookup y.1).isSome = true) := fun ⟨n, v⟩ hy => by
    rcases S.par n (List.of_mem_zip hy).1 with q | q
    · exact .inl q
    · exact .inr ⟨q, PySem.W.cellsFrom_some _ _ _ (.inl q)⟩
  refine codeAny_call_function hr.depth (KX _ _ lk) rfl S.co S.gen rfl (PySem.W.codeRec_of KX hcd) (hb _ _ _ _ ?_)
  refine wpAny_newFunctionEnv_cells S.kind hkind fun env he s1 x => ?_
  subst he
  refine ⟨lim.keeps x.toInCall.keep, codeAny_func ?_⟩
  obtain ⟨t, ht, hq⟩ := hbody A outer s H vs Q E (hr.deeper _) hsp
  have I : Inv (cxU CX P w K mg base N qual scope f cdv A outer s H E) [] (start N vs) H s1 := inv_startU S e0 hl r x
  refine wpAny_mono (ht [] s1 (start N vs) H _ I hq) (fun fl s' hs => ?_) fun e s' hs => hs
  have fin : ∀ {σ' : St} {H' : Hp} {v : V} {u : Value}, Inv (cxU CX P w K mg base N qual scope f cdv A outer s H E) [] σ' H' s' → RelV v u → Q v H' → CE outer P w H s Q u s' :=
    fun {σ' H' v u} J rv q => ⟨v, H', J.os, J.bare, J.base, J.hok, rv, q⟩
  cases fl with
  | ret u =>
    obtain ⟨v, σ', H', J, rv, q⟩ := hs
    exact fin J rv q
  | next =>
    obtain ⟨σ', H', J, q⟩ := hs
    exact fin (v := V.non) (u := Value.none) J rfl q
  | brk =>
    obtain ⟨_, _, _, q⟩ := hs
    exact False.elim q
  | cont =>
    obtain ⟨_, _, _, q⟩ := hs
    exact False.elim q
end L2
set_option Elab.async false
set_option linter.all false
set_option maxRecDepth 100000
set_option maxHeartbeats 1000000
namespace L2
open PySem PySem.Spec PyProof.Rows
/-! ### is None, is True -/
section
variable {X : Cx}
def rIs (neg : Bool) : R2 := fun x y H Q => (y = .non ∨ ∃ b, y = .bl b) ∧ Q (.bl (if neg then !decide (x = y) else decide (x = y))) H
theorem op_is : OpR X (compareOp .Is) (rIs false) := by
  intro pins s σ H x y v u Q I rx ry h
  obtain ⟨hy, q⟩ := h
  have key : ∀ b : Bool, b = decide (x = y) → EP X pins σ Q (.bool b) s := fun b e => ⟨.bl b, H, I, rfl, by rw [e]; exact q⟩
  rcases hy with rfl | ⟨b, rfl⟩
  · cases ry
    exact is_none_gen (key _ rx.none_iff)
  · cases ry
    cases x with
    | non => cases rx; exact wpAny_pure (key _ (by simp))
    | bl c => cases rx; exact wpAny_pure (key _ (by rw [Bool.eq_iff_iff]; simp))
    | int _ => obtain ⟨t, rfl⟩ := rx; exact wpAny_pure (key _ (by simp))
    | str _ => obtain ⟨t, rfl⟩ := rx; exact wpAny_pure (key _ (by simp))
    | byt _ => obtain ⟨t, rfl⟩ := rx; exact wpAny_pure (key _ (by simp))
    | flt _ => obtain ⟨t, rfl⟩ := rx; exact wpAny_pure (key _ (by simp))
    | ref _ => cases rx; exact wpAny_pure (key _ (by simp))
    | ty _ => cases rx; exact wpAny_pure (key _ (by simp))
end
def sameD : D → D → Bool
  | .non, .non => true
  | .bl a, .bl b => a == b
  | _, _ => false
def isF (neg : Bool) : D → D → Option D := fun x y => match y with
  | .non => some (.bl (if neg then !sameD x y else sameD x y))
  | .bl _ => some (.bl (if neg then !sameD x y else sameD x y))
  | _ => none
theorem od_is {K : PySem.W.Frag} (neg : Bool) : OpD K .s (rIs neg) (isF neg) := by
  intro H hid v u x y d Q hf h r1 r2 q
  have key : ∀ {w : V}, Rep1 K H (vw H hid) u y → (u = .non ∨ ∃ b, u = .bl b) → decide (v = u) = sameD x y := fun {w} _ hu => by
    cases x with
    | non => cases r1.non; rcases hu with rfl | ⟨b, rfl⟩ <;> cases y <;> first | rfl | (cases r2.non; done) | (cases r2.bl; done) | (cases r2.bl; rfl) | (cases r2.int; done) | (cases r2.str; done) | (obtain ⟨a, xs, e, _⟩ := r2.tup; cases e; done) | (obtain ⟨a, xs, e, _⟩ := r2.lst; cases e; done) | (obtain ⟨a, xs, e, _⟩ := r2.scr; cases e; done)
    | bl c => cases r1.bl; rcases hu with rfl | ⟨b, rfl⟩ <;> cases y <;> first | rfl | (cases r2.non; done) | (cases r2.bl; show decide (V.bl c = V.bl _) = (c == _); rw [Bool.eq_iff_iff]; simp; done) | (cases r2.bl; done) | (cases r2.int; done) | (cases r2.str; done) | (obtain ⟨a, xs, e, _⟩ := r2.tup; cases e; done) | (obtain ⟨a, xs, e, _⟩ := r2.lst; cases e; done) | (obtain ⟨a, xs, e, _⟩ := r2.scr; cases e; done)
    | int i => cases r1.int; rcases hu with rfl | ⟨b, rfl⟩ <;> cases y <;> rfl
    | str z => cases r1.str; rcases hu with rfl | ⟨b, rfl⟩ <;> cases y <;> rfl
    | tup ds => obtain ⟨a, xs, rfl, _⟩ := r1.tup; rcases hu with rfl | ⟨b, rfl⟩ <;> cases y <;> rfl
    | lst ds => obtain ⟨a, xs, rfl, _⟩ := r1.lst; rcases hu with rfl | ⟨b, rfl⟩ <;> cases y <;> rfl
    | scr ds => obtain ⟨a, xs, rfl, _⟩ := r1.scr; rcases hu with rfl | ⟨b, rfl⟩ <;> cases y <;> rfl
  unfold isF at h
  split at h
  · have hu : u = .non := r2.non
    cases h
    refine ⟨.inl hu, ?_⟩
    rw [key (w := v) r2 (.inl hu)]
    exact q _ H (Same.refl _) .bl
  · have hu := r2.bl
    cases h
    refine ⟨.inr ⟨_, hu⟩, ?_⟩
    rw [key (w := v) r2 (.inr ⟨_, hu⟩)]
    exact q _ H (Same.refl _) .bl
  · cases h
/-! ### defs that may raise -/
def fnX (kd : Kd) (n : Nat) (t : FX) (ds : List D) : Option (Except Ex D) := match t (rho0 n ds) with
  | .ok (.rt d _) => some (.ok d)
  | .ok (.nx _) => (match kd with
    | .n => none
    | _ => some (.ok .non))
  | .ok _ => none
  | .error z => some (.error z.1)
section
variable {P : Program} {w : World} {K : PySem.W.Frag} {mg : Str → Option Value} {base : Heap} {x : Str} {st : Stmt} {N ps : List Str} {k n : Nat} {kd : Kd}
theorem clx_pure {t : FX} (F : Df K mg x st ps) (S : FnScope N ps (defScope st)) (hkd : kd ≠ .b) (hn : ps.length = n)
    (body : ∀ (f : Addr) (cdv : Value) (A : Around) (outer : List Env) (s : Shared) (H : Hp) (hid : Hid) (E : XK), Room k (A.deeper (envOfC x (defScope st) s.heap.objs.size f cdv)) →
      DSsX (cxOf (CXe P w) P w K mg base N x (defScope st) f cdv A outer s H E) ⟨H, hid, fun _ => false⟩ kd (defBody st) t) :
    ClX P w K mg base (k + 1) x ps (spX K kd n (fnX kd N.length t)) := by
  obtain ⟨f, fd, F, hm, hb⟩ := F.ex
  subst hn
  refine ⟨f, fd, ?_, hm, F.kp, hb⟩
  obtain ⟨oc, od, kV, doc, pm, an, cdv, ct, osl, rfl, lk, hcd⟩ := F.ex
  refine fn_of lk hcd S (fun vs H Q E h => ?_) fun A outer s H vs Q E hr h => ?_
  · obtain ⟨hid, ds, _, r, hl, _⟩ := h
    rw [r.length, hl]
  · obtain ⟨hid, ds, tr, r, hl, r0, hP, q⟩ := h
    refine ⟨_, body f cdv A outer s H hid E hr (rho0 N.length ds), hid, SR.begins tr r, ?_⟩
    unfold fnX at hP
    cases e : t (rho0 N.length ds) with
    | error z =>
      rw [e] at hP
      cases hP
      intro σ' H' hid' C sr _ hn pins ea o0 s' hc hd xs
      have sm : Same H H' := fun b o z => sr.kp b o z rfl
      exact xs_leave xs hc hd (q C H' sm hn) fun s'' h => h
    | ok o =>
      rw [e] at hP
      cases o with
      | nx ρ =>
        intro σ' H' hid' sr _
        have sm : Same H H' := fun b o z => sr.kp b o z rfl
        cases kd with
        | b => exact absurd rfl hkd
        | s => cases hP; exact q _ H' sm .non
        | n => cases hP
      | rt d' ρ =>
        cases hP
        intro v H' R
        have sm : Same H H' := fun b o z => R.kp b o z rfl
        cases kd with
        | b => exact absurd rfl hkd
        | s => exact q v H' sm R.val
        | n => exact q v H' sm R.val
      | bk ρ => cases hP
      | ct ρ => cases hP
      | no => cases hP
/-! ### defs of a caught exception -/
def spU (K : PySem.W.Frag) (k : Kd) (M : Ex → Option D) : Sp := fun vs H Q _ => ∃ hid a z, vs = [.ref a] ∧ Trk hid H ∧ (∃ φ, vw H hid a = some (.ext φ) ∧ ∀ h, φ h → ExcAt K z.x z.n a h) ∧ ∃ d, M z = some d ∧ ∀ v H', Same H H' → RK K k H H' hid v d → Q v H'
structure ClU (P : Program) (w : World) (K : PySem.W.Frag) (mg : Str → Option Value) (base : Heap) (k : Nat) (x : Str) (ps : List Str) (sp : Sp) : Prop where
  ex : ∃ f fd, FnOkU P w K mg base CX0 k f fd ps sp ∧ mg x = some (.ref f) ∧ PySem.W.keepIn K (.ref f) = true ∧ Binds K fd ps []
def rhoU (n : Nat) (z : Ex) : Rho := .ob (.exc z.x z.n) :: List.replicate (n - 1) .no
def fnU (n : Nat) (t : FS) (z : Ex) : Option D := match t (rhoU n z) with
  | .rt d _ => some d
  | _ => none
theorem clu_exc {t : FS} {y : Str} (F : Df K mg x st [y]) (S : FnScope N [y] (defScope st))
    (body : ∀ (f : Addr) (cdv : Value) (A : Around) (outer : List Env) (s : Shared) (H : Hp) (hid : Hid) (E : XK), RoomU k (A.deeper (envOfC x (defScope st) s.heap.objs.size f cdv)) →
      DSs (cxU CX0 P w K mg base N x (defScope st) f cdv A outer s H E).nox ⟨H, hid, fun _ => false⟩ .s (defBody st) t) :
    ClU P w K mg base (k + 1) x [y] (spU K .s (fnU N.length t)) := by
  obtain ⟨f, fd, F, hm, hb⟩ := F.ex
  refine ⟨f, fd, ?_, hm, F.kp, hb⟩
  obtain ⟨oc, od, kV, doc, pm, an, cdv, ct, osl, rfl, lk, hcd⟩ := F.ex
  refine fn_ofU lk hcd S (fun vs H Q E h => ?_) fun A outer s H vs Q E hr h => ?_
  · obtain ⟨hid, a, z, rfl, _⟩ := h
    rfl
  · obtain ⟨hid, a, z, rfl, tr, hx, d, hM, q⟩ := h
    have hN : 0 < N.length := by have := congrArg List.length S.pre; rw [List.length_take] at this; simp at this; omega
    refine ⟨_, PSs.nox (body f cdv A outer s H hid E hr (rhoU N.length z)), hid, ⟨tr.1, tr.2, fun _ h => h, fun _ _ h _ => h, fun b o h => ⟨o, h⟩, tr.1, (fun _ h => nomatch h), ?_, fun i s e => ?_, fun i j b ne o1 o2 _ _ => ?_⟩, ?_⟩
    · unfold start rhoU; simp
    · cases i with
      | zero =>
        unfold rhoU at e
        simp at e; subst e
        exact ⟨a, rfl, hx⟩
      | succ i =>
        unfold rhoU at e
        rw [List.getElem?_cons_succ, List.getElem?_replicate] at e
        split at e
        · cases e; trivial
        · cases e
    · cases i with
      | zero => exact o1.elim
      | succ i =>
        unfold rhoU at o1
        rw [List.getElem?_cons_succ, List.getElem?_replicate] at o1
        split at o1 <;> exact o1.elim
    · unfold fnU at hM
      cases e : t (rhoU N.length z) with
      | rt d' ρ =>
        rw [e] at hM; cases hM
        exact fun v H' R => q v H' (fun b o z => R.kp b o z rfl) R.val
      | nx ρ => rw [e] at hM; cases hM
      | bk ρ => rw [e] at hM; cases hM
      | ct ρ => rw [e] at hM; cases hM
      | no => rw [e] at hM; cases hM
end
section
variable {X : Cx} {c : Ct} {k : Kd} {e : Expr} {pos p py : Pos} {x y : Str} {ps : List Str} {j i : Nat}
def exS (i : Nat) (M : Ex → Option D) : FE := fun ρ => match ρ[i]? with
  | some (.ob (.exc x n)) => M ⟨x, n⟩
  | _ => none
/-- f(e), e a caught exception -/
theorem dp_clU (i : Nat) {M : Ex → Option D} (C : ClU X.prog X.w X.K X.mg X.base j x ps (spU X.K k M)) (hr : RoomU j X.A) (hN : X.N[i]? = some y := by rfl) (hv : Vis X.env.scope y := by first | exact Or.inl rfl | exact Or.inr (Or.inl rfl) | exact Or.inr (Or.inr rfl)) (hd : (y == ("__debug__" : Str)) = false := by decide)
    (hcd : (y == ("__classdict__" : Str)) = false := by decide) (hs : starEach [.Name y py] X.env = (false, eval (.Name y py) X.env) :: starEach [] X.env := by rfl) (hg : Gl X x := by rfl) (hdb : (x == ("__debug__" : Str)) = false := by decide) (hpl : (backTo pos (starEach [] X.env)).any (·.1) = false := by rfl) :
    DP X c k (.Call (.Name x p) [.Name y py] [] pos) (exS i M) := fun hid ρ pins s σ H Q I ⟨sr, d, hd', q⟩ => by
  obtain ⟨f, fd, F, hm, hk, hb⟩ := C.ex
  unfold exS at hd'
  split at hd'
  · rename_i x' n' e'
    obtain ⟨a, z1, z2⟩ := sr.sl i _ e'
    refine wpAny_Call_Name_kw (ld_glob I hg hm ?_ hdb)
    refine PySem.W.callWith_K (h₀ := X.base) I.ok.mod.kin hk (thn (pa_cons (pv i hN hv hd hcd) pa_nil hs pos pins s σ H (fun vs H' => vs = [.ref a] ∧ H' = H) I ⟨.ref a, z1, rfl, rfl⟩) fun us s1 ⟨vs, H1, I1, r, ev, eH⟩ => ⟨I1.kIn, ?_⟩) hs hpl
    subst ev eH
    have hsp : spU X.K k M [.ref a] H1 Q E0 := ⟨hid, a, ⟨x', n'⟩, rfl, sr.trk, z2, d, hd', q⟩
    have hl : (us ++ []).length = ps.length := by rw [List.append_nil, ← r.length]; exact F.len _ _ _ _ hsp
    have hb' := hb s1 us I1.kIn hl
    rw [List.append_nil] at hb'
    refine wpAny_call (codeAny_mono (F.run X.A X.stack s1 H1 ⟨us, []⟩ us [.ref a] Q E0 hr I1.env0 hb' r hsp) fun r s' hq => ?_)
    cases r with
    | error e => exact hq.elim
    | ok fl =>
      cases fl with
      | ret u => exact I1.after hq
      | next => exact False.elim hq
      | brk => exact False.elim hq
      | cont => exact False.elim hq
  · cases hd'
end
end L2
set_option Elab.async false
set_option linter.all false
set_option maxRecDepth 100000
set_option maxHeartbeats 1000000
namespace L2
open PySem PySem.Spec PyProof.Rows
/-! ### the classes of the exceptions -/
def subE (x y : Str) : Bool := x == y || y == ("RookError" : Str)
structure ExRow (K : PySem.W.Frag) (mg : Str → Option Value) (CR : Addr) (x : Str) (C : Addr) : Prop where
  mg : mg x = some (.ref C)
  ns : PySem.W.nsIn K mainGlobals x = some (some (.ref C))
  cc : ExcC K C
  ty : PySem.W.typeIn K (.ref C) = some (.type "type")
  mr : ∃ cd, PySem.W.clsIn K C = some cd ∧ cd.mro = (if C = CR then .ref CR :: bmV else .ref C :: .ref CR :: bmV)
structure ExTab (K : PySem.W.Frag) (mg : Str → Option Value) (CR : Addr) (tbl : List (Str × Addr)) : Prop where
  row : ∀ p ∈ tbl, ExRow K mg CR p.1 p.2
  root : (("RookError" : Str), CR) ∈ tbl
  nd : (tbl.map (·.2)).Nodup
section
variable {K : PySem.W.Frag} {mg : Str → Option Value} {CR : Addr} {tbl : List (Str × Addr)}
theorem nodup_snd : ∀ {l : List (Str × Addr)}, (l.map (·.2)).Nodup → ∀ {p q : Str × Addr}, p ∈ l → q ∈ l → p.2 = q.2 → p = q
  | [], _, _, _, h, _, _ => nomatch h
  | a :: l, nd, p, q, hp, hq, e => by
    rw [List.map_cons, List.nodup_cons] at nd
    rcases List.mem_cons.mp hp with ep | ep
    · rcases List.mem_cons.mp hq with eq | eq
      · rw [ep, eq]
      · exact absurd (List.mem_map.mpr ⟨q, eq, by rw [← e, ep]⟩) nd.1
    · rcases List.mem_cons.mp hq with eq | eq
      · exact absurd (List.mem_map.mpr ⟨p, ep, by rw [e, eq]⟩) nd.1
      · exact nodup_snd nd.2 ep eq e
theorem ExTab.addr (T : ExTab K mg CR tbl) {p q : Str × Addr} (hp : p ∈ tbl) (hq : q ∈ tbl) (e : p.1 = q.1) : p.2 = q.2 := by
  have h1 := (T.row p hp).ns
  have h2 := (T.row q hq).ns
  rw [e, h2] at h1
  injection h1 with h1
  injection h1 with h1
  exact (Value.ref.inj h1).symm
theorem ExTab.mro (T : ExTab K mg CR tbl) {p q : Str × Addr} (hp : p ∈ tbl) (hq : q ∈ tbl) : PySem.W.mroIn K p.2 (.ref q.2) = some (subE p.1 q.1) := by
  obtain ⟨cd, h1, h2⟩ := (T.row p hp).mr
  unfold PySem.W.mroIn
  rw [h1, Option.bind_some, h2]
  have hr : q.2 = CR ↔ q.1 = ("RookError" : Str) := ⟨fun e => by rw [nodup_snd T.nd hq T.root e], fun e => T.addr hq T.root e⟩
  have hs : p.2 = q.2 ↔ p.1 = q.1 := ⟨fun e => by rw [nodup_snd T.nd hp hq e], T.addr hp hq⟩
  have ev : subE p.1 q.1 = (decide (p.2 = q.2) || decide (q.2 = CR)) := by
    unfold subE
    congr 1
    · rw [Bool.eq_iff_iff, beq_iff_eq, decide_eq_true_eq]; exact hs.symm
    · rw [Bool.eq_iff_iff, beq_iff_eq, decide_eq_true_eq]; exact hr.symm
  rw [ev]
  by_cases e : p.2 = CR
  · rw [if_pos e, if_neg (by simp)]
    congr 1
    rw [e, Bool.eq_iff_iff, List.contains_iff_mem, Bool.or_eq_true, decide_eq_true_eq, decide_eq_true_eq, List.mem_cons]
    exact ⟨fun h => h.elim (fun h => .inl (Value.ref.inj h).symm) fun h => by simp [bmV] at h, fun h => .inl (h.elim (fun h => by rw [h]) fun h => by rw [h])⟩
  · rw [if_neg e, if_neg (by simp)]
    congr 1
    rw [Bool.eq_iff_iff, List.contains_iff_mem, Bool.or_eq_true, decide_eq_true_eq, decide_eq_true_eq, List.mem_cons, List.mem_cons]
    exact ⟨fun h => h.elim (fun h => .inl (Value.ref.inj h).symm) fun h => h.elim (fun h => .inr (Value.ref.inj h)) fun h => by simp [bmV] at h, fun h => h.elim (fun h => .inl (by rw [h])) fun h => .inr (.inl (by rw [h]))⟩
theorem ExTab.one (T : ExTab K mg CR tbl) {p q : Str × Addr} (hp : p ∈ tbl) (hq : q ∈ tbl) : PySem.W.kitOne K (.ref p.2) (.ref q.2) = some (subE p.1 q.1) := by
  unfold PySem.W.kitOne
  by_cases e : (Value.ref p.2 == Value.ref q.2) = true
  · rw [if_pos e]
    have e' : p.2 = q.2 := Value.ref.inj (beq_iff_eq.mp e)
    rw [nodup_snd T.nd hp hq e']
    unfold subE; simp
  · rw [if_neg e]
    unfold PySem.W.kitCls
    obtain ⟨cd, h1, _⟩ := (T.row q hq).mr
    dsimp only
    rw [h1, (T.row q hq).ty, if_pos (by simp)]
    exact T.mro hp hq
theorem ExTab.any (T : ExTab K mg CR tbl) {p : Str × Addr} (hp : p ∈ tbl) : ∀ (qs : List (Str × Addr)), (∀ q ∈ qs, q ∈ tbl) → PySem.W.kitAny K (.ref p.2) (qs.map fun q => Value.ref q.2) = some (qs.any fun q => subE p.1 q.1)
  | [], _ => rfl
  | q :: qs, h => by
    rw [List.map_cons, List.any_cons]
    unfold PySem.W.kitAny
    rw [T.one hp (h q List.mem_cons_self)]
    cases e : subE p.1 q.1 with
    | true => rfl
    | false => exact (T.any hp qs fun q hq => h q (List.mem_cons_of_mem _ hq)).trans (by simp)
theorem kit_ValueError : PySem.W.kitMeta "ValueError" = true := by kernel_rfl
theorem ExTab.val (T : ExTab K mg CR tbl) {p : Str × Addr} (hp : p ∈ tbl) : PySem.W.kitOne K (.ref p.2) (.type "ValueError") = some true := by
  obtain ⟨cd, h1, h2⟩ := (T.row p hp).mr
  unfold PySem.W.kitOne
  rw [if_neg (by simp)]
  unfold PySem.W.kitCls
  dsimp only
  rw [if_pos kit_ValueError]
  show PySem.W.mroIn K p.2 (.type "ValueError") = _
  unfold PySem.W.mroIn
  rw [h1, Option.bind_some, h2]
  by_cases e : p.2 = CR
  · rw [if_pos e, if_neg (by simp)]; rfl
  · rw [if_neg e, if_neg (by simp)]; rfl
end
/-! ### isinstance(e, ..) of a caught exception -/
theorem ExcAt.inst {K : PySem.W.Frag} {x : Str} {n : Int} {a C : Addr} {h : Heap} (e : ExcAt K x n a h) (ns : PySem.W.nsIn K mainGlobals x = some (some (.ref C))) : ∃ o, PySem.W.InstAt h a o C none := by
  obtain ⟨C', o, h1, h2, h3, h4, h5⟩ := e
  rw [ns] at h1
  cases h1
  exact ⟨o, h2, h3, h5, by rw [h4]; trivial⟩
section
variable {X : Cx} {c : Ct} {k : Kd} {e : Expr} {pos p p1 p2 p3 py : Pos} {x y z : Str} {i : Nat} {CR C : Addr} {tbl : List (Str × Addr)}
def rIsE (K : PySem.W.Frag) : List V → Hp → VK → Prop := fun xs H Q => ∃ a v C b, xs = [.ref a, v] ∧ (∃ φ, H a = some (.ext φ) ∧ ∀ h, φ h → ∃ o, PySem.W.InstAt h a o C none) ∧ ExcC K C ∧
  ((∃ D, v = .ref D ∧ PySem.W.kitOne K (.ref C) (.ref D) = some b) ∨ (∃ T, v = .ty T ∧ PySem.W.kitOne K (.ref C) (.type T) = some b) ∨ ∃ (t : Addr) (ds : List Addr), v = .ref t ∧ H t = some (.tup (ds.map V.ref)) ∧ PySem.W.kitAny K (.ref C) (ds.map Value.ref) = some b) ∧ Q (.bl b) H
theorem vals_refs : ∀ {ds : List Addr} {us : List Value}, Vals (ds.map V.ref) us → us = ds.map Value.ref
  | [], _, .nil => rfl
  | _ :: _, _, .cons r t => by cases r; rw [vals_refs t]; rfl
theorem call_isE : CallR X (.builtin "isinstance") (rIsE X.K) := by
  intro pins s σ H xs us Q I r h
  obtain ⟨a, v, C, b, rfl, ⟨φ, h1, h2⟩, ec, hv, q⟩ := h
  obtain ⟨p1, _, _⟩ := I.hok a _ h1
  have inst := h2 _ p1
  cases r with
  | cons r0 r1 =>
    cases r1 with
    | cons r1 r2 =>
      cases r2
      cases r0
      have fin : ∀ tk, EP X pins σ Q (.bool b) { s with toks := tk } := fun tk => ⟨.bl b, H, I.tok tk, rfl, q⟩
      have nb : (Value.ref a) ≠ .builtin "__main__.__loader__#opaque" := fun z => by cases z
      rcases hv with ⟨D, rfl, e⟩ | ⟨T, rfl, e⟩ | ⟨t, ds, rfl, ht, e⟩
      · cases r1
        exact PySem.W.kia_one (exc_kit ec) I.kIn inst e nb fin
      · cases r1
        exact PySem.W.kia_one (exc_kit ec) I.kIn inst e nb fin
      · cases r1
        obtain ⟨_, its, rv, ⟨o, g1, g2, n, g3⟩, _⟩ := I.hok t _ ht
        have ei := vals_refs rv
        subst ei
        obtain ⟨oc, od, dt, sl⟩ := o
        dsimp only at g2 g3
        subst g2 g3
        exact PySem.W.kia_tup (exc_kit ec) I.kIn inst g1 e nb fin
def tKs (ds : List Addr) : TA := fun _ H Q => Q (ds.map V.ref) H
theorem pks_nil : PA X [] (tKs []) := fun p pins s σ H Q I h => pa_nil p pins s σ H Q I h
theorem pks_cons {es : List Expr} {D : Addr} {ds : List Addr} (hm : X.mg y = some (.ref D)) (hr : PA X es (tKs ds)) (hg : Gl X y := by rfl) (hd : (y == ("__debug__" : Str)) = false := by decide) (hs : starEach (.Name y p2 :: es) X.env = (false, eval (.Name y p2) X.env) :: starEach es X.env := by rfl) :
    PA X (.Name y p2 :: es) (tKs (D :: ds)) := PA.imp (pa_cons (pe_glob (v := .ref D) hg hm rfl hd) hr hs) fun σ H Q h => h
def isEF (i : Nat) (ns ys : List Str) : FE := exS i fun z => if ns.contains z.x = true ∧ ys.all (fun y => ns.contains y) = true then some (.bl (ys.any fun y => subE z.x y)) else none
def isEV (i : Nat) (ns : List Str) : FE := exS i fun z => if ns.contains z.x = true then some (.bl true) else none
theorem tab_has {ns : List Str} {tbl : List (Str × Addr)} (e : tbl.map (·.1) = ns) {x : Str} (h : ns.contains x = true) : ∃ C, (x, C) ∈ tbl := by
  rw [← e, List.contains_iff_mem] at h
  obtain ⟨q, h1, h2⟩ := List.mem_map.mp h
  exact ⟨q.2, by rw [← h2]; exact h1⟩
theorem ob_ext {K : PySem.W.Frag} {hid : Hid} {H : Hp} {a : Addr} {x : Str} {n : Int} (h : ObOk K c hid H a (.exc x n)) (ns : PySem.W.nsIn K mainGlobals x = some (some (.ref C))) : ∃ φ, H a = some (.ext φ) ∧ ∀ h, φ h → ∃ o, PySem.W.InstAt h a o C none := by
  obtain ⟨φ, h1, h2⟩ := h
  exact ⟨φ, vw_le _ _ _ _ h1, fun h q => (h2 h q).inst ns⟩
variable (T : ExTab X.K X.mg CR tbl)
include T
theorem dp_isE1 (i : Nat) {ns : List Str} {D : Addr} (hT : tbl.map (·.1) = ns) (hD : (y, D) ∈ tbl) (hm : X.mg "isinstance" = none) (hN : X.N[i]? = some z := by rfl) (hv : Vis X.env.scope z := by first | exact Or.inl rfl | exact Or.inr (Or.inl rfl) | exact Or.inr (Or.inr rfl)) (hd : (z == ("__debug__" : Str)) = false := by decide) (hcd : (z == ("__classdict__" : Str)) = false := by decide)
    (hg : Gl X "isinstance" := by rfl) (hgy : Gl X y := by rfl) (hbv : bootBuiltins "isinstance" = some (.builtin "isinstance") := by kernel_rfl) (hdy : (y == ("__debug__" : Str)) = false := by decide)
    (hs1 : starEach [.Name z p1, .Name y p2] X.env = (false, eval (.Name z p1) X.env) :: starEach [.Name y p2] X.env := by rfl) (hs2 : starEach [.Name y p2] X.env = (false, eval (.Name y p2) X.env) :: starEach [] X.env := by rfl) (hpl : (backTo pos (starEach [.Name y p2] X.env)).any (·.1) = false := by rfl) :
    DP X c .s (.Call (.Name "isinstance" p) [.Name z p1, .Name y p2] [] pos) (isEF i ns [y]) := fun hid ρ =>
  PE.imp (pe_callB call_isE hg hm hbv (pa_cons (pv i hN hv hd hcd) (pa_cons (pe_glob (v := .ref D) hgy (T.row _ hD).mg rfl hdy) pa_nil hs2) hs1) (by decide) (by decide) hs1 hpl) fun σ H Q ⟨sr, d, hd, q⟩ => by
    unfold isEF exS at hd
    split at hd
    · rename_i x' n' e'
      dsimp only at hd
      split at hd
      · rename_i hc
        cases hd
        obtain ⟨a, z1, z2⟩ := sr.sl i _ e'
        obtain ⟨C, hC⟩ := tab_has hT hc.1
        refine ⟨.ref a, z1, a, .ref D, C, subE x' y, rfl, ob_ext z2 (T.row _ hC).ns, (T.row _ hC).cc, .inl ⟨D, rfl, T.one hC hD⟩, ?_⟩
        have := q (.bl (subE x' y)) H (Same.refl _)
        simp only [List.any_cons, List.any_nil, Bool.or_false] at this
        exact this .bl
      · cases hd
    · cases hd
theorem dp_isEV (i : Nat) {ns : List Str} (hT : tbl.map (·.1) = ns) (hm : X.mg "isinstance" = none) (hmv : X.mg "ValueError" = none) (hN : X.N[i]? = some z := by rfl) (hv : Vis X.env.scope z := by first | exact Or.inl rfl | exact Or.inr (Or.inl rfl) | exact Or.inr (Or.inr rfl)) (hd : (z == ("__debug__" : Str)) = false := by decide) (hcd : (z == ("__classdict__" : Str)) = false := by decide)
    (hg : Gl X "isinstance" := by rfl) (hgy : Gl X "ValueError" := by rfl) (hbv : bootBuiltins "isinstance" = some (.builtin "isinstance") := by kernel_rfl) (hbw : bootBuiltins "ValueError" = some (.type "ValueError") := by kernel_rfl)
    (hs1 : starEach [.Name z p1, .Name "ValueError" p2] X.env = (false, eval (.Name z p1) X.env) :: starEach [.Name "ValueError" p2] X.env := by rfl) (hs2 : starEach [.Name "ValueError" p2] X.env = (false, eval (.Name "ValueError" p2) X.env) :: starEach [] X.env := by rfl) (hpl : (backTo pos (starEach [.Name "ValueError" p2] X.env)).any (·.1) = false := by rfl) :
    DP X c .s (.Call (.Name "isinstance" p) [.Name z p1, .Name "ValueError" p2] [] pos) (isEV i ns) := fun hid ρ =>
  PE.imp (pe_callB call_isE hg hm hbv (pa_cons (pv i hN hv hd hcd) (pa_cons (pe_bltn (v := .ty "ValueError") hgy hmv hbw rfl) pa_nil hs2) hs1) (by decide) (by decide) hs1 hpl) fun σ H Q ⟨sr, d, hd, q⟩ => by
    unfold isEV exS at hd
    split at hd
    · rename_i x' n' e'
      dsimp only at hd
      split at hd
      · rename_i hc
        cases hd
        obtain ⟨a, z1, z2⟩ := sr.sl i _ e'
        obtain ⟨C, hC⟩ := tab_has hT hc
        exact ⟨.ref a, z1, a, .ty "ValueError", C, true, rfl, ob_ext z2 (T.row _ hC).ns, (T.row _ hC).cc, .inr (.inl ⟨_, rfl, T.val hC⟩), q (.bl true) H (Same.refl _) .bl⟩
      · cases hd
    · cases hd
theorem dp_isET (i : Nat) {ns : List Str} {es : List Expr} {x1 : Nat} {qs : List (Str × Addr)} (hT : tbl.map (·.1) = ns) (hq : ∀ q ∈ qs, q ∈ tbl) (hP : PA X es (tKs (qs.map (·.2)))) (hlen : qs.length ≤ 100) (hm : X.mg "isinstance" = none) (hN : X.N[i]? = some z := by rfl) (hv : Vis X.env.scope z := by first | exact Or.inl rfl | exact Or.inr (Or.inl rfl) | exact Or.inr (Or.inr rfl)) (hd : (z == ("__debug__" : Str)) = false := by decide) (hcd : (z == ("__classdict__" : Str)) = false := by decide)
    (hg : Gl X "isinstance" := by rfl) (hbv : bootBuiltins "isinstance" = some (.builtin "isinstance") := by kernel_rfl)
    (hs1 : starEach [.Name z p1, .Tuple es x1 p2] X.env = (false, eval (.Name z p1) X.env) :: starEach [.Tuple es x1 p2] X.env := by rfl) (hs2 : starEach [.Tuple es x1 p2] X.env = (false, eval (.Tuple es x1 p2) X.env) :: starEach [] X.env := by rfl) (hpl : (backTo pos (starEach [.Tuple es x1 p2] X.env)).any (·.1) = false := by rfl) :
    DP X c .s (.Call (.Name "isinstance" p) [.Name z p1, .Tuple es x1 p2] [] pos) (isEF i ns (qs.map (·.1))) := fun hid ρ =>
  PE.imp (pe_callB call_isE hg hm hbv (pa_cons (pv i hN hv hd hcd) (pa_cons (pe_tup hP) pa_nil hs2) hs1) (by decide) (by decide) hs1 hpl) fun σ H Q ⟨sr, d, hd, q⟩ => by
    unfold isEF exS at hd
    split at hd
    · rename_i x' n' e'
      dsimp only at hd
      split at hd
      · rename_i hc
        cases hd
        obtain ⟨a, z1, z2⟩ := sr.sl i _ e'
        obtain ⟨C, hC⟩ := tab_has hT hc.1
        refine ⟨.ref a, z1, ?_, fun t ht => ?_⟩
        · show (List.map V.ref _).length ≤ sizeLine
          rw [List.length_map, List.length_map]
          exact Nat.le_trans hlen (by decide)
        · obtain ⟨φ, g1, g2⟩ := ob_ext z2 (T.row _ hC).ns
          refine ⟨a, .ref t, C, qs.any fun q => subE x' q.1, rfl, ⟨φ, by rw [upd_ne (ne_of_none g1 ht)]; exact g1, g2⟩, (T.row _ hC).cc, .inr (.inr ⟨t, qs.map (·.2), rfl, upd_same, ?_⟩), ?_⟩
          · rw [List.map_map]; exact T.any hC qs hq
          · refine q (.bl (qs.any fun q => subE x' q.1)) _ (same_new ht _) ?_
            rw [List.any_map]
            exact Rep.bl
      · cases hd
    · cases hd
end
end L2
set_option Elab.async false
set_option linter.all false
set_option maxRecDepth 100000
set_option maxHeartbeats 1000000
namespace L2
open PySem PySem.Spec PyProof.Rows
/-! ### try: .. except .. -/
abbrev Cx.inTry (X : Cx) (pn : List (Addr × Obj)) (E : Value → Shared → Prop) : Cx := { X with pn := pn, xe := E }
abbrev Cx.caught (X : Cx) (v : Option Value) : Cx := { X with A := X.A.mark v, calm := false, xe := fun _ _ => False }
section
variable {X : Cx} {pins pins' : List (Addr × Obj)} {σ : St} {H : Hp} {s : Shared} {E : Value → Shared → Prop} {v : Option Value} {a : Addr}
theorem Cx.Ok.inTry {pn : List (Addr × Obj)} (ok : X.Ok) : (X.inTry pn E).Ok := ⟨ok.mod, ok.kind, ok.glob, ok.blt, ok.above, ok.inj, ok.has, ok.cab, ok.hd, ok.frames, ok.stk, ok.exf, ok.bs, ok.bsz, ok.noex, ok.exfs, ok.funs, ok.frf⟩
theorem Cx.Ok.outTry {pn : List (Addr × Obj)} (ok : (X.inTry pn E).Ok) : X.Ok := ⟨ok.mod, ok.kind, ok.glob, ok.blt, ok.above, ok.inj, ok.has, ok.cab, ok.hd, ok.frames, ok.stk, ok.exf, ok.bs, ok.bsz, ok.noex, ok.exfs, ok.funs, ok.frf⟩
theorem Inv.inTry (I : Inv X pins σ H s) : Inv (X.inTry (X.pn ++ pins) E) [] σ H s :=
  ⟨I.ok.inTry, I.os, I.bare, I.base, I.loc, I.cell, I.free, I.freeC, fun p hp => I.pin p (by rw [List.append_nil] at hp; exact hp), I.hok, I.len⟩
theorem Inv.outTry (I : Inv (X.inTry (X.pn ++ pins) E) pins' σ H s) : Inv X pins σ H s :=
  ⟨I.ok.outTry, I.os, I.bare, I.base, I.loc, I.cell, I.free, I.freeC, fun p hp => I.pin p (List.mem_append_left _ hp), I.hok, I.len⟩
theorem Inv.caught (I : Inv X pins σ H s) : Inv (X.caught v) pins σ H s :=
  ⟨⟨I.ok.mod, I.ok.kind, I.ok.glob, I.ok.blt, I.ok.above, I.ok.inj, I.ok.has, I.ok.cab, (fun q => nomatch q), I.ok.frames, I.ok.stk, I.ok.exf, I.ok.bs, I.ok.bsz, I.ok.noex, I.ok.exfs, I.ok.funs, I.ok.frf⟩, I.os, I.bare, I.base, I.loc, I.cell, I.free, I.freeC, I.pin, I.hok, I.len⟩
theorem Inv.uncaught (ok : X.Ok) (I : Inv (X.caught v) pins σ H s) : Inv X pins σ H s := ⟨ok, I.os, I.bare, I.base, I.loc, I.cell, I.free, I.freeC, I.pin, I.hok, I.len⟩
theorem SP.outTry {D : Ends} {f : Flow} (h : SP (X.inTry (X.pn ++ pins) E) pins' D f s) : SP X pins D f s := by
  cases f with
  | next => obtain ⟨σ', H', I, q⟩ := h; exact ⟨σ', H', I.outTry, q⟩
  | brk => obtain ⟨σ', H', I, q⟩ := h; exact ⟨σ', H', I.outTry, q⟩
  | cont => obtain ⟨σ', H', I, q⟩ := h; exact ⟨σ', H', I.outTry, q⟩
  | ret u => obtain ⟨v, σ', H', I, r, q⟩ := h; exact ⟨v, σ', H', I.outTry, r, q⟩
theorem XS.outTry {o0 : Obj} {ea : Addr} (x : XS (X.inTry (X.pn ++ pins) E) pins' σ H o0 ea s) : XS X pins σ H o0 ea s := by
  obtain ⟨g, F, I, aw, fl, up, gn⟩ := x
  exact ⟨g, F, I.outTry, ⟨aw.1, fun b hb nb => ⟨(aw.2 b hb nb).1, (aw.2 b hb nb).2.1, (aw.2 b hb nb).2.2.1, (aw.2 b hb nb).2.2.2.1, fun p hp => (aw.2 b hb nb).2.2.2.2 p (List.mem_append_left _ hp)⟩⟩, fl, up, gn⟩
theorem ObjOk.there {P : Program} {w : World} {h : Heap} {o : HO} (x : ObjOk P w H h a o) : ∃ u, h.get? a = some u := by
  cases o with
  | lst xs => obtain ⟨_, _, _, _, e⟩ := x; exact ⟨_, e⟩
  | tup xs => obtain ⟨_, _, _, ⟨_, e, _⟩, _⟩ := x; exact ⟨_, e⟩
  | dK kvs => obtain ⟨_, _, _, _, o, _, _, e, _⟩ := x; exact ⟨_, e⟩
  | dT kvs => obtain ⟨_, _, _, _, o, _, _, e, _⟩ := x; exact ⟨_, e⟩
  | set S n => obtain ⟨o, _, _, _, e, _⟩ := x; exact ⟨_, e⟩
  | tst xs => obtain ⟨o, _, _, _, e, _⟩ := x; exact ⟨_, e⟩
  | ins C dx fs => obtain ⟨_, _, _, e, _⟩ := x; exact ⟨_, e⟩
  | own y => obtain ⟨_, e⟩ := x; exact ⟨_, e⟩
  | xd fs => obtain ⟨_, ⟨_, _, _, e, _⟩, _⟩ := x; exact ⟨_, e⟩
  | rng lo hi => obtain ⟨_, _, _, e⟩ := x; exact ⟨_, e⟩
  | frz ob u => obtain ⟨e, _⟩ := x; exact ⟨_, e⟩
  | tbl ps => exact ⟨_, show h.get? a = some _ from x⟩
  | met f y => exact ⟨_, show h.get? a = some _ from x⟩
  | ext φ => obtain ⟨_, ⟨_, e⟩, _⟩ := x; exact ⟨_, e⟩
theorem Inv.newer {g : Heap} (Ig : Inv X pins σ H { s with heap := g }) (gn : g.get? a = none) : H a = none := by
  cases q : H a with
  | none => rfl
  | some u =>
    obtain ⟨o, e⟩ := (Ig.hok a u q).there
    rw [show g.get? a = some o from e] at gn; cases gn
/-- a thing that is newer than the body's state is tracked -/
theorem Inv.track {g : Heap} {o : Obj} {φ : Heap → Prop} (I : Inv X pins σ H s) (Ig : Inv X pins σ H { s with heap := g }) (gn : g.get? a = none) (ho : s.heap.get? a = some o) (hφ : φ s.heap)
    (hst : ∀ h1 h2 : Heap, φ h1 → (∀ o, h1.get? a = some o → h2.get? a = some o) → φ h2) : Inv X pins σ (upd H a (.ext φ)) s := by
  have Ha := Ig.newer gn
  have ne : ∀ {b o}, g.get? b = some o → b ≠ a := fun {b o} e z => by rw [z, gn] at e; cases e
  have nt : ∀ {b u}, H b = some u → b ≠ a := fun {b u} e z => by rw [z, Ha] at e; cases e
  have hL : X.env.locals ≠ a := by
    obtain ⟨m, ⟨o', es, ep, e, _⟩, _⟩ := Ig.loc
    exact ne e
  refine ⟨I.ok, I.os, I.bare, ⟨I.base.keep, I.base.slot, fun b ob e n hx => ?_, I.base.there, fun b xs e => ?_, fun b ob u e => ?_, fun b ps e => ?_⟩, I.loc, I.cell, ?_, fun x c e => ?_, fun p hp => ?_, fun b u e => ?_, I.len⟩
  · obtain ⟨o', e'⟩ := Ig.base.there b ob e hx
    rw [upd_ne (ne e')]; exact I.base.free b ob e n hx
  · have := I.base.tups b xs e
    rw [upd_ne (nt this)]; exact this
  · have := I.base.frzs b ob u e
    rw [upd_ne (nt this)]; exact this
  · obtain ⟨m, e'⟩ := I.base.tbls b ps e
    exact ⟨m, by rw [upd_ne (nt e')]; exact e'⟩
  · rw [upd_ne hL]; exact I.free
  · obtain ⟨w, o', e', _⟩ := Ig.cell x c e
    rw [upd_ne (ne e')]; exact I.freeC x c e
  · obtain ⟨h1, h2, h3⟩ := I.pin p hp
    exact ⟨h1, by rw [upd_ne (ne (Ig.pin p hp).1)]; exact h2, h3⟩
  · by_cases z : b = a
    · subst z
      rw [upd_same] at e
      cases e
      exact ⟨hφ, ⟨o, ho⟩, hst⟩
    · rw [upd_ne z] at e
      exact (I.hok b u e).stay (fun _ _ _ q => q) (fun c q => by rw [upd_ne (nt q)]; exact q) fun c xs q => by rw [upd_ne (nt q)]; exact q
/-- the locals may become whatever they like, where no name is read any more -/
theorem Inv.blind {h' : Heap} {t' : Nat} {m' : Str → Option Value} (I : Inv X pins σ H s) (hn : h'.Ns X.env.locals m') (sb : Heap.SameBut X.env.locals s.heap h') : Inv X pins (List.replicate X.N.length none) H { s with heap := h', toks := t' } := by
  have kp : ∀ b o, b ≠ X.env.locals → s.heap.get? b = some o → h'.get? b = some o := fun b o n e => (sb.2 b n).trans e
  have n0 : ∀ {b o}, X.s₀.heap.get? b = some o → b ≠ X.env.locals := fun {b o} e z => by
    have := Heap.lt_size e
    rw [z] at this
    exact absurd this (Nat.not_lt.mpr I.ok.above)
  refine ⟨I.ok, I.os, I.bare, ⟨fun b o e n hf hx => kp b o (n0 e) (I.base.keep b o e n hf hx), fun b o e n hf hx => ?_, I.base.free, fun b o e hx => ?_, I.base.tups, I.base.frzs, I.base.tbls⟩, ⟨m', hn, fun i x v _ e => ?_⟩, fun x c e => ?_, I.free, I.freeC, fun p hp => ?_, fun b u e => ?_, by simp⟩
  · obtain ⟨sl, q⟩ := I.base.slot b o e n hf hx
    exact ⟨sl, kp b _ (n0 e) q⟩
  · obtain ⟨o', q⟩ := I.base.there b o e hx
    exact ⟨o', kp b _ (n0 e) q⟩
  · rw [List.getElem?_replicate] at e
    split at e <;> cases e
  · obtain ⟨v, o, q, r⟩ := I.cell x c e
    exact ⟨v, o, kp c o (I.cne x c e) q, r⟩
  · obtain ⟨h1, h2, h3, h4⟩ := I.pin p hp
    exact ⟨kp _ _ h3 h1, h2, h3, h4⟩
  · refine (I.hok b u e).stay (fun c o hc q => kp c o (fun z => ?_) q) (fun _ q => q) fun _ _ q => q
    have := I.free
    rw [← z] at this
    rcases hc with rfl | hc
    · rw [e] at this; cases this
    · rw [hc] at this; cases this
end
section
variable {K : PySem.W.Frag} {c : Ct} {hid : Hid} {ρ : Rho} {σ : St} {H : Hp} {a : Addr} {x : Str} {n : Int}
/-- a slot holds the caught exception -/
theorem SR.setEx (h : SR K c hid ρ σ H) (ho : ObOk K c hid H a (.exc x n)) (i : Nat) : SR K c hid (ρ.set i (.ob (.exc x n))) (σ.set i (some (.ref a))) H := by
  have nj : ∀ m, Ow (ρ.set i (.ob (.exc x n)))[m]? → m ≠ i := fun m o e => by
    subst e
    by_cases lt : m < ρ.length
    · rw [List.getElem?_set_self lt] at o; exact o
    · rw [List.getElem?_eq_none (by simpa using lt)] at o; exact o
  refine ⟨h.tr, h.ht, h.h0, h.kp, h.t0, h.c0, h.m0, by simp [h.len], fun j s q => ?_, fun j l z ne o1 o2 q1 q2 => ?_⟩
  · by_cases e : j = i
    · subst e
      have lt : j < ρ.length := by
        have := (List.getElem?_eq_some_iff.mp q).1
        simpa using this
      rw [List.getElem?_set_self lt] at q
      cases q
      exact ⟨a, List.getElem?_set_self (by rw [h.len]; exact lt), ho⟩
    · rw [List.getElem?_set_ne (Ne.symm e)] at q
      have w := h.sl j s q
      have es : (σ.set i (some (V.ref a)))[j]? = σ[j]? := List.getElem?_set_ne (Ne.symm e)
      cases s with
      | no => trivial
      | v d => obtain ⟨x, h1, h2⟩ := w; exact ⟨x, es.trans h1, h2⟩
      | own ds => obtain ⟨a, xs, h1, h2⟩ := w; exact ⟨a, xs, es.trans h1, h2⟩
      | arg ds => obtain ⟨a, xs, h1, h2⟩ := w; exact ⟨a, xs, es.trans h1, h2⟩
      | ob b => obtain ⟨a, h1, h2⟩ := w; exact ⟨a, es.trans h1, h2⟩
  · have e1 := nj j o1
    have e2 := nj l o2
    rw [List.getElem?_set_ne (Ne.symm e1)] at o1 q1
    rw [List.getElem?_set_ne (Ne.symm e2)] at o2 q2
    exact h.ap j l z ne o1 o2 q1 q2
end
theorem InFl.keeps {B : Heap} {l : List Env} {e : Addr} {o0 : Obj} {h h' : Heap} (x : InFl B l e o0 h) (k : ∀ b o, h.get? b = some o → h'.get? b = some o) : InFl B l e o0 h' := by
  refine ⟨fun b o q => k b o (x.st b o q), x.ne, x.ff.of_keeps fun b o q _ => ⟨o, k b o q, rfl⟩, ?_⟩
  rcases x.tr with ⟨vs, T, oT, ts, h1, h2, h3, h4, h5, h6⟩ | ⟨vs, h1, h2⟩
  · exact .inl ⟨vs, T, oT, ts, k _ _ h1, h2, h3, h4, k _ _ h5, h6⟩
  · exact .inr ⟨vs, k _ _ h1, h2⟩
theorem Trc.keeps {B : Heap} {e : Addr} {o0 : Obj} {h h' : Heap} (x : Trc h B e o0) (k : ∀ b o, h.get? b = some o → h'.get? b = some o) : Trc h' B e o0 := by
  obtain ⟨vs, T, oT, ts, h1, h2, h3, h4, h5, h6⟩ := x
  exact ⟨vs, T, oT, ts, k _ _ h1, h2, h3, h4, k _ _ h5, h6⟩
/-! ### does the clause match -/
section
variable {K : PySem.W.Frag} {M : Model} {A : Around} {E : Value → Shared → Prop} {s : Shared} {ea C D : Addr} {o : Obj} {b : Bool}
theorem ExcC.isExc (X : ExcC K D) {h : Heap} (KI : K.In h) : PySem.W.Looks M h (isExcClass (.ref D)) true := by
  have L : PySem.W.Looks M h (isType (.ref D)) true := by
    obtain ⟨cd, hc⟩ := X.cls
    unfold PySem.W.clsIn at hc
    split at hc
    · rename_i c' d' cd' sl' ho
      intro A' Q' E' s' k q
      unfold isType loadHead
      exact wpAny_bind (wpAny_loadPart (k _ _ (KI _ _ ho)) (wpAny_pure q))
    · cases hc
  unfold isExcClass
  refine L.andThen ?_
  exact PySem.W.looks_mroIn KI X.mb
theorem exm_one {Q : Bool → Shared → Prop} (KI : K.In s.heap) (I : PySem.W.InstAt s.heap ea o C none) (X : ExcC K D) (ty : PySem.W.typeIn K (.ref D) = some (.type "type")) (hCD : PySem.W.mroIn K C (.ref D) = some b) (q : Q b s) : wpAny M A (excMatches (.ref ea) (.ref D)) Q E s := by
  obtain ⟨hh, g, d, t, os⟩ := s
  have L0 : PySem.W.Looks M hh (isInstance (.ref D) (.type "tuple")) false := (PySem.W.looks_typeIn (M := M) KI ty).andThen (PySem.W.Looks.of_pure tc_notTuple)
  have L1 := X.isExc (M := M) KI
  have L2 := I.type (M := M)
  have L3 := PySem.W.looks_mroIn (M := M) KI hCD
  unfold excMatches
  refine wpAny_bind (L0.at ?_)
  simp only [Bool.false_eq_true, if_false]
  refine wpAny_bind (wpAny_pure ?_)
  simp only [List.forIn_cons, List.forIn_nil]
  refine wpAny_bind (wpAny_bind (wpAny_bind (L1.at ?_)))
  simp only [Bool.not_true, Bool.false_eq_true, if_false]
  refine wpAny_pure (wpAny_pure (wpAny_bind (L2.at ?_)))
  refine wpAny_bind (wpAny_bind (wpAny_bind (L3.at ?_)))
  cases b with
  | true => simp only [if_true]; exact wpAny_pure (wpAny_pure (wpAny_pure q))
  | false => simp only [Bool.false_eq_true, if_false]; exact wpAny_pure (wpAny_pure (wpAny_pure q))
end
end L2
set_option Elab.async false
set_option linter.all false
set_option maxRecDepth 100000
set_option maxHeartbeats 1000000
namespace L2
open PySem PySem.Spec PyProof.Rows
section
variable {K : PySem.W.Frag} {M : Model} {A : Around} {E : Value → Shared → Prop} {s : Shared} {ea C : Addr} {o : Obj}
end
end L2
set_option Elab.async false
set_option linter.all false
set_option maxRecDepth 100000
set_option maxHeartbeats 1000000
namespace L2
open PySem PySem.Spec PyProof.Rows
/-- what a clause's test gives of an exception of a class that is named -/
def Cat (X : Cx) (te : Expr) (ns ys : List Str) : Prop := ∀ (v : Option Value) (pins : List (Addr × Obj)) (s : Shared) (σ : St) (H : Hp) (ea : Addr) (x : Str) (C : Addr) (o : Obj) (Q : Bool → Shared → Prop), Inv (X.caught v) pins σ H s → ns.contains x = true →
  PySem.W.nsIn X.K mainGlobals x = some (some (.ref C)) → PySem.W.InstAt s.heap ea o C none → (∀ s1 H1, Inv (X.caught v) pins σ H1 s1 → Same H H1 → (∀ b o, s.heap.get? b = some o → s1.heap.get? b = some o) → s1.os = s.os → s1.gens = s.gens → Q (ys.any fun y => subE x y) s1) →
  wpAny (model X.prog X.w) (X.A.mark v) (eval te X.env) (fun c s₁ => wpAny (model X.prog X.w) (X.A.mark v) (excMatches (.ref ea) c) Q (fun _ _ => False) s₁) (fun _ _ => False) s
section
variable {X : Cx} {y : Str} {p2 : Pos} {CR D : Addr} {tbl : List (Str × Addr)} {ns : List Str} (T : ExTab X.K X.mg CR tbl)
include T
theorem cat_one (hT : tbl.map (·.1) = ns) (hD : (y, D) ∈ tbl) (hg : Gl X y := by rfl) (hd : (y == ("__debug__" : Str)) = false := by decide) : Cat X (.Name y p2) ns [y] := by
  intro v pins s σ H ea x C o Q I hx hC io q
  obtain ⟨C', hC'⟩ := tab_has hT hx
  have : C' = C := by
    have := (T.row _ hC').ns
    rw [hC] at this
    injection this with this; injection this with this
    exact (Value.ref.inj this).symm
  subst this
  refine ld_glob (X := X.caught v) I hg (T.row _ hD).mg ?_ hd
  refine exm_one I.kIn io (T.row _ hD).cc (T.row _ hD).ty (T.mro hC' hD) ?_
  have := q s H I (Same.refl _) (fun _ _ e => e) rfl rfl
  simpa using this
end
theorem DA.nox {X : Cx} {c : Ct} {es : List Expr} {f : FA} (h : DA X.nox c es f) : DA X c es f := fun hid ρ p pins s σ H Q I hw =>
  wpAny_mono (h hid ρ p pins s σ H Q (I.wish _) hw) (fun _ _ ⟨v, H', I', r, q⟩ => ⟨v, H', I'.unwish, r, q⟩) fun _ _ z => False.elim z
/-- a number that stands at the module's top -/
theorem dp_gl {X : Cx} {c : Ct} {x : Str} {n : Int} {pos : Pos} (h : ∃ tk, X.mg x = some (.int n tk)) (hg : Gl X x := by rfl) (hd : (x == ("__debug__" : Str)) = false := by decide) : DP X c .s (.Name x pos) (cst (.int n)) := fun hid ρ => by
  obtain ⟨tk, hm⟩ := h
  exact PE.imp (pe_glob (v := .int n) hg hm ⟨tk, rfl⟩ hd) fun σ H Q ⟨sr, d, hd, q⟩ => by cases hd; exact q _ H (Same.refl _) .int
theorem mem_nil {α : Type} {l : List α} : ∀ q ∈ ([] : List α), q ∈ l := fun _ h => nomatch h
theorem mem_cons {α : Type} {l r : List α} {a : α} (h : a ∈ l) (hr : ∀ q ∈ r, q ∈ l) : ∀ q ∈ a :: r, q ∈ l := fun q hq => (List.mem_cons.mp hq).elim (fun e => by rw [e]; exact h) (hr q)
theorem mem_nil2 {α : Type} {P : α → Prop} : ∀ q ∈ ([] : List α), P q := fun _ h => nomatch h
theorem mem_cons2 {α : Type} {P : α → Prop} {r : List α} {a : α} (h : P a) (hr : ∀ q ∈ r, P q) : ∀ q ∈ a :: r, P q := fun q hq => (List.mem_cons.mp hq).elim (fun e => by rw [e]; exact h) (hr q)
abbrev hFn (X : Cx) : Prop := X.stack = X.env :: X.outer ∧ X.env.frame = some X.env.locals
def tryA (i : Nat) (ns ys : List Str) (t : FX) (u : FS) : FS := fun ρ => match t ρ with
  | .ok o => o
  | .error z => if ns.contains z.1.x = true ∧ (ys.any fun y => subE z.1.x y) = true then (match u (z.2.set i (.ob (.exc z.1.x z.1.n))) with
      | .rt d ρ2 => .rt d ρ2
      | _ => .no) else .no
section
variable {X : Cx} {c : Ct} {k : Kd} {body suite : List Stmt} {b0 : Stmt} {te : Expr} {n : Str} {hpos pos : Pos} {t : FX} {u : FS} {ns ys : List Str} {i : Nat}
/-- try: .. except T as e: .., which ends by a return -/
theorem ds_tryAs (i : Nat) (hN : X.N.Nodup) (hf : hFn X) (hb : ∀ pn E, DSsX (X.inTry pn E) c k body t) (hc : Cat X te ns ys) (hs : ∀ v, DSs (X.caught v) c k (b0 :: suite) u) (hi : X.N[i]? = some n := by rfl) (hl : X.env.scope.names.lookup n = some .local := by rfl) :
    DS X c k (.Try body [.ExceptHandler (some te) (some n) (b0 :: suite) hpos] [] [] pos) (tryA i ns ys t u) := fun ρ pins s σ H D I ⟨hid, sr, q⟩ => by
  unfold tryA at q
  refine wpAny_Try_except (wpAny_mono (hb (X.pn ++ pins) (fun e s₁ => wpAny (model X.prog X.w) X.A (noteFrame e X.env) (fun _ s₂ => wpAny (model X.prog X.w) X.A (setFlight e none) (fun _ s₃ =>
    wpAny (model X.prog X.w) X.A (handleBy e X.env [.ExceptHandler (some te) (some n) (b0 :: suite) hpos]) (SP X pins D) X.xe s₃) X.xe s₂) X.xe s₁) ρ [] s σ H D I.inTry ⟨hid, sr, ?_⟩) (fun f s₁ h₁ => ?_) fun e s₁ h => h)
  · cases e : t ρ with
    | ok o => rw [e] at q; exact q
    | error zz =>
      obtain ⟨z, ρ'⟩ := zz
      rw [e] at q
      dsimp only at q
      intro σ' H' hid' C sr' sm hn pins' ea o0 s' hcls hdict xs
      obtain ⟨g, F, Ig, aw, fl, up, gn⟩ := xs.outTry
      split at q
      · rename_i hz
        obtain ⟨stk, frm⟩ := hf
        have hfr : X.A.frames = some (X.env :: X.outer) := by rw [← stk]; exact I.ok.frames
        have fl0 : InFl (PySem.W.hideAll g F) (X.env :: X.outer) ea o0 s'.heap := by rw [← stk]; exact fl
        refine fl_note hfr frm fl0 fun h1 fl1 tr1 up1 => ?_
        have I1 : Inv X pins σ' H' { s' with heap := h1 } := XS.inv (s' := { s' with heap := h1 }) ⟨g, F, Ig, aw, by rw [stk]; exact fl1, up.trans up1, gn⟩
        have inst : ∀ {h : Heap}, Trc h (PySem.W.hideAll g F) ea o0 → ∃ o, PySem.W.InstAt h ea o C none := fun {h} tr => by
          obtain ⟨vs, _, _, _, he, _⟩ := tr
          exact ⟨_, he, hcls, rfl, by show (match o0.dict, none with | some dx, some o => h.get? dx = some o | none, none => True | _, _ => False); rw [hdict]; trivial⟩
        obtain ⟨o1, io⟩ := inst tr1
        refine wpAny_handleBy_cons (codeAny_handlers_test ?_) (by intro q; cases q)
        refine wpAny_mono (hc (some (.ref ea)) pins _ σ' H' ea z.x C o1 _ I1.caught hz.1 hn io fun s2 H2 I2 sm2 kp2 os2 gs2 => ?_) (fun cl s₂ h₂ => wpAny_mono h₂ (fun _ _ z => z) fun _ _ z => z.elim) fun _ _ z => z.elim
        rw [hz.2]
        simp only [if_true]
        refine codeAny_handlers_suite_as ?_
        have I2' : Inv X pins σ' H2 s2 := I2.uncaught I.ok
        have fl2 := fl1.keeps kp2
        have tr2 := tr1.keeps kp2
        refine fl_land fl2 tr2 fun h3 fl3 tr3 up3 => ?_
        have gk : ∀ b o, g.get? b = some o → b ∉ F → s2.heap.get? b = some o := fun b o e nF => fl2.st b o (PySem.W.hideAll_get _ e nF)
        have I3 : Inv X pins σ' H' { s2 with heap := h3 } := XS.inv (s' := { s2 with heap := h3 }) ⟨g, F, by
          have := Ig
          exact ⟨this.ok, by show s2.os = _; rw [os2]; exact this.os, by show AllBare s2.gens; rw [gs2]; exact this.bare, this.base, this.loc, this.cell, this.free, this.freeC, this.pin, this.hok, this.len⟩, aw, by rw [stk]; exact fl3, (up.trans up1).trans ((Heap.UpToSlots.of_keeps kp2).trans up3), gn⟩
        obtain ⟨o3, io3⟩ := inst tr3
        have Ig' : Inv X pins σ' H' { s2 with heap := g } := ⟨Ig.ok, by show s2.os = _; rw [os2]; exact Ig.os, by show AllBare s2.gens; rw [gs2]; exact Ig.bare, Ig.base, Ig.loc, Ig.cell, Ig.free, Ig.freeC, Ig.pin, Ig.hok, Ig.len⟩
        have exat : ∀ {h : Heap}, (∃ o, PySem.W.InstAt h ea o C none) → ExcAt X.K z.x z.n ea h := fun {h} ⟨o, io⟩ => ⟨C, o, hn, io.at_, io.cls, by have := io.dict; cases hd : o.dict with | none => rfl | some dx => rw [hd] at this; exact this.elim, io.no⟩
        have I4 : Inv X pins σ' (upd H' ea (.ext (ExcAt X.K z.x z.n ea))) { s2 with heap := h3 } := I3.track (g := g) Ig' gn io3.at_ (exat ⟨o3, io3⟩) fun k1 k2 ⟨C', o', w1, w2, w3⟩ kk => ⟨C', o', w1, kk _ w2, w3⟩
        have Hn : H' ea = none := Ig.newer gn
        have sr4 : SR X.K c hid' ρ' σ' (upd H' ea (.ext (ExcAt X.K z.x z.n ea))) := sr'.ext (same_new Hn _)
        have ob4 : ObOk X.K c hid' (upd H' ea (.ext (ExcAt X.K z.x z.n ea))) ea (.exc z.x z.n) := ⟨_, vw_some.mpr ⟨sr'.fresh Hn, upd_same⟩, fun h q => q⟩
        refine store_ok (v := .ref ea) I4 hN hi (.inl hl) rfl (fun s5 I5 => ?_) (.inr hl)
        have sr5 := sr4.setEx ob4 i
        cases eu : u (ρ'.set i (.ob (.exc z.x z.n))) with
        | rt d ρ2 =>
          rw [eu] at q
          refine wpAny_mono (hs (some (.ref ea)) (ρ'.set i (.ob (.exc z.x z.n))) pins s5 _ _ { nx := fun _ _ => False, rt := D.rt } I5.caught ⟨hid', sr5, by rw [eu]; exact q⟩) (fun f s6 h6 => ?_) fun _ _ z => z.elim
          cases f with
          | next => obtain ⟨_, _, _, z⟩ := h6; exact z.elim
          | brk => obtain ⟨_, _, _, z⟩ := h6; exact z.elim
          | cont => obtain ⟨_, _, _, z⟩ := h6; exact z.elim
          | ret u6 =>
            obtain ⟨v6, σ6, H6, I6, r6, q6⟩ := h6
            have J6 := I6.uncaught I.ok
            obtain ⟨m6, n6, _⟩ := J6.loc
            exact wpAny_nameGoes hl n6 (by rw [J6.ok.kind]; rfl) fun h7 m7 n7 sb7 => ⟨v6, _, H6, J6.blind n7 sb7, r6, q6⟩
        | nx ρ2 => rw [eu] at q; exact q.elim
        | bk ρ2 => rw [eu] at q; exact q.elim
        | ct ρ2 => rw [eu] at q; exact q.elim
        | no => rw [eu] at q; exact q.elim
      · exact q.elim
  · cases f with
    | next => exact wpAny_execs_nil (SP.outTry h₁)
    | brk => exact SP.outTry h₁
    | cont => exact SP.outTry h₁
    | ret u => exact SP.outTry h₁
theorem SP.uncaught {pins : List (Addr × Obj)} {v : Option Value} {D : Ends} {f : Flow} {s : Shared} (ok : X.Ok) (h : SP (X.caught v) pins D f s) : SP X pins D f s := by
  cases f with
  | next => obtain ⟨σ', H', I, q⟩ := h; exact ⟨σ', H', I.uncaught ok, q⟩
  | brk => obtain ⟨σ', H', I, q⟩ := h; exact ⟨σ', H', I.uncaught ok, q⟩
  | cont => obtain ⟨σ', H', I, q⟩ := h; exact ⟨σ', H', I.uncaught ok, q⟩
  | ret u => obtain ⟨v, σ', H', I, r, q⟩ := h; exact ⟨v, σ', H', I.uncaught ok, r, q⟩
end
section
variable {X : Cx} {y1 y2 : Str} {x1 : Nat} {p1 p2 p3 : Pos} {CR D1 D2 : Addr} {tbl : List (Str × Addr)} {ns : List Str} (T : ExTab X.K X.mg CR tbl)
include T
end
end L2
set_option Elab.async false
set_option linter.all false
set_option maxRecDepth 100000
set_option maxHeartbeats 1000000
namespace L2
open PySem PySem.Spec PyProof.Rows
section
variable {X : Cx} {c : Ct} {e : Expr} {es : List Expr} {k : Kd} {pos p : Pos} {x : Str} {ps : List Str} {j n : Nat}
def seqA (f : FE) : FA := fun ρ => (f ρ).bind fun d => match d with
  | .lst ds => some ds
  | .tup ds => some ds
  | _ => none
/-- a list or a tuple that is walked -/
theorem dip_seq {tg iter : Expr} {f : FE} (h : DP X c .s iter f) : DIp X c tg iter (seqA f) := fun hid ρ pins s σ H R I ⟨sr, ds, e1, q⟩ => by
  unfold seqA at e1
  cases e2 : f ρ with
  | none => rw [e2] at e1; cases e1
  | some d =>
    rw [e2, Option.bind_some] at e1
    cases d with
    | lst xs => cases e1; exact dip_list h hid ρ pins s σ H R I ⟨sr, ds, by unfold lstA; rw [e2]; rfl, q⟩
    | tup xs => cases e1; exact dip_tup h hid ρ pins s σ H R I ⟨sr, ds, by unfold tupA; rw [e2]; rfl, q⟩
    | _ => cases e1
end
theorem exc_ne {a b : Addr} {l : List Addr} (h : (a :: l).Nodup) (hb : b ∈ l) : ¬ b = a := fun e => (List.nodup_cons.mp h).1 (e ▸ hb)
end L2
set_option Elab.async false
set_option linter.all false
namespace L2
open PySem PySem.Spec PyProof.Rows
theorem se_tup {es rest : List Expr} {x1} {pos : Pos} {env : Env} : starEach (.Tuple es x1 pos :: rest) env = (false, eval (.Tuple es x1 pos) env) :: starEach rest env := by rfl
@[elab_as_elim] theorem ar0 {motive : List Value → Prop} (us : List Value) (hl : us.length = 0) (h : motive []) : motive us := by
  cases us with
  | nil => exact h
  | cons a r => exact absurd hl (Nat.succ_ne_zero _)
@[elab_as_elim] theorem ar1 {motive : List Value → Prop} (us : List Value) (hl : us.length = 1) (h : ∀ a0, motive [a0]) : motive us := by
  cases us with
  | nil => exact absurd hl (by decide)
  | cons a0 r => exact ar0 (motive := fun r => motive (a0 :: r)) r (Nat.succ.inj hl) (h a0)
@[elab_as_elim] theorem ar2 {motive : List Value → Prop} (us : List Value) (hl : us.length = 2) (h : ∀ a0 a1, motive [a0, a1]) : motive us := by
  cases us with
  | nil => exact absurd hl (by decide)
  | cons a0 r => exact ar1 (motive := fun r => motive (a0 :: r)) r (Nat.succ.inj hl) (h a0)
@[elab_as_elim] theorem ar3 {motive : List Value → Prop} (us : List Value) (hl : us.length = 3) (h : ∀ a0 a1 a2, motive [a0, a1, a2]) : motive us := by
  cases us with
  | nil => exact absurd hl (by decide)
  | cons a0 r => exact ar2 (motive := fun r => motive (a0 :: r)) r (Nat.succ.inj hl) (h a0)
@[elab_as_elim] theorem ar4 {motive : List Value → Prop} (us : List Value) (hl : us.length = 4) (h : ∀ a0 a1 a2 a3, motive [a0, a1, a2, a3]) : motive us := by
  cases us with
  | nil => exact absurd hl (by decide)
  | cons a0 r => exact ar3 (motive := fun r => motive (a0 :: r)) r (Nat.succ.inj hl) (h a0)
@[elab_as_elim] theorem ar5 {motive : List Value → Prop} (us : List Value) (hl : us.length = 5) (h : ∀ a0 a1 a2 a3 a4, motive [a0, a1, a2, a3, a4]) : motive us := by
  cases us with
  | nil => exact absurd hl (by decide)
  | cons a0 r => exact ar4 (motive := fun r => motive (a0 :: r)) r (Nat.succ.inj hl) (h a0)
@[elab_as_elim] theorem ar6 {motive : List Value → Prop} (us : List Value) (hl : us.length = 6) (h : ∀ a0 a1 a2 a3 a4 a5, motive [a0, a1, a2, a3, a4, a5]) : motive us := by
  cases us with
  | nil => exact absurd hl (by decide)
  | cons a0 r => exact ar5 (motive := fun r => motive (a0 :: r)) r (Nat.succ.inj hl) (h a0)
@[elab_as_elim] theorem ar7 {motive : List Value → Prop} (us : List Value) (hl : us.length = 7) (h : ∀ a0 a1 a2 a3 a4 a5 a6, motive [a0, a1, a2, a3, a4, a5, a6]) : motive us := by
  cases us with
  | nil => exact absurd hl (by decide)
  | cons a0 r => exact ar6 (motive := fun r => motive (a0 :: r)) r (Nat.succ.inj hl) (h a0)
end L2
set_option Elab.async false
set_option linter.all false
set_option maxRecDepth 100000
namespace L2
open PySem PySem.Spec PyProof.Rows
section
variable {X : Cx} {c : Ct} {e o : Expr} {k k2 : Kd} {f g : FE} {pos p p2 apos : Pos}
end
end L2
set_option Elab.async false
set_option linter.all false
set_option maxRecDepth 100000
namespace L2
open PySem PySem.Spec PyProof.Rows
/-! the same judgements, closed: for displays within displays -/
@[irreducible] def QP (X : Cx) (c : Ct) (e : Expr) (f : FE) : Prop := DP X c .s e f
@[irreducible] def QA (X : Cx) (c : Ct) (es : List Expr) (f : FA) : Prop := DA X c es f
@[irreducible] def QS (X : Cx) (c : Ct) (k : Kd) (st : Stmt) (t : FS) : Prop := DS X c k st t
@[irreducible] def QSs (X : Cx) (c : Ct) (k : Kd) (st : List Stmt) (t : FS) : Prop := DSs X c k st t
section
variable {X : Cx} {c : Ct} {k : Kd} {e a b : Expr} {es : List Expr} {f g : FE} {fs : FA} {pos pos' : Pos} {st : Stmt} {rest : List Stmt} {t u : FS} {x : Str}
theorem QP.of (h : DP X c .s e f) : QP X c e f := by unfold QP; exact h
theorem QP.dp (h : QP X c e f) : DP X c .s e f := by unfold QP at h; exact h
theorem QA.da (h : QA X c es fs) : DA X c es fs := by unfold QA at h; exact h
theorem QS.of (h : DS X c k st t) : QS X c k st t := by unfold QS; exact h
theorem QS.ds (h : QS X c k st t) : DS X c k st t := by unfold QS at h; exact h
theorem QSs.to (h : QSs X c k rest t) : DSs X c k rest t := by unfold QSs at h; exact h
theorem qa_nil : QA X c [] nilA := by unfold QA; exact da_nil
theorem qa_cons (h : QP X c e f) (hr : QA X c es fs) (hs : starEach (e :: es) X.env = (false, eval e X.env) :: starEach es X.env := by rfl) : QA X c (e :: es) (consA f fs) := by unfold QA; exact da_cons h.dp hr.da hs
theorem qp_tup {x1} (h : QA X c es fs) : QP X c (.Tuple es x1 pos) (tupF fs) := .of (dp_tup h.da)
theorem qp_lst (h : QA X c es fs) : QP X c (.List es pos) (lstF fs) := .of (DP.toS (dp_lst h.da))
theorem qp_cat (h1 : QP X c a f) (h2 : QP X c b g) : QP X c (.BinOp a .Add b pos) (op2 catLF f g) := .of (DP.toS (dp_catL h1.dp h2.dp))
theorem qs_setF (i : Nat) (hn : X.N.Nodup) (he : QP X c e f) (hi : X.N[i]? = some x := by rfl) (hx : Loc X.env.scope x := by first | exact Or.inl rfl | exact Or.inr rfl) (hs : swapsWith e (some (.Name x pos')) pos.line X.env = pure false := by rfl)
    (hf : X.fn x = true ∨ X.env.scope.names.lookup x = some .local := by first | exact .inl rfl | exact .inr rfl | assumption) : QS X c k (.Assign [.Name x pos'] e pos) (setF i f) := .of (ds_setF i hn he.dp hi hx hs hf)
theorem qss_cons (h1 : QS X c k st t) (h2 : QSs X c k rest u) : QSs X c k (st :: rest) (seqS t u) := by unfold QSs; exact dss_cons h1.ds h2.to
theorem qss_one (h : QS X c k st t) : QSs X c k [st] t := by unfold QSs; exact dss_one h.ds
end
end L2
set_option Elab.async false
set_option linter.all false
set_option maxRecDepth 100000
set_option maxHeartbeats 4000000
namespace L2
open PySem PySem.Spec PyProof.Rows
def top (i : Nat) : Stmt := PySem.Challenge.pw_rookborders_k13_moved.main.body.getD i (.Pass ⟨0, 0, 0, 0⟩)
structure Bt (mg : Str → Option Value) : Prop where
  b_ValueError : mg "ValueError" = none
  b_abs : mg "abs" = none
  b_enumerate : mg "enumerate" = none
  b_int : mg "int" = none
  b_isinstance : mg "isinstance" = none
  b_len : mg "len" = none
  b_list : mg "list" = none
  b_max : mg "max" = none
  b_min : mg "min" = none
  b_range : mg "range" = none
  b_tuple : mg "tuple" = none
  g_MANY_WAYS : ∃ tk, mg "MANY_WAYS" = some (.int 4 tk)
  g_MOST_SIZE : ∃ tk, mg "MOST_SIZE" = some (.int 6 tk)
def exN : List Str := ["RookError", "NoSquare", "NoMove", "TooMany", "NoPart", "NotOne", "NoPaper", "NoText", "NoRow", "NoStep"]
structure Et (K : PySem.W.Frag) (mg : Str → Option Value) (kx0 kx1 kx2 kx3 kx4 kx5 kx6 kx7 kx8 kx9 : Addr) : Prop where
  t : ExTab K mg kx0 [("RookError", kx0), ("NoSquare", kx1), ("NoMove", kx2), ("TooMany", kx3), ("NoPart", kx4), ("NotOne", kx5), ("NoPaper", kx6), ("NoText", kx7), ("NoRow", kx8), ("NoStep", kx9)]
  o_NoMove : PySem.W.excIn K kx2 bmV "ValueError.__new__" = true
  o_TooMany : PySem.W.excIn K kx3 bmV "ValueError.__new__" = true
theorem nd_0 : (["order", "k", "size", "place"] : List Str).Nodup := by decide +kernel
theorem nd_1 : (["order", "k", "size", "number"] : List Str).Nodup := by decide +kernel
theorem nd_2 : (["order", "number"] : List Str).Nodup := by decide +kernel
theorem nd_3 : (["square", "c", "rings", "crosses", "one", "other", "between", "row"] : List Str).Nodup := by decide +kernel
theorem nd_4 : (["square", "c", "way", "rings", "crosses", "row", "free_column", "free_row", "full_column", "full_row", "more_rings", "more_crosses", "mark"] : List Str).Nodup := by decide +kernel
theorem nd_5 : (["marks", "row", "column", "at", "mark"] : List Str).Nodup := by decide +kernel
theorem nd_6 : (["_law_bag_here", "_law_n", "_law_plain", "_law_by", "_law_rings", "_law_crosses", "_law_c", "_law_d", "_law_row"] : List Str).Nodup := by decide +kernel
section
variable {P : Program} {w : World} {K : PySem.W.Frag} {mg : Str → Option Value} {base : Heap} {kx0 kx1 kx2 kx3 kx4 kx5 kx6 kx7 kx8 kx9 : Addr}
abbrev s_order_turned : Stmt := top 12
abbrev s_order_raised : Stmt := top 13
abbrev s_order_tipped : Stmt := top 14
abbrev s_order_exchanged : Stmt := top 15
abbrev s_lies_between : Stmt := top 18
abbrev s_columns_turned : Stmt := top 21
abbrev s_rows_turned : Stmt := top 22
abbrev s_tipped : Stmt := top 23
abbrev s_may_change : Stmt := top 24
abbrev s_columns_changed : Stmt := top 25
abbrev s_rows_changed : Stmt := top 26
abbrev s_is_way : Stmt := top 27
abbrev s_free_and_full : Stmt := top 28
abbrev s_row_parted : Stmt := top 29
abbrev s_corner_put : Stmt := top 30
abbrev s_is_put : Stmt := top 31
abbrev s_way_put : Stmt := top 32
abbrev s_rows_joined : Stmt := top 33
abbrev s_corner_taken : Stmt := top 34
abbrev s_moved : Stmt := top 35
abbrev s_law_cell : Stmt := top 37
abbrev s_law_bag : Stmt := top 38
abbrev s_law_take : Stmt := top 39
abbrev s_law_order : Stmt := top 40
abbrev s_law_square : Stmt := top 41
abbrev s_law_move : Stmt := top 42
abbrev s_law_by_itself : Stmt := top 43
abbrev s_law_class : Stmt := top 44
abbrev s_law_told : Stmt := top 45
abbrev s_law_due : Stmt := top 46
abbrev s_law : Stmt := top 47
theorem sc_order_turned : FnScope ["order", "k", "size"] ["order", "k"] (defScope s_order_turned) := ⟨rfl, rfl, rfl, by decide +kernel, rfl, by decide +kernel, by decide +kernel⟩
def t_order_turned : FS :=
  seqS (setF 2 (callF lenD (consA (nmF 0) (nilA))))
  (retF (callF tupleD (consA (compF 1 (rngA1 (consA (nmF 2) (nilA))) (gN 3) (yesT) (op2 ixD (nmF 0) (op2 modF (op2 subF (nmF 3) (nmF 1)) (nmF 2)))) (nilA))))
def m_order_turned : List D → Option D := fnP .s 3 t_order_turned
theorem k_order_turned (B : Bt mg) (F : Df K mg "order_turned" s_order_turned ["order", "k"]) (ET : Et K mg kx0 kx1 kx2 kx3 kx4 kx5 kx6 kx7 kx8 kx9)  : Cl P w K mg base 1 "order_turned" ["order", "k"] (spP K .s 2 m_order_turned) := by
  refine cl_pure (k := 0) F sc_order_turned (by decide) rfl fun _ cdv A outer s H hid E hr => ?_
  exact (dss_cons (ds_setF 2 sc_order_turned.nd (dp_callB call_len_seq cd_len B.b_len (db_cons (dp_nm 0) db_nil) (hv := by kernel_rfl)))
      (dss_one (ds_ret (dp_callTy call_tuple_of cd_tuple B.b_tuple (db_cons (dp_comp (N' := ["order", "k", "size", "place"]) rfl (tail_n (Nat.le_of_ble_eq_true rfl)) (DIp.b (dip_range1 B.b_range (da_cons (dp_nm 2) da_nil))) (fun _ _ _ _ => (dgt_name 3 nd_0)) (fun _ _ _ _ => dif_nil) (fun _ _ _ _ => (dp_ix ix_seq od_ix (dp_nm 0) (dp_mod (dp_sub (dp_nm 3) (dp_nm 1)) (dp_nm 2)) (fun _ _ => rfl)))) db_nil) (hv := by kernel_rfl)))))
theorem sc_order_raised : FnScope ["order", "k", "size"] ["order", "k"] (defScope s_order_raised) := ⟨rfl, rfl, rfl, by decide +kernel, rfl, by decide +kernel, by decide +kernel⟩
def t_order_raised : FS :=
  seqS (setF 2 (callF lenD (consA (nmF 0) (nilA))))
  (retF (callF tupleD (consA (compF 1 (seqA (nmF 0)) (gN 3) (yesT) (op2 modF (op2 addF (nmF 3) (nmF 1)) (nmF 2))) (nilA))))
def m_order_raised : List D → Option D := fnP .s 3 t_order_raised
theorem k_order_raised (B : Bt mg) (F : Df K mg "order_raised" s_order_raised ["order", "k"]) (ET : Et K mg kx0 kx1 kx2 kx3 kx4 kx5 kx6 kx7 kx8 kx9)  : Cl P w K mg base 1 "order_raised" ["order", "k"] (spP K .s 2 m_order_raised) := by
  refine cl_pure (k := 0) F sc_order_raised (by decide) rfl fun _ cdv A outer s H hid E hr => ?_
  exact (dss_cons (ds_setF 2 sc_order_raised.nd (dp_callB call_len_seq cd_len B.b_len (db_cons (dp_nm 0) db_nil) (hv := by kernel_rfl)))
      (dss_one (ds_ret (dp_callTy call_tuple_of cd_tuple B.b_tuple (db_cons (dp_comp (N' := ["order", "k", "size", "number"]) rfl (tail_n (Nat.le_of_ble_eq_true rfl)) (DIp.b (dip_seq (dp_nm 0))) (fun _ _ _ _ => (dgt_name 3 nd_1)) (fun _ _ _ _ => dif_nil) (fun _ _ _ _ => (dp_mod (dp_add (dp_nm 3) (dp_nm 1)) (dp_nm 2)))) db_nil) (hv := by kernel_rfl)))))
theorem sc_order_tipped : FnScope ["order"] ["order"] (defScope s_order_tipped) := ⟨rfl, rfl, rfl, by decide +kernel, rfl, by decide +kernel, by decide +kernel⟩
def t_order_tipped : FS :=
  retF (callF tupleD (consA (compF 1 (rngA1 (consA (callF lenD (consA (nmF 0) (nilA))) (nilA))) (gN 1) (yesT) (op2 tidxF (nmF 0) (nmF 1))) (nilA)))
def m_order_tipped : List D → Option D := fnP .s 1 t_order_tipped
theorem k_order_tipped (B : Bt mg) (F : Df K mg "order_tipped" s_order_tipped ["order"]) (ET : Et K mg kx0 kx1 kx2 kx3 kx4 kx5 kx6 kx7 kx8 kx9)  : Cl P w K mg base 1 "order_tipped" ["order"] (spP K .s 1 m_order_tipped) := by
  refine cl_pure (k := 0) F sc_order_tipped (by decide) rfl fun _ cdv A outer s H hid E hr => ?_
  exact (dss_one (ds_ret (dp_callTy call_tuple_of cd_tuple B.b_tuple (db_cons (dp_comp (N' := ["order", "number"]) rfl (tail_n (Nat.le_of_ble_eq_true rfl)) (DIp.b (dip_range1 B.b_range (da_cons (dp_callB call_len_seq cd_len B.b_len (db_cons (dp_nm 0) db_nil) (hv := by kernel_rfl)) da_nil))) (fun _ _ _ _ => (dgt_name 1 nd_2)) (fun _ _ _ _ => dif_nil) (fun _ _ _ _ => (dp_tupIndex hr.units (dp_nm 0) (dp_nm 1)))) db_nil) (hv := by kernel_rfl))))
theorem sc_order_exchanged : FnScope ["order", "one", "other", "numbers"] ["order", "one", "other"] (defScope s_order_exchanged) := ⟨rfl, rfl, rfl, by decide +kernel, rfl, by decide +kernel, by decide +kernel⟩
def t_order_exchanged : FS :=
  seqS (ownF 3 (callF listD (consA (nmF 0) (nilA))))
  (seqS (asgE (gT 2 (gsC (setIx 3 (nmF 1)) (gsC (setIx 3 (nmF 2)) (gsN)))) (pu (tupF (consA (op2 ixD (nmF 0) (nmF 2)) (consA (op2 ixD (nmF 0) (nmF 1)) (nilA))))))
  (retF (callF tupleD (consA (nbF 3) (nilA)))))
def m_order_exchanged : List D → Option D := fnP .s 4 t_order_exchanged
theorem k_order_exchanged (B : Bt mg) (F : Df K mg "order_exchanged" s_order_exchanged ["order", "one", "other"]) (ET : Et K mg kx0 kx1 kx2 kx3 kx4 kx5 kx6 kx7 kx8 kx9)  : Cl P w K mg base 1 "order_exchanged" ["order", "one", "other"] (spP K .s 3 m_order_exchanged) := by
  refine cl_pure (k := 0) F sc_order_exchanged (by decide) rfl fun _ cdv A outer s H hid E hr => ?_
  exact (dss_cons (ds_ownF 3 sc_order_exchanged.nd (dp_callTy call_list_of cd_list B.b_list (db_cons (dp_nm 0) db_nil) (hv := by kernel_rfl)))
      (dss_cons (ds_put (DP.ef (dp_tup (da_cons (dp_ix ix_seq od_ix (dp_nm 0) (dp_nm 2) (fun _ _ => rfl)) (da_cons (dp_ix ix_seq od_ix (dp_nm 0) (dp_nm 1) (fun _ _ => rfl)) da_nil)))) (dht_tup (n := 2) rfl (dhs_cons (dht_sub 3 (dp_nm 1)) (dhs_cons (dht_sub 3 (dp_nm 2)) dhs_nil))))
      (dss_one (ds_ret (dp_callTy call_tuple_of cd_tuple B.b_tuple (db_cons (dp_nb 3) db_nil) (hv := by kernel_rfl))))))
theorem sc_lies_between : FnScope ["at", "one", "other"] ["at", "one", "other"] (defScope s_lies_between) := ⟨rfl, rfl, rfl, by decide +kernel, rfl, by decide +kernel, by decide +kernel⟩
def t_lies_between : FS :=
  retF (ch3 ltF ltF (callF min2D (consA (nmF 1) (consA (nmF 2) (nilA)))) (nmF 0) (callF max2D (consA (nmF 1) (consA (nmF 2) (nilA)))))
def m_lies_between : List D → Option D := fnP .s 3 t_lies_between
theorem k_lies_between (B : Bt mg) (F : Df K mg "lies_between" s_lies_between ["at", "one", "other"]) (ET : Et K mg kx0 kx1 kx2 kx3 kx4 kx5 kx6 kx7 kx8 kx9)  : Cl P w K mg base 1 "lies_between" ["at", "one", "other"] (spP K .s 3 m_lies_between) := by
  refine cl_pure (k := 0) F sc_lies_between (by decide) rfl fun _ cdv A outer s H hid E hr => ?_
  exact (dss_one (ds_ret (dp_ch op_lt op_lt od_B0 od_B0 (dp_callB (call_min2 rfl) cd_min2 B.b_min (db_cons (dp_nm 1) (db_cons (dp_nm 2) db_nil)) (hv := by kernel_rfl)) (dp_nm 0) (dp_callB (call_max2 rfl) cd_max2 B.b_max (db_cons (dp_nm 1) (db_cons (dp_nm 2) db_nil)) (hv := by kernel_rfl)))))
theorem sc_columns_turned : FnScope ["square", "k", "rings", "crosses"] ["square", "k"] (defScope s_columns_turned) := ⟨rfl, rfl, rfl, by decide +kernel, rfl, by decide +kernel, by decide +kernel⟩
def t_columns_turned : FS :=
  seqS (asgE (gT 2 (gsC (gN 2) (gsC (gN 3) (gsN)))) (pu (nmF 0)))
  (retF (tupF (consA (callF (nF 2 m_order_turned) (consA (nmF 2) (consA (nmF 1) (nilA)))) (consA (callF (nF 2 m_order_turned) (consA (nmF 3) (consA (nmF 1) (nilA)))) (nilA)))))
def m_columns_turned : List D → Option D := fnP .s 4 t_columns_turned
theorem k_columns_turned (B : Bt mg) (F : Df K mg "columns_turned" s_columns_turned ["square", "k"]) (ET : Et K mg kx0 kx1 kx2 kx3 kx4 kx5 kx6 kx7 kx8 kx9) (c_order_turned : Cl P w K mg base 1 "order_turned" ["order", "k"] (spP K .s 2 m_order_turned)) : Cl P w K mg base 2 "columns_turned" ["square", "k"] (spP K .s 2 m_columns_turned) := by
  refine cl_pure (k := 1) F sc_columns_turned (by decide) rfl fun _ cdv A outer s H hid E hr => ?_
  exact (dss_cons (ds_asg (DP.ef (dp_nm 0)) (dgt_tup (n := 2) rfl (dgs_cons (dgt_name 2 sc_columns_turned.nd) (dgs_cons (dgt_name 3 sc_columns_turned.nd) dgs_nil))))
      (dss_one (ds_ret (dp_tup (da_cons (dp_cl c_order_turned (hr.mono (by decide)) (da_cons (dp_nm 2) (da_cons (dp_nm 1) da_nil))) (da_cons (dp_cl c_order_turned (hr.mono (by decide)) (da_cons (dp_nm 3) (da_cons (dp_nm 1) da_nil))) da_nil))))))
theorem sc_rows_turned : FnScope ["square", "k", "rings", "crosses"] ["square", "k"] (defScope s_rows_turned) := ⟨rfl, rfl, rfl, by decide +kernel, rfl, by decide +kernel, by decide +kernel⟩
def t_rows_turned : FS :=
  seqS (asgE (gT 2 (gsC (gN 2) (gsC (gN 3) (gsN)))) (pu (nmF 0)))
  (retF (tupF (consA (callF (nF 2 m_order_raised) (consA (nmF 2) (consA (nmF 1) (nilA)))) (consA (callF (nF 2 m_order_raised) (consA (nmF 3) (consA (nmF 1) (nilA)))) (nilA)))))
def m_rows_turned : List D → Option D := fnP .s 4 t_rows_turned
theorem k_rows_turned (B : Bt mg) (F : Df K mg "rows_turned" s_rows_turned ["square", "k"]) (ET : Et K mg kx0 kx1 kx2 kx3 kx4 kx5 kx6 kx7 kx8 kx9) (c_order_raised : Cl P w K mg base 1 "order_raised" ["order", "k"] (spP K .s 2 m_order_raised)) : Cl P w K mg base 2 "rows_turned" ["square", "k"] (spP K .s 2 m_rows_turned) := by
  refine cl_pure (k := 1) F sc_rows_turned (by decide) rfl fun _ cdv A outer s H hid E hr => ?_
  exact (dss_cons (ds_asg (DP.ef (dp_nm 0)) (dgt_tup (n := 2) rfl (dgs_cons (dgt_name 2 sc_rows_turned.nd) (dgs_cons (dgt_name 3 sc_rows_turned.nd) dgs_nil))))
      (dss_one (ds_ret (dp_tup (da_cons (dp_cl c_order_raised (hr.mono (by decide)) (da_cons (dp_nm 2) (da_cons (dp_nm 1) da_nil))) (da_cons (dp_cl c_order_raised (hr.mono (by decide)) (da_cons (dp_nm 3) (da_cons (dp_nm 1) da_nil))) da_nil))))))
theorem sc_tipped : FnScope ["square", "rings", "crosses"] ["square"] (defScope s_tipped) := ⟨rfl, rfl, rfl, by decide +kernel, rfl, by decide +kernel, by decide +kernel⟩
def t_tipped : FS :=
  seqS (asgE (gT 2 (gsC (gN 1) (gsC (gN 2) (gsN)))) (pu (nmF 0)))
  (retF (tupF (consA (callF (nF 1 m_order_tipped) (consA (nmF 1) (nilA))) (consA (callF (nF 1 m_order_tipped) (consA (nmF 2) (nilA))) (nilA)))))
def m_tipped : List D → Option D := fnP .s 3 t_tipped
theorem k_tipped (B : Bt mg) (F : Df K mg "tipped" s_tipped ["square"]) (ET : Et K mg kx0 kx1 kx2 kx3 kx4 kx5 kx6 kx7 kx8 kx9) (c_order_tipped : Cl P w K mg base 1 "order_tipped" ["order"] (spP K .s 1 m_order_tipped)) : Cl P w K mg base 2 "tipped" ["square"] (spP K .s 1 m_tipped) := by
  refine cl_pure (k := 1) F sc_tipped (by decide) rfl fun _ cdv A outer s H hid E hr => ?_
  exact (dss_cons (ds_asg (DP.ef (dp_nm 0)) (dgt_tup (n := 2) rfl (dgs_cons (dgt_name 1 sc_tipped.nd) (dgs_cons (dgt_name 2 sc_tipped.nd) dgs_nil))))
      (dss_one (ds_ret (dp_tup (da_cons (dp_cl c_order_tipped (hr.mono (by decide)) (da_cons (dp_nm 1) da_nil)) (da_cons (dp_cl c_order_tipped (hr.mono (by decide)) (da_cons (dp_nm 2) da_nil)) da_nil))))))
theorem sc_may_change : FnScope ["square", "c", "rings", "crosses", "one", "other", "between"] ["square", "c"] (defScope s_may_change) := ⟨rfl, rfl, rfl, by decide +kernel, rfl, by decide +kernel, by decide +kernel⟩
def t_may_change : FS :=
  seqS (asgE (gT 2 (gsC (gN 2) (gsC (gN 3) (gsN)))) (pu (nmF 0)))
  (seqS (ifS (not1 (toB (ch3 leF leF (cst (.int 0)) (nmF 1) (op2 subF (callF lenD (consA (nmF 2) (nilA))) (cst (.int 2)))))) (retF (cst (.bl false))) (skip))
  (seqS (setF 4 (tupF (consA (op2 ixD (nmF 2) (nmF 1)) (consA (op2 ixD (nmF 3) (nmF 1)) (nilA)))))
  (seqS (setF 5 (tupF (consA (op2 ixD (nmF 2) (op2 addF (nmF 1) (cst (.int 1)))) (consA (op2 ixD (nmF 3) (op2 addF (nmF 1) (cst (.int 1)))) (nilA)))))
  (seqS (ifS (or2 (toB (op2 (inF false) (op2 ixD (nmF 4) (cst (.int 0))) (nmF 5))) (toB (op2 (inF false) (op2 ixD (nmF 4) (cst (.int 1))) (nmF 5)))) (retF (cst (.bl false))) (skip))
  (seqS (setF 6 (compF 1 (seqA (nmF 5)) (gN 7) (tru1 (callF (nF 3 m_lies_between) (consA (nmF 7) (consA (op2 ixD (nmF 4) (cst (.int 0))) (consA (op2 ixD (nmF 4) (cst (.int 1))) (nilA)))))) (nmF 7)))
  (retF (op2 neF (callF lenD (consA (nmF 6) (nilA))) (cst (.int 1)))))))))
def m_may_change : List D → Option D := fnP .s 7 t_may_change
theorem k_may_change (B : Bt mg) (F : Df K mg "may_change" s_may_change ["square", "c"]) (ET : Et K mg kx0 kx1 kx2 kx3 kx4 kx5 kx6 kx7 kx8 kx9) (c_lies_between : Cl P w K mg base 1 "lies_between" ["at", "one", "other"] (spP K .s 3 m_lies_between)) : Cl P w K mg base 2 "may_change" ["square", "c"] (spP K .s 2 m_may_change) := by
  refine cl_pure (k := 1) F sc_may_change (by decide) rfl fun _ cdv A outer s H hid E hr => ?_
  exact (dss_cons (ds_asg (DP.ef (dp_nm 0)) (dgt_tup (n := 2) rfl (dgs_cons (dgt_name 2 sc_may_change.nd) (dgs_cons (dgt_name 3 sc_may_change.nd) dgs_nil))))
      (dss_cons (ds_if (dt_not (dt_ch op_le op_le od_B0 od_B0 dp_int (dp_nm 1) (dp_sub (dp_callB call_len_seq cd_len B.b_len (db_cons (dp_nm 2) db_nil) (hv := by kernel_rfl)) dp_int))) (dss_one (ds_ret dp_bl)) dss_nil)
      (dss_cons (ds_setF 4 sc_may_change.nd (dp_tup (da_cons (dp_ix ix_seq od_ix (dp_nm 2) (dp_nm 1) (fun _ _ => rfl)) (da_cons (dp_ix ix_seq od_ix (dp_nm 3) (dp_nm 1) (fun _ _ => rfl)) da_nil))))
      (dss_cons (ds_setF 5 sc_may_change.nd (dp_tup (da_cons (dp_ix ix_seq od_ix (dp_nm 2) (dp_add (dp_nm 1) dp_int) (fun _ _ => rfl)) (da_cons (dp_ix ix_seq od_ix (dp_nm 3) (dp_add (dp_nm 1) dp_int) (fun _ _ => rfl)) da_nil))))
      (dss_cons (ds_if (DW.dt (dw_or (dt_cmp (op_inD hr.units) (od_in false) (dp_ix ix_seq od_ix (dp_nm 4) dp_int (fun _ _ => rfl)) (dp_nm 5) (by with_unfolding_all rfl)) (dw_or1 (dt_cmp (op_inD hr.units) (od_in false) (dp_ix ix_seq od_ix (dp_nm 4) dp_int (fun _ _ => rfl)) (dp_nm 5) (by with_unfolding_all rfl))))) (dss_one (ds_ret dp_bl)) dss_nil)
      (dss_cons (ds_setC 6 (N' := ["square", "c", "rings", "crosses", "one", "other", "between", "row"]) rfl sc_may_change.nd (tail_n (Nat.le_of_ble_eq_true rfl)) (DIp.b (dip_seq (dp_nm 5))) (fun _ _ _ _ => (dgt_name 7 nd_3)) (fun _ _ _ _ => (dif_one (dt_val (dp_cl c_lies_between (hr.mono (by decide)) (da_cons (dp_nm 7) (da_cons (dp_ix ix_seq od_ix (dp_nm 4) dp_int (fun _ _ => rfl)) (da_cons (dp_ix ix_seq od_ix (dp_nm 4) dp_int (fun _ _ => rfl)) da_nil))))))) (fun _ _ _ _ => (dp_nm 7)))
      (dss_one (ds_ret (dp_cmp (op_neD hr.units) od_ne (dp_callB call_len_seq cd_len B.b_len (db_cons (dp_nm 6) db_nil) (hv := by kernel_rfl)) dp_int (nomark _))))))))))
theorem sc_columns_changed : FnScope ["square", "c", "rings", "crosses"] ["square", "c"] (defScope s_columns_changed) := ⟨rfl, rfl, rfl, by decide +kernel, rfl, by decide +kernel, by decide +kernel⟩
def t_columns_changed : FX :=
  seqX (ifX (not1 (tru1 (callF (nF 2 m_may_change) (consA (nmF 0) (consA (nmF 1) (nilA)))))) (raiX ⟨"NoMove", 0⟩ (consA (cst (.str "these columns may not be exchanged")) (nilA))) (lfX skip))
  (lfX (seqS (asgE (gT 2 (gsC (gN 2) (gsC (gN 3) (gsN)))) (pu (nmF 0)))
  (retF (tupF (consA (callF (nF 3 m_order_exchanged) (consA (nmF 2) (consA (nmF 1) (consA (op2 addF (nmF 1) (cst (.int 1))) (nilA))))) (consA (callF (nF 3 m_order_exchanged) (consA (nmF 3) (consA (nmF 1) (consA (op2 addF (nmF 1) (cst (.int 1))) (nilA))))) (nilA)))))))
def m_columns_changed : List D → Option (Except Ex D) := fnX .s 4 t_columns_changed
theorem k_columns_changed (B : Bt mg) (F : Df K mg "columns_changed" s_columns_changed ["square", "c"]) (ET : Et K mg kx0 kx1 kx2 kx3 kx4 kx5 kx6 kx7 kx8 kx9) (c_may_change : Cl P w K mg base 2 "may_change" ["square", "c"] (spP K .s 2 m_may_change)) (c_order_exchanged : Cl P w K mg base 1 "order_exchanged" ["order", "one", "other"] (spP K .s 3 m_order_exchanged)) : ClX P w K mg base 3 "columns_changed" ["square", "c"] (spX K .s 2 m_columns_changed) := by
  refine clx_pure (k := 2) F sc_columns_changed (by decide) rfl fun _ cdv A outer s H hid E hr => ?_
  exact (dssx_cons (dsx_if (DT.nox (dt_not (dt_val (dp_cl c_may_change (hr.mono (by decide)) (da_cons (dp_nm 0) (da_cons (dp_nm 1) da_nil)))))) (dssx_one (dsx_raise (n := 0) (ET.t.row _ (List.Mem.tail _ (List.Mem.tail _ (List.Mem.head _)))).mg (ET.t.row _ (List.Mem.tail _ (List.Mem.tail _ (List.Mem.head _)))).ns ET.o_NoMove hr.hd (DA.nox (da_cons dp_str da_nil)))) dssx_nil)
      (dssx_lift (dss_cons (ds_asg (DP.ef (dp_nm 0)) (dgt_tup (n := 2) rfl (dgs_cons (dgt_name 2 sc_columns_changed.nd) (dgs_cons (dgt_name 3 sc_columns_changed.nd) dgs_nil))))
      (dss_one (ds_ret (dp_tup (da_cons (dp_cl c_order_exchanged (hr.mono (by decide)) (da_cons (dp_nm 2) (da_cons (dp_nm 1) (da_cons (dp_add (dp_nm 1) dp_int) da_nil)))) (da_cons (dp_cl c_order_exchanged (hr.mono (by decide)) (da_cons (dp_nm 3) (da_cons (dp_nm 1) (da_cons (dp_add (dp_nm 1) dp_int) da_nil)))) da_nil))))))))
theorem sc_rows_changed : FnScope ["square", "r"] ["square", "r"] (defScope s_rows_changed) := ⟨rfl, rfl, rfl, by decide +kernel, rfl, by decide +kernel, by decide +kernel⟩
def t_rows_changed : FX :=
  retR (callPR 1 m_tipped (consR (callR 2 m_columns_changed (puRA (consA (callF (nF 1 m_tipped) (consA (nmF 0) (nilA))) (consA (nmF 1) (nilA))))) (puRA (nilA))))
def m_rows_changed : List D → Option (Except Ex D) := fnX .s 2 t_rows_changed
theorem k_rows_changed (B : Bt mg) (F : Df K mg "rows_changed" s_rows_changed ["square", "r"]) (ET : Et K mg kx0 kx1 kx2 kx3 kx4 kx5 kx6 kx7 kx8 kx9) (c_tipped : Cl P w K mg base 2 "tipped" ["square"] (spP K .s 1 m_tipped)) (c_columns_changed : ClX P w K mg base 3 "columns_changed" ["square", "c"] (spX K .s 2 m_columns_changed)) : ClX P w K mg base 4 "rows_changed" ["square", "r"] (spX K .s 2 m_rows_changed) := by
  refine clx_pure (k := 3) F sc_rows_changed (by decide) rfl fun _ cdv A outer s H hid E hr => ?_
  exact (dssx_one (dsx_ret (dr_clP c_tipped (hr.mono (by decide)) (dra_cons (dr_cl c_columns_changed (hr.mono (by decide)) (DA.rr (DA.nox (da_cons (dp_cl c_tipped (hr.mono (by decide)) (da_cons (dp_nm 0) da_nil)) (da_cons (dp_nm 1) da_nil))))) (DA.rr (DA.nox da_nil))))))
theorem sc_is_way : FnScope ["way"] ["way"] (defScope s_is_way) := ⟨rfl, rfl, rfl, by decide +kernel, rfl, by decide +kernel, by decide +kernel⟩
def t_is_way : FS :=
  retF (ch3 leF ltF (cst (.int 0)) (nmF 0) (cst (.int 4)))
def m_is_way : List D → Option D := fnP .s 1 t_is_way
theorem k_is_way (B : Bt mg) (F : Df K mg "is_way" s_is_way ["way"]) (ET : Et K mg kx0 kx1 kx2 kx3 kx4 kx5 kx6 kx7 kx8 kx9)  : Cl P w K mg base 1 "is_way" ["way"] (spP K .s 1 m_is_way) := by
  refine cl_pure (k := 0) F sc_is_way (by decide) rfl fun _ cdv A outer s H hid E hr => ?_
  exact (dss_one (ds_ret (dp_ch op_le op_lt od_B0 od_B0 dp_int (dp_nm 0) (dp_gl B.g_MANY_WAYS))))
theorem sc_free_and_full : FnScope ["c", "r", "way", "right", "up"] ["c", "r", "way"] (defScope s_free_and_full) := ⟨rfl, rfl, rfl, by decide +kernel, rfl, by decide +kernel, by decide +kernel⟩
def t_free_and_full : FS :=
  seqS (parF 3 4 (consA (op2 modF (nmF 2) (cst (.int 2))) (consA (op2 fdivF (nmF 2) (cst (.int 2))) (nilA))))
  (retF (tupF (consA (op2 addF (nmF 0) (nmF 3)) (consA (op2 addF (nmF 1) (nmF 4)) (consA (op2 subF (op2 addF (nmF 0) (cst (.int 1))) (nmF 3)) (consA (op2 subF (op2 addF (nmF 1) (cst (.int 1))) (nmF 4)) (nilA)))))))
def m_free_and_full : List D → Option D := fnP .s 5 t_free_and_full
theorem k_free_and_full (B : Bt mg) (F : Df K mg "free_and_full" s_free_and_full ["c", "r", "way"]) (ET : Et K mg kx0 kx1 kx2 kx3 kx4 kx5 kx6 kx7 kx8 kx9)  : Cl P w K mg base 1 "free_and_full" ["c", "r", "way"] (spP K .s 3 m_free_and_full) := by
  refine cl_pure (k := 0) F sc_free_and_full (by decide) rfl fun _ cdv A outer s H hid E hr => ?_
  exact (dss_cons (ds_par 3 4 rfl sc_free_and_full.nd (da_cons (dp_mod (dp_nm 2) dp_int) (da_cons (dp_fdiv (dp_nm 2) dp_int) da_nil)))
      (dss_one (ds_ret (dp_tup (da_cons (dp_add (dp_nm 0) (dp_nm 3)) (da_cons (dp_add (dp_nm 1) (dp_nm 4)) (da_cons (dp_sub (dp_add (dp_nm 0) dp_int) (dp_nm 3)) (da_cons (dp_sub (dp_add (dp_nm 1) dp_int) (dp_nm 4)) da_nil))))))))
theorem sc_row_parted : FnScope ["mark", "row", "to"] ["mark", "row", "to"] (defScope s_row_parted) := ⟨rfl, rfl, rfl, by decide +kernel, rfl, by decide +kernel, by decide +kernel⟩
def t_row_parted : FS :=
  seqS (ifS (toB (op2 eqF (nmF 0) (nmF 1))) (retF (nmF 2)) (skip))
  (retF (ifF (toB (op2 gtF (nmF 0) (nmF 1))) (op2 addF (nmF 0) (cst (.int 1))) (nmF 0)))
def m_row_parted : List D → Option D := fnP .s 3 t_row_parted
theorem k_row_parted (B : Bt mg) (F : Df K mg "row_parted" s_row_parted ["mark", "row", "to"]) (ET : Et K mg kx0 kx1 kx2 kx3 kx4 kx5 kx6 kx7 kx8 kx9)  : Cl P w K mg base 1 "row_parted" ["mark", "row", "to"] (spP K .s 3 m_row_parted) := by
  refine cl_pure (k := 0) F sc_row_parted (by decide) rfl fun _ cdv A outer s H hid E hr => ?_
  exact (dss_cons (ds_if (dt_cmp (op_eqD hr.units) od_eq (dp_nm 0) (dp_nm 1) (nomark _)) (dss_one (ds_ret (dp_nm 2))) dss_nil)
      (dss_one (ds_ret (dp_if (by decide) (dt_cmp op_gt od_B0 (dp_nm 0) (dp_nm 1) (nomark _)) (dp_add (dp_nm 0) dp_int) (dp_nm 0)))))
theorem sc_corner_put : FnScope ["square", "c", "way", "rings", "crosses", "row", "free_column", "free_row", "full_column", "full_row", "more_rings", "more_crosses"] ["square", "c", "way"] (defScope s_corner_put) := ⟨rfl, rfl, rfl, by decide +kernel, rfl, by decide +kernel, by decide +kernel⟩
def t_corner_put : FX :=
  seqX (lfX (asgE (gT 2 (gsC (gN 3) (gsC (gN 4) (gsN)))) (pu (nmF 0))))
  (seqX (ifX (or2 (not1 (toB (ch3 leF ltF (cst (.int 0)) (nmF 1) (callF lenD (consA (nmF 3) (nilA)))))) (not1 (tru1 (callF (nF 1 m_is_way) (consA (nmF 2) (nilA)))))) (raiX ⟨"NoMove", 0⟩ (consA (cst (.str "there is no such column or way")) (nilA))) (lfX skip))
  (seqX (ifX (toB (op2 geF (callF lenD (consA (nmF 3) (nilA))) (cst (.int 6)))) (raiX ⟨"TooMany", 0⟩ (consA (cst (.str "the square has no room for a corner")) (nilA))) (lfX skip))
  (lfX (seqS (setF 5 (op2 ixD (nmF 4) (nmF 1)))
  (seqS (asgE (gT 4 (gsC (gN 6) (gsC (gN 7) (gsC (gN 8) (gsC (gN 9) (gsN)))))) (pu (callF (nF 3 m_free_and_full) (consA (nmF 1) (consA (nmF 5) (consA (nmF 2) (nilA)))))))
  (seqS (ownF 10 (compF 1 (seqA (nmF 3)) (gN 12) (yesT) (callF (nF 3 m_row_parted) (consA (nmF 12) (consA (nmF 5) (consA (nmF 7) (nilA)))))))
  (seqS (ownF 11 (compF 1 (seqA (nmF 4)) (gN 12) (yesT) (callF (nF 3 m_row_parted) (consA (nmF 12) (consA (nmF 5) (consA (nmF 9) (nilA)))))))
  (seqS (dropE (callE 10 2 insM (puA (consA (nmF 8) (consA (nmF 9) (nilA))))))
  (seqS (dropE (callE 11 2 insM (puA (consA (nmF 8) (consA (nmF 7) (nilA))))))
  (retF (tupF (consA (callF tupleD (consA (nbF 10) (nilA))) (consA (callF tupleD (consA (nbF 11) (nilA))) (nilA))))))))))))))
def m_corner_put : List D → Option (Except Ex D) := fnX .s 12 t_corner_put
theorem k_corner_put (B : Bt mg) (F : Df K mg "corner_put" s_corner_put ["square", "c", "way"]) (ET : Et K mg kx0 kx1 kx2 kx3 kx4 kx5 kx6 kx7 kx8 kx9) (c_free_and_full : Cl P w K mg base 1 "free_and_full" ["c", "r", "way"] (spP K .s 3 m_free_and_full)) (c_row_parted : Cl P w K mg base 1 "row_parted" ["mark", "row", "to"] (spP K .s 3 m_row_parted)) (c_is_way : Cl P w K mg base 1 "is_way" ["way"] (spP K .s 1 m_is_way)) : ClX P w K mg base 2 "corner_put" ["square", "c", "way"] (spX K .s 3 m_corner_put) := by
  refine clx_pure (k := 1) F sc_corner_put (by decide) rfl fun _ cdv A outer s H hid E hr => ?_
  exact (dssx_cons (dsx_lift (ds_asg (DP.ef (dp_nm 0)) (dgt_tup (n := 2) rfl (dgs_cons (dgt_name 3 sc_corner_put.nd) (dgs_cons (dgt_name 4 sc_corner_put.nd) dgs_nil)))))
      (dssx_cons (dsx_if (DT.nox (DW.dt (dw_or (dt_not (dt_ch op_le op_lt od_B0 od_B0 dp_int (dp_nm 1) (dp_callB call_len_seq cd_len B.b_len (db_cons (dp_nm 3) db_nil) (hv := by kernel_rfl)))) (dw_or1 (dt_not (dt_val (dp_cl c_is_way (hr.mono (by decide)) (da_cons (dp_nm 2) da_nil)))))))) (dssx_one (dsx_raise (n := 0) (ET.t.row _ (List.Mem.tail _ (List.Mem.tail _ (List.Mem.head _)))).mg (ET.t.row _ (List.Mem.tail _ (List.Mem.tail _ (List.Mem.head _)))).ns ET.o_NoMove hr.hd (DA.nox (da_cons dp_str da_nil)))) dssx_nil)
      (dssx_cons (dsx_if (DT.nox (dt_cmp op_ge od_B0 (dp_callB call_len_seq cd_len B.b_len (db_cons (dp_nm 3) db_nil) (hv := by kernel_rfl)) (dp_gl B.g_MOST_SIZE) (nomark _))) (dssx_one (dsx_raise (n := 0) (ET.t.row _ (List.Mem.tail _ (List.Mem.tail _ (List.Mem.tail _ (List.Mem.head _))))).mg (ET.t.row _ (List.Mem.tail _ (List.Mem.tail _ (List.Mem.tail _ (List.Mem.head _))))).ns ET.o_TooMany hr.hd (DA.nox (da_cons dp_str da_nil)))) dssx_nil)
      (dssx_lift (dss_cons (ds_setF 5 sc_corner_put.nd (dp_ix ix_seq od_ix (dp_nm 4) (dp_nm 1) (fun _ _ => rfl)))
      (dss_cons (ds_asg (DP.ef (dp_cl c_free_and_full (hr.mono (by decide)) (da_cons (dp_nm 1) (da_cons (dp_nm 5) (da_cons (dp_nm 2) da_nil))))) (dgt_tup (n := 4) rfl (dgs_cons (dgt_name 6 sc_corner_put.nd) (dgs_cons (dgt_name 7 sc_corner_put.nd) (dgs_cons (dgt_name 8 sc_corner_put.nd) (dgs_cons (dgt_name 9 sc_corner_put.nd) dgs_nil))))))
      (dss_cons (ds_ownC 10 (N' := ["square", "c", "way", "rings", "crosses", "row", "free_column", "free_row", "full_column", "full_row", "more_rings", "more_crosses", "mark"]) rfl sc_corner_put.nd (tail_n (Nat.le_of_ble_eq_true rfl)) (DIp.b (dip_seq (dp_nm 3))) (fun _ _ _ _ => (dgt_name 12 nd_4)) (fun _ _ _ _ => dif_nil) (fun _ _ _ _ => (dp_cl c_row_parted (hr.mono (by decide)) (da_cons (dp_nm 12) (da_cons (dp_nm 5) (da_cons (dp_nm 7) da_nil))))))
      (dss_cons (ds_ownC 11 (N' := ["square", "c", "way", "rings", "crosses", "row", "free_column", "free_row", "full_column", "full_row", "more_rings", "more_crosses", "mark"]) rfl sc_corner_put.nd (tail_n (Nat.le_of_ble_eq_true rfl)) (DIp.b (dip_seq (dp_nm 4))) (fun _ _ _ _ => (dgt_name 12 nd_4)) (fun _ _ _ _ => dif_nil) (fun _ _ _ _ => (dp_cl c_row_parted (hr.mono (by decide)) (da_cons (dp_nm 12) (da_cons (dp_nm 5) (da_cons (dp_nm 9) da_nil))))))
      (dss_cons (ds_expr (de_meth 10 md_insert mt_insert PySem.F.slot_list_insert PySem.F.type_list_insert (DA.gf (da_cons (dp_nm 8) (da_cons (dp_nm 9) da_nil)))))
      (dss_cons (ds_expr (de_meth 11 md_insert mt_insert PySem.F.slot_list_insert PySem.F.type_list_insert (DA.gf (da_cons (dp_nm 8) (da_cons (dp_nm 7) da_nil)))))
      (dss_one (ds_ret (dp_tup (da_cons (dp_callTy call_tuple_of cd_tuple B.b_tuple (db_cons (dp_nb 10) db_nil) (hv := by kernel_rfl)) (da_cons (dp_callTy call_tuple_of cd_tuple B.b_tuple (db_cons (dp_nb 11) db_nil) (hv := by kernel_rfl)) da_nil)))))))))))))))
theorem sc_is_put : FnScope ["square", "c", "r", "way", "rings", "crosses", "free_column", "free_row", "full_column", "full_row"] ["square", "c", "r", "way"] (defScope s_is_put) := ⟨rfl, rfl, rfl, by decide +kernel, rfl, by decide +kernel, by decide +kernel⟩
def t_is_put : FS :=
  seqS (asgE (gT 2 (gsC (gN 4) (gsC (gN 5) (gsN)))) (pu (nmF 0)))
  (seqS (asgE (gT 4 (gsC (gN 6) (gsC (gN 7) (gsC (gN 8) (gsC (gN 9) (gsN)))))) (pu (callF (nF 3 m_free_and_full) (consA (nmF 1) (consA (nmF 2) (consA (nmF 3) (nilA)))))))
  (seqS (ifS (toB (op2 neF (tupF (consA (op2 ixD (nmF 4) (nmF 8)) (consA (op2 ixD (nmF 5) (nmF 8)) (nilA)))) (tupF (consA (nmF 9) (consA (nmF 7) (nilA)))))) (retF (cst (.bl false))) (skip))
  (retF (asD (and2 (toB (op2 eqF (op2 ixD (nmF 5) (nmF 6)) (nmF 9))) (toB (op2 neF (op2 ixD (nmF 4) (nmF 6)) (nmF 7))))))))
def m_is_put : List D → Option D := fnP .s 10 t_is_put
theorem k_is_put (B : Bt mg) (F : Df K mg "is_put" s_is_put ["square", "c", "r", "way"]) (ET : Et K mg kx0 kx1 kx2 kx3 kx4 kx5 kx6 kx7 kx8 kx9) (c_free_and_full : Cl P w K mg base 1 "free_and_full" ["c", "r", "way"] (spP K .s 3 m_free_and_full)) : Cl P w K mg base 2 "is_put" ["square", "c", "r", "way"] (spP K .s 4 m_is_put) := by
  refine cl_pure (k := 1) F sc_is_put (by decide) rfl fun _ cdv A outer s H hid E hr => ?_
  exact (dss_cons (ds_asg (DP.ef (dp_nm 0)) (dgt_tup (n := 2) rfl (dgs_cons (dgt_name 4 sc_is_put.nd) (dgs_cons (dgt_name 5 sc_is_put.nd) dgs_nil))))
      (dss_cons (ds_asg (DP.ef (dp_cl c_free_and_full (hr.mono (by decide)) (da_cons (dp_nm 1) (da_cons (dp_nm 2) (da_cons (dp_nm 3) da_nil))))) (dgt_tup (n := 4) rfl (dgs_cons (dgt_name 6 sc_is_put.nd) (dgs_cons (dgt_name 7 sc_is_put.nd) (dgs_cons (dgt_name 8 sc_is_put.nd) (dgs_cons (dgt_name 9 sc_is_put.nd) dgs_nil))))))
      (dss_cons (ds_if (dt_cmp (op_neD hr.units) od_ne (dp_tup (da_cons (dp_ix ix_seq od_ix (dp_nm 4) (dp_nm 8) (fun _ _ => rfl)) (da_cons (dp_ix ix_seq od_ix (dp_nm 5) (dp_nm 8) (fun _ _ => rfl)) da_nil))) (dp_tup (da_cons (dp_nm 9) (da_cons (dp_nm 7) da_nil))) (nomark _)) (dss_one (ds_ret dp_bl)) dss_nil)
      (dss_one (ds_ret (dp_and (dp_cmp (op_eqD hr.units) od_eq (dp_ix ix_seq od_ix (dp_nm 5) (dp_nm 6) (fun _ _ => rfl)) (dp_nm 9) (nomark _)) (dp_one (dp_cmp (op_neD hr.units) od_ne (dp_ix ix_seq od_ix (dp_nm 4) (dp_nm 6) (fun _ _ => rfl)) (dp_nm 7) (nomark _)))))))))
theorem sc_way_put : FnScope ["square", "c", "r", "last", "way"] ["square", "c", "r"] (defScope s_way_put) := ⟨rfl, rfl, rfl, by decide +kernel, rfl, by decide +kernel, by decide +kernel⟩
def t_way_put : FS :=
  seqS (setF 3 (op2 subF (callF lenD (consA (op2 ixD (nmF 0) (cst (.int 0))) (nilA))) (cst (.int 2))))
  (seqS (ifS (or2 (not1 (toB (ch3 leF leF (cst (.int 0)) (nmF 1) (nmF 3)))) (not1 (toB (ch3 leF leF (cst (.int 0)) (nmF 2) (nmF 3))))) (retF (cst .non)) (skip))
  (seqS (forS (puA (rngA1 (consA (cst (.int 4)) (nilA)))) (gN 4) (ifS (tru1 (callF (nF 4 m_is_put) (consA (nmF 0) (consA (nmF 1) (consA (nmF 2) (consA (nmF 4) (nilA))))))) (retF (nmF 4)) (skip)))
  (retF (cst .non))))
def m_way_put : List D → Option D := fnP .s 5 t_way_put
theorem k_way_put (B : Bt mg) (F : Df K mg "way_put" s_way_put ["square", "c", "r"]) (ET : Et K mg kx0 kx1 kx2 kx3 kx4 kx5 kx6 kx7 kx8 kx9) (c_is_put : Cl P w K mg base 2 "is_put" ["square", "c", "r", "way"] (spP K .s 4 m_is_put)) : Cl P w K mg base 3 "way_put" ["square", "c", "r"] (spP K .s 3 m_way_put) := by
  refine cl_pure (k := 2) F sc_way_put (by decide) rfl fun _ cdv A outer s H hid E hr => ?_
  exact (dss_cons (ds_setF 3 sc_way_put.nd (dp_sub (dp_callB call_len_seq cd_len B.b_len (db_cons (dp_ix ix_seq od_ix (dp_nm 0) dp_int (fun _ _ => rfl)) db_nil) (hv := by kernel_rfl)) dp_int))
      (dss_cons (ds_if (DW.dt (dw_or (dt_not (dt_ch op_le op_le od_B0 od_B0 dp_int (dp_nm 1) (dp_nm 3))) (dw_or1 (dt_not (dt_ch op_le op_le od_B0 od_B0 dp_int (dp_nm 2) (dp_nm 3)))))) (dss_one (ds_ret dp_non)) dss_nil)
      (dss_cons (ds_for PassesOwn.never rfl (DIp.e (dip_range1 B.b_range (da_cons (dp_gl B.g_MANY_WAYS) da_nil))) (dgt_name 4 sc_way_put.nd) (dss_one (ds_if (dt_val (dp_cl c_is_put (hr.mono (by decide)) (da_cons (dp_nm 0) (da_cons (dp_nm 1) (da_cons (dp_nm 2) (da_cons (dp_nm 4) da_nil)))))) (dss_one (ds_ret (dp_nm 4))) dss_nil)))
      (dss_one (ds_ret dp_non)))))
theorem sc_rows_joined : FnScope ["marks", "row", "column"] ["marks", "row", "column"] (defScope s_rows_joined) := ⟨rfl, rfl, rfl, by decide +kernel, rfl, by decide +kernel, by decide +kernel⟩
def t_rows_joined : FS :=
  retF (callF tupleD (consA (compF 2 (enuA (nmF 0)) (gT 2 (gsC (gN 3) (gsC (gN 4) (gsN)))) (toB (op2 neF (nmF 3) (nmF 2))) (ifF (toB (op2 gtF (nmF 4) (nmF 1))) (op2 subF (nmF 4) (cst (.int 1))) (nmF 4))) (nilA)))
def m_rows_joined : List D → Option D := fnP .s 3 t_rows_joined
theorem k_rows_joined (B : Bt mg) (F : Df K mg "rows_joined" s_rows_joined ["marks", "row", "column"]) (ET : Et K mg kx0 kx1 kx2 kx3 kx4 kx5 kx6 kx7 kx8 kx9)  : Cl P w K mg base 1 "rows_joined" ["marks", "row", "column"] (spP K .s 3 m_rows_joined) := by
  refine cl_pure (k := 0) F sc_rows_joined (by decide) rfl fun _ cdv A outer s H hid E hr => ?_
  exact (dss_one (ds_ret (dp_callTy call_tuple_of cd_tuple B.b_tuple (db_cons (dp_comp (N' := ["marks", "row", "column", "at", "mark"]) rfl (tail_t (tails_cons (tail_n (Nat.le_of_ble_eq_true rfl)) (tails_cons (tail_n (Nat.le_of_ble_eq_true rfl)) tails_nil))) (DIp.b (dip_enum (dp_nm 0) B.b_enumerate)) (fun _ _ _ _ => (dgt_tup (n := 2) rfl (dgs_cons (dgt_name 3 nd_5) (dgs_cons (dgt_name 4 nd_5) dgs_nil)))) (fun _ _ _ _ => (dif_one (dt_cmp (op_neD hr.units) od_ne (dp_nm 3) (dp_nm 2) (nomark _)))) (fun _ _ _ _ => (dp_if (by decide) (dt_cmp op_gt od_B0 (dp_nm 4) (dp_nm 1) (nomark _)) (dp_sub (dp_nm 4) dp_int) (dp_nm 4)))) db_nil) (hv := by kernel_rfl))))
theorem sc_corner_taken : FnScope ["square", "c", "r", "way", "rings", "crosses", "full_column"] ["square", "c", "r"] (defScope s_corner_taken) := ⟨rfl, rfl, rfl, by decide +kernel, rfl, by decide +kernel, by decide +kernel⟩
def t_corner_taken : FX :=
  seqX (lfX (setF 3 (callF (nF 3 m_way_put) (consA (nmF 0) (consA (nmF 1) (consA (nmF 2) (nilA)))))))
  (seqX (ifX (toB (op2 (isF false) (nmF 3) (cst .non))) (raiX ⟨"NoMove", 0⟩ (consA (cst (.str "there is no corner to be taken out")) (nilA))) (lfX skip))
  (lfX (seqS (asgE (gT 2 (gsC (gN 4) (gsC (gN 5) (gsN)))) (pu (nmF 0)))
  (seqS (setF 6 (op2 ixD (callF (nF 3 m_free_and_full) (consA (nmF 1) (consA (nmF 2) (consA (nmF 3) (nilA))))) (cst (.int 2))))
  (retF (tupF (consA (callF (nF 3 m_rows_joined) (consA (nmF 4) (consA (nmF 2) (consA (nmF 6) (nilA))))) (consA (callF (nF 3 m_rows_joined) (consA (nmF 5) (consA (nmF 2) (consA (nmF 6) (nilA))))) (nilA)))))))))
def m_corner_taken : List D → Option (Except Ex D) := fnX .s 7 t_corner_taken
theorem k_corner_taken (B : Bt mg) (F : Df K mg "corner_taken" s_corner_taken ["square", "c", "r"]) (ET : Et K mg kx0 kx1 kx2 kx3 kx4 kx5 kx6 kx7 kx8 kx9) (c_way_put : Cl P w K mg base 3 "way_put" ["square", "c", "r"] (spP K .s 3 m_way_put)) (c_free_and_full : Cl P w K mg base 1 "free_and_full" ["c", "r", "way"] (spP K .s 3 m_free_and_full)) (c_rows_joined : Cl P w K mg base 1 "rows_joined" ["marks", "row", "column"] (spP K .s 3 m_rows_joined)) : ClX P w K mg base 4 "corner_taken" ["square", "c", "r"] (spX K .s 3 m_corner_taken) := by
  refine clx_pure (k := 3) F sc_corner_taken (by decide) rfl fun _ cdv A outer s H hid E hr => ?_
  exact (dssx_cons (dsx_lift (ds_setF 3 sc_corner_taken.nd (dp_cl c_way_put (hr.mono (by decide)) (da_cons (dp_nm 0) (da_cons (dp_nm 1) (da_cons (dp_nm 2) da_nil))))))
      (dssx_cons (dsx_if (DT.nox (dt_cmp op_is (od_is false) (dp_nm 3) dp_non (nomark _))) (dssx_one (dsx_raise (n := 0) (ET.t.row _ (List.Mem.tail _ (List.Mem.tail _ (List.Mem.head _)))).mg (ET.t.row _ (List.Mem.tail _ (List.Mem.tail _ (List.Mem.head _)))).ns ET.o_NoMove hr.hd (DA.nox (da_cons dp_str da_nil)))) dssx_nil)
      (dssx_lift (dss_cons (ds_asg (DP.ef (dp_nm 0)) (dgt_tup (n := 2) rfl (dgs_cons (dgt_name 4 sc_corner_taken.nd) (dgs_cons (dgt_name 5 sc_corner_taken.nd) dgs_nil))))
      (dss_cons (ds_setF 6 sc_corner_taken.nd (dp_ix ix_seq od_ix (dp_cl c_free_and_full (hr.mono (by decide)) (da_cons (dp_nm 1) (da_cons (dp_nm 2) (da_cons (dp_nm 3) da_nil)))) dp_int (fun _ _ => rfl)))
      (dss_one (ds_ret (dp_tup (da_cons (dp_cl c_rows_joined (hr.mono (by decide)) (da_cons (dp_nm 4) (da_cons (dp_nm 2) (da_cons (dp_nm 6) da_nil)))) (da_cons (dp_cl c_rows_joined (hr.mono (by decide)) (da_cons (dp_nm 5) (da_cons (dp_nm 2) (da_cons (dp_nm 6) da_nil)))) da_nil))))))))))
theorem sc_moved : FnScope ["square", "move", "kind"] ["square", "move"] (defScope s_moved) := ⟨rfl, rfl, rfl, by decide +kernel, rfl, by decide +kernel, by decide +kernel⟩
def t_moved : FX :=
  seqX (lfX (setF 2 (op2 ixD (nmF 1) (cst (.int 0)))))
  (seqX (lfX (ifS (toB (op2 eqF (nmF 2) (cst (.str "columns")))) (retF (callF (nF 2 m_columns_turned) (consA (nmF 0) (consA (op2 ixD (nmF 1) (cst (.int 1))) (nilA))))) (skip)))
  (seqX (lfX (ifS (toB (op2 eqF (nmF 2) (cst (.str "rows")))) (retF (callF (nF 2 m_rows_turned) (consA (nmF 0) (consA (op2 ixD (nmF 1) (cst (.int 1))) (nilA))))) (skip)))
  (seqX (lfX (ifS (toB (op2 eqF (nmF 2) (cst (.str "tip")))) (retF (callF (nF 1 m_tipped) (consA (nmF 0) (nilA)))) (skip)))
  (seqX (ifX (toB (op2 eqF (nmF 2) (cst (.str "swap")))) (retR (callR 2 m_columns_changed (puRA (consA (nmF 0) (consA (op2 ixD (nmF 1) (cst (.int 1))) (nilA)))))) (lfX skip))
  (seqX (ifX (toB (op2 eqF (nmF 2) (cst (.str "cross")))) (retR (callR 2 m_rows_changed (puRA (consA (nmF 0) (consA (op2 ixD (nmF 1) (cst (.int 1))) (nilA)))))) (lfX skip))
  (seqX (ifX (toB (op2 eqF (nmF 2) (cst (.str "put")))) (retR (callR 3 m_corner_put (puRA (consA (nmF 0) (consA (op2 ixD (nmF 1) (cst (.int 1))) (consA (op2 ixD (nmF 1) (cst (.int 2))) (nilA))))))) (lfX skip))
  (retR (callR 3 m_corner_taken (puRA (consA (nmF 0) (consA (op2 ixD (nmF 1) (cst (.int 1))) (consA (op2 ixD (nmF 1) (cst (.int 2))) (nilA)))))))))))))
def m_moved : List D → Option (Except Ex D) := fnX .s 3 t_moved
theorem k_moved (B : Bt mg) (F : Df K mg "moved" s_moved ["square", "move"]) (ET : Et K mg kx0 kx1 kx2 kx3 kx4 kx5 kx6 kx7 kx8 kx9) (c_corner_taken : ClX P w K mg base 4 "corner_taken" ["square", "c", "r"] (spX K .s 3 m_corner_taken)) (c_columns_turned : Cl P w K mg base 2 "columns_turned" ["square", "k"] (spP K .s 2 m_columns_turned)) (c_rows_turned : Cl P w K mg base 2 "rows_turned" ["square", "k"] (spP K .s 2 m_rows_turned)) (c_tipped : Cl P w K mg base 2 "tipped" ["square"] (spP K .s 1 m_tipped)) (c_columns_changed : ClX P w K mg base 3 "columns_changed" ["square", "c"] (spX K .s 2 m_columns_changed)) (c_rows_changed : ClX P w K mg base 4 "rows_changed" ["square", "r"] (spX K .s 2 m_rows_changed)) (c_corner_put : ClX P w K mg base 2 "corner_put" ["square", "c", "way"] (spX K .s 3 m_corner_put)) : ClX P w K mg base 5 "moved" ["square", "move"] (spX K .s 2 m_moved) := by
  refine clx_pure (k := 4) F sc_moved (by decide) rfl fun _ cdv A outer s H hid E hr => ?_
  exact (dssx_cons (dsx_lift (ds_setF 2 sc_moved.nd (dp_ix ix_seq od_ix (dp_nm 1) dp_int (fun _ _ => rfl))))
      (dssx_cons (dsx_lift (ds_if (dt_cmp (op_eqD hr.units) od_eq (dp_nm 2) dp_str (nomark _)) (dss_one (ds_ret (dp_cl c_columns_turned (hr.mono (by decide)) (da_cons (dp_nm 0) (da_cons (dp_ix ix_seq od_ix (dp_nm 1) dp_int (fun _ _ => rfl)) da_nil))))) dss_nil))
      (dssx_cons (dsx_lift (ds_if (dt_cmp (op_eqD hr.units) od_eq (dp_nm 2) dp_str (nomark _)) (dss_one (ds_ret (dp_cl c_rows_turned (hr.mono (by decide)) (da_cons (dp_nm 0) (da_cons (dp_ix ix_seq od_ix (dp_nm 1) dp_int (fun _ _ => rfl)) da_nil))))) dss_nil))
      (dssx_cons (dsx_lift (ds_if (dt_cmp (op_eqD hr.units) od_eq (dp_nm 2) dp_str (nomark _)) (dss_one (ds_ret (dp_cl c_tipped (hr.mono (by decide)) (da_cons (dp_nm 0) da_nil)))) dss_nil))
      (dssx_cons (dsx_if (DT.nox (dt_cmp (op_eqD hr.units) od_eq (dp_nm 2) dp_str (nomark _))) (dssx_one (dsx_ret (dr_cl c_columns_changed (hr.mono (by decide)) (DA.rr (DA.nox (da_cons (dp_nm 0) (da_cons (dp_ix ix_seq od_ix (dp_nm 1) dp_int (fun _ _ => rfl)) da_nil))))))) dssx_nil)
      (dssx_cons (dsx_if (DT.nox (dt_cmp (op_eqD hr.units) od_eq (dp_nm 2) dp_str (nomark _))) (dssx_one (dsx_ret (dr_cl c_rows_changed (hr.mono (by decide)) (DA.rr (DA.nox (da_cons (dp_nm 0) (da_cons (dp_ix ix_seq od_ix (dp_nm 1) dp_int (fun _ _ => rfl)) da_nil))))))) dssx_nil)
      (dssx_cons (dsx_if (DT.nox (dt_cmp (op_eqD hr.units) od_eq (dp_nm 2) dp_str (nomark _))) (dssx_one (dsx_ret (dr_cl c_corner_put (hr.mono (by decide)) (DA.rr (DA.nox (da_cons (dp_nm 0) (da_cons (dp_ix ix_seq od_ix (dp_nm 1) dp_int (fun _ _ => rfl)) (da_cons (dp_ix ix_seq od_ix (dp_nm 1) dp_int (fun _ _ => rfl)) da_nil)))))))) dssx_nil)
      (dssx_one (dsx_ret (dr_cl c_corner_taken (hr.mono (by decide)) (DA.rr (DA.nox (da_cons (dp_nm 0) (da_cons (dp_ix ix_seq od_ix (dp_nm 1) dp_int (fun _ _ => rfl)) (da_cons (dp_ix ix_seq od_ix (dp_nm 1) dp_int (fun _ _ => rfl)) da_nil)))))))))))))))
theorem sc_law_cell : FnScope ["_law_script", "_law_k"] ["_law_script", "_law_k"] (defScope s_law_cell) := ⟨rfl, rfl, rfl, by decide +kernel, rfl, by decide +kernel, by decide +kernel⟩
def t_law_cell : FS :=
  seqS (ifS (toB (op2 ltF (nmF 1) (callF lenD (consA (nmF 0) (nilA))))) (retF (op2 ixD (nmF 0) (nmF 1))) (skip))
  (retF (cst (.int 0)))
def m_law_cell : List D → Option D := fnP .s 2 t_law_cell
theorem k_law_cell (B : Bt mg) (F : Df K mg "_law_cell" s_law_cell ["_law_script", "_law_k"]) (ET : Et K mg kx0 kx1 kx2 kx3 kx4 kx5 kx6 kx7 kx8 kx9)  : Cl P w K mg base 1 "_law_cell" ["_law_script", "_law_k"] (spP K .s 2 m_law_cell) := by
  refine cl_pure (k := 0) F sc_law_cell (by decide) rfl fun _ cdv A outer s H hid E hr => ?_
  exact (dss_cons (ds_if (dt_cmp op_lt od_B0 (dp_nm 1) (dp_callB call_len_seq cd_len B.b_len (db_cons (dp_nm 0) db_nil) (hv := by kernel_rfl)) (nomark _)) (dss_one (ds_ret (dp_ix ix_seq od_ix (dp_nm 0) (dp_nm 1) (fun _ _ => rfl)))) dss_nil)
      (dss_one (ds_ret dp_int)))
theorem sc_law_bag : FnScope ["_law_script", "_law_at", "_law_cell_here", "_law_mix", "_law_k"] ["_law_script", "_law_at"] (defScope s_law_bag) := ⟨rfl, rfl, rfl, by decide +kernel, rfl, by decide +kernel, by decide +kernel⟩
def t_law_bag : FS :=
  seqS (setF 2 (op2 modF (callF absI (consA (callF (nF 2 m_law_cell) (consA (nmF 0) (consA (nmF 1) (nilA)))) (nilA))) (op2 mulF (op2 mulF (op2 powF (cst (.int 10)) (cst (.int 60))) (op2 powF (cst (.int 10)) (cst (.int 60)))) (op2 powF (cst (.int 10)) (cst (.int 60))))))
  (seqS (ifS (toB (op2 geF (nmF 2) (op2 powF (cst (.int 10)) (cst (.int 18))))) (retF (lstF (consA (nmF 2) (consA (cst (.int 0)) (nilA))))) (skip))
  (seqS (setF 3 (op2 modF (op2 addF (op2 addF (nmF 2) (op2 mulF (cst (.int 7919)) (nmF 1))) (cst (.int 17))) (cst (.int 2147483647))))
  (seqS (forS (puA (rngA1 (consA (callF min2D (consA (callF lenD (consA (nmF 0) (nilA))) (consA (cst (.int 9)) (nilA)))) (nilA)))) (gN 4) (setF 3 (op2 modF (op2 addF (op2 addF (op2 powF (nmF 3) (cst (.int 5))) (op2 modF (op2 ixD (nmF 0) (nmF 4)) (cst (.int 2147483629)))) (op2 mulF (cst (.int 31)) (nmF 4))) (cst (.int 2147483647)))))
  (retF (lstF (consA (nmF 3) (consA (cst (.int 1)) (nilA))))))))
def m_law_bag : List D → Option D := fnP .n 5 t_law_bag
theorem k_law_bag (B : Bt mg) (F : Df K mg "_law_bag" s_law_bag ["_law_script", "_law_at"]) (ET : Et K mg kx0 kx1 kx2 kx3 kx4 kx5 kx6 kx7 kx8 kx9) (c_law_cell : Cl P w K mg base 1 "_law_cell" ["_law_script", "_law_k"] (spP K .s 2 m_law_cell)) : Cl P w K mg base 2 "_law_bag" ["_law_script", "_law_at"] (spP K .n 2 m_law_bag) := by
  refine cl_pure (k := 1) F sc_law_bag (by decide) rfl fun _ cdv A outer s H hid E hr => ?_
  exact (dss_cons (ds_setF 2 sc_law_bag.nd (dp_mod (dp_callB call_abs cd_abs B.b_abs (db_cons (dp_cl c_law_cell (hr.mono (by decide)) (da_cons (dp_nm 0) (da_cons (dp_nm 1) da_nil))) db_nil) (hv := by kernel_rfl)) (dp_mul (dp_mul (dp_pow dp_int dp_int) (dp_pow dp_int dp_int)) (dp_pow dp_int dp_int))))
      (dss_cons (ds_if (dt_cmp op_ge od_B0 (dp_nm 2) (dp_pow dp_int dp_int) (nomark _)) (dss_one (ds_ret (dp_lst (da_cons (dp_nm 2) (da_cons dp_int da_nil))))) dss_nil)
      (dss_cons (ds_setF 3 sc_law_bag.nd (dp_mod (dp_add (dp_add (dp_nm 2) (dp_mul dp_int (dp_nm 1))) dp_int) dp_int))
      (dss_cons (ds_for PassesOwn.never rfl (DIp.e (dip_range1 B.b_range (da_cons (dp_callB (call_min2 rfl) cd_min2 B.b_min (db_cons (dp_callB call_len_seq cd_len B.b_len (db_cons (dp_nm 0) db_nil) (hv := by kernel_rfl)) (db_cons dp_int db_nil)) (hv := by kernel_rfl)) da_nil))) (dgt_name 4 sc_law_bag.nd) (dss_one (ds_setF 3 sc_law_bag.nd (dp_mod (dp_add (dp_add (dp_pow (dp_nm 3) dp_int) (dp_mod (dp_ix ix_seq od_ix (dp_nm 0) (dp_nm 4) (fun _ _ => rfl)) dp_int)) (dp_mul dp_int (dp_nm 4))) dp_int))))
      (dss_one (ds_ret (dp_lst (da_cons (dp_nm 3) (da_cons dp_int da_nil)))))))))
theorem sc_law_take : FnScope ["_law_bag_here", "_law_many", "_law_digit"] ["_law_bag_here", "_law_many"] (defScope s_law_take) := ⟨rfl, rfl, rfl, by decide +kernel, rfl, by decide +kernel, by decide +kernel⟩
def t_law_take : FS :=
  seqS (ifS (toB (op2 eqF (op2 ixD (nbF 0) (cst (.int 1))) (cst (.int 0)))) (seqS (setF 2 (op2 modF (op2 ixD (nbF 0) (cst (.int 0))) (nmF 1)))
  (seqS (asgE (setIx 0 (cst (.int 0))) (pu (op2 fdivF (op2 ixD (nbF 0) (cst (.int 0))) (nmF 1))))
  (retF (nmF 2)))) (skip))
  (seqS (asgE (setIx 0 (cst (.int 0))) (pu (op2 modF (op2 addF (op2 addF (op2 powF (op2 ixD (nbF 0) (cst (.int 0))) (cst (.int 5))) (op2 mulF (cst (.int 48271)) (op2 ixD (nbF 0) (cst (.int 1))))) (cst (.int 11))) (cst (.int 2147483647)))))
  (seqS (asgE (setIx 0 (cst (.int 1))) (pu (op2 addF (op2 ixD (nbF 0) (cst (.int 1))) (cst (.int 1)))))
  (retF (op2 modF (op2 fdivF (op2 modF (op2 mulF (op2 ixD (nbF 0) (cst (.int 0))) (cst (.int 69621))) (cst (.int 2147483629))) (cst (.int 8))) (nmF 1)))))
def m_law_take : List D → List D → Option (D × List D) := fnE .s 3 t_law_take
theorem k_law_take (B : Bt mg) (F : Df K mg "_law_take" s_law_take ["_law_bag_here", "_law_many"]) (ET : Et K mg kx0 kx1 kx2 kx3 kx4 kx5 kx6 kx7 kx8 kx9)  : Cl P w K mg base 1 "_law_take" ["_law_bag_here", "_law_many"] (spE K .s 1 m_law_take) := by
  refine cl_eff (k := 0) F sc_law_take (by decide) rfl fun _ cdv A outer s H hid a E hr => ?_
  exact (dss_cons (ds_if (dt_cmp (op_eqD hr.units) od_eq (dp_ix ix_seq od_ix (dp_nb 0) dp_int (fun _ _ => rfl)) dp_int (nomark _)) (dss_cons (ds_setF 2 sc_law_take.nd (dp_mod (dp_ix ix_seq od_ix (dp_nb 0) dp_int (fun _ _ => rfl)) (dp_nm 1)))
      (dss_cons (ds_put (DP.ef (dp_fdiv (dp_ix ix_seq od_ix (dp_nb 0) dp_int (fun _ _ => rfl)) (dp_nm 1))) (dht_sub 0 dp_int))
      (dss_one (ds_ret (dp_nm 2))))) dss_nil)
      (dss_cons (ds_put (DP.ef (dp_mod (dp_add (dp_add (dp_pow (dp_ix ix_seq od_ix (dp_nb 0) dp_int (fun _ _ => rfl)) dp_int) (dp_mul dp_int (dp_ix ix_seq od_ix (dp_nb 0) dp_int (fun _ _ => rfl)))) dp_int) dp_int)) (dht_sub 0 dp_int))
      (dss_cons (ds_put (DP.ef (dp_add (dp_ix ix_seq od_ix (dp_nb 0) dp_int (fun _ _ => rfl)) dp_int)) (dht_sub 0 dp_int))
      (dss_one (ds_ret (dp_mod (dp_fdiv (dp_mod (dp_mul (dp_ix ix_seq od_ix (dp_nb 0) dp_int (fun _ _ => rfl)) dp_int) dp_int) dp_int) (dp_nm 1)))))))
theorem sc_law_order : FnScope ["_law_bag_here", "_law_n", "_law_left", "_law_found"] ["_law_bag_here", "_law_n"] (defScope s_law_order) := ⟨rfl, rfl, rfl, by decide +kernel, rfl, by decide +kernel, by decide +kernel⟩
def t_law_order : FS :=
  seqS (ownF 2 (lr1 (nmF 1)))
  (seqS (ownF 3 (lstF (nilA)))
  (seqS (whL (toB (op2 neF (nbF 2) (lstF (nilA)))) (dropE (callE 3 1 appM (consG (callE 2 1 popM (consG (callE 0 1 m_law_take (puA (consA (callF lenD (consA (nbF 2) (nilA))) (nilA)))) (puA (nilA)))) (puA (nilA))))) 16)
  (retO 3)))
def m_law_order : List D → List D → Option (D × List D) := fnE .n 4 t_law_order
theorem k_law_order (B : Bt mg) (F : Df K mg "_law_order" s_law_order ["_law_bag_here", "_law_n"]) (ET : Et K mg kx0 kx1 kx2 kx3 kx4 kx5 kx6 kx7 kx8 kx9) (c_law_take : Cl P w K mg base 1 "_law_take" ["_law_bag_here", "_law_many"] (spE K .s 1 m_law_take)) : Cl P w K mg base 2 "_law_order" ["_law_bag_here", "_law_n"] (spE K .n 1 m_law_order) := by
  refine cl_eff (k := 1) F sc_law_order (by decide) rfl fun _ cdv A outer s H hid a E hr => ?_
  exact (dss_cons (ds_ownF 2 sc_law_order.nd (dp_listRange1 rfl B.b_list B.b_range (dp_nm 1)))
      (dss_cons (ds_ownF 3 sc_law_order.nd (dp_lst da_nil))
      (dss_cons (ds_while 16 PassesOwn.never (dt_cmp (op_neD hr.units) od_ne (dp_nb 2) (dp_lst da_nil) (nomark _)) (dss_one (ds_expr (de_meth 3 md_append mt_append PySem.F.slot_list_append PySem.F.type_list_append (dg_cons (de_meth 2 md_pop mt_popAt PySem.F.slot_list_pop PySem.F.type_list_pop (dg_cons (de_cl 0 c_law_take (hr.mono (by decide)) (DA.gf (da_cons (dp_callB call_len_seq cd_len B.b_len (db_cons (dp_nb 2) db_nil) (hv := by kernel_rfl)) da_nil))) (DA.gf da_nil))) (DA.gf da_nil))))))
      (dss_one (ds_retO 3)))))
theorem sc_law_square : FnScope ["_law_bag_here", "_law_n", "_law_plain", "_law_by", "_law_rings", "_law_crosses", "_law_c", "_law_d"] ["_law_bag_here", "_law_n"] (defScope s_law_square) := ⟨rfl, rfl, rfl, by decide +kernel, rfl, by decide +kernel, by decide +kernel⟩
def t_law_square : FS :=
  seqS (setE 2 (callE 0 1 m_law_take (puA (consA (cst (.int 4)) (nilA)))))
  (seqS (setE 3 (op2E addF (pu (cst (.int 1))) (callE 0 1 m_law_take (puA (consA (op2 subF (nmF 1) (cst (.int 1))) (nilA))))))
  (seqS (setE 4 (callE 0 1 m_law_order (puA (consA (nmF 1) (nilA)))))
  (seqS (ownE 5 (callE 0 1 m_law_order (puA (consA (nmF 1) (nilA)))))
  (seqS (ifS (toB (op2 eqF (nmF 2) (cst (.int 1)))) (seqS (setF 4 (lr1 (nmF 1)))
  (ownF 5 (compF 1 (seqA (nmF 4)) (gN 8) (yesT) (op2 modF (op2 addF (nmF 8) (nmF 3)) (nmF 1))))) (skip))
  (seqS (forS (puA (rngA1 (consA (nmF 1) (nilA)))) (gN 6) (seqS (setF 7 (op2 modF (op2 addF (nmF 6) (cst (.int 1))) (nmF 1)))
  (ifS (toB (op2 eqF (op2 ixD (nbF 5) (nmF 6)) (op2 ixD (nmF 4) (nmF 6)))) (asgE (gT 2 (gsC (setIx 5 (nmF 6)) (gsC (setIx 5 (nmF 7)) (gsN)))) (pu (tupF (consA (op2 ixD (nbF 5) (nmF 7)) (consA (op2 ixD (nbF 5) (nmF 6)) (nilA)))))) (skip))))
  (retF (tupF (consA (callF tupleD (consA (nmF 4) (nilA))) (consA (callF tupleD (consA (nbF 5) (nilA))) (nilA))))))))))
def m_law_square : List D → List D → Option (D × List D) := fnE .s 8 t_law_square
theorem k_law_square (B : Bt mg) (F : Df K mg "_law_square" s_law_square ["_law_bag_here", "_law_n"]) (ET : Et K mg kx0 kx1 kx2 kx3 kx4 kx5 kx6 kx7 kx8 kx9) (c_law_take : Cl P w K mg base 1 "_law_take" ["_law_bag_here", "_law_many"] (spE K .s 1 m_law_take)) (c_law_order : Cl P w K mg base 2 "_law_order" ["_law_bag_here", "_law_n"] (spE K .n 1 m_law_order)) : Cl P w K mg base 3 "_law_square" ["_law_bag_here", "_law_n"] (spE K .s 1 m_law_square) := by
  refine cl_eff (k := 2) F sc_law_square (by decide) rfl fun _ cdv A outer s H hid a E hr => ?_
  exact (dss_cons (ds_setE 2 sc_law_square.nd (de_cl 0 c_law_take (hr.mono (by decide)) (DA.gf (da_cons dp_int da_nil))))
      (dss_cons (ds_setE 3 sc_law_square.nd (de_add (DP.ef dp_int) (de_cl 0 c_law_take (hr.mono (by decide)) (DA.gf (da_cons (dp_sub (dp_nm 1) dp_int) da_nil)))))
      (dss_cons (ds_setE 4 sc_law_square.nd (DE.toS (de_cl 0 c_law_order (hr.mono (by decide)) (DA.gf (da_cons (dp_nm 1) da_nil)))))
      (dss_cons (ds_ownE 5 sc_law_square.nd (de_cl 0 c_law_order (hr.mono (by decide)) (DA.gf (da_cons (dp_nm 1) da_nil))))
      (dss_cons (ds_if (dt_cmp (op_eqD hr.units) od_eq (dp_nm 2) dp_int (nomark _)) (dss_cons (ds_setF 4 sc_law_square.nd (DP.toS (dp_listRange1 rfl B.b_list B.b_range (dp_nm 1))))
      (dss_one (ds_ownC 5 (N' := ["_law_bag_here", "_law_n", "_law_plain", "_law_by", "_law_rings", "_law_crosses", "_law_c", "_law_d", "_law_row"]) rfl sc_law_square.nd (tail_n (Nat.le_of_ble_eq_true rfl)) (DIp.b (dip_seq (dp_nm 4))) (fun _ _ _ _ => (dgt_name 8 nd_6)) (fun _ _ _ _ => dif_nil) (fun _ _ _ _ => (dp_mod (dp_add (dp_nm 8) (dp_nm 3)) (dp_nm 1)))))) dss_nil)
      (dss_cons (ds_for PassesOwn.never rfl (DIp.e (dip_range1 B.b_range (da_cons (dp_nm 1) da_nil))) (dgt_name 6 sc_law_square.nd) (dss_cons (ds_setF 7 sc_law_square.nd (dp_mod (dp_add (dp_nm 6) dp_int) (dp_nm 1)))
      (dss_one (ds_if (dt_cmp (op_eqD hr.units) od_eq (dp_ix ix_seq od_ix (dp_nb 5) (dp_nm 6) (fun _ _ => rfl)) (dp_ix ix_seq od_ix (dp_nm 4) (dp_nm 6) (fun _ _ => rfl)) (nomark _)) (dss_one (ds_put (DP.ef (dp_tup (da_cons (dp_ix ix_seq od_ix (dp_nb 5) (dp_nm 7) (fun _ _ => rfl)) (da_cons (dp_ix ix_seq od_ix (dp_nb 5) (dp_nm 6) (fun _ _ => rfl)) da_nil)))) (dht_tup (n := 2) rfl (dhs_cons (dht_sub 5 (dp_nm 6)) (dhs_cons (dht_sub 5 (dp_nm 7)) dhs_nil))))) dss_nil))))
      (dss_one (ds_ret (dp_tup (da_cons (dp_callTy call_tuple_of cd_tuple B.b_tuple (db_cons (dp_nm 4) db_nil) (hv := by kernel_rfl)) (da_cons (dp_callTy call_tuple_of cd_tuple B.b_tuple (db_cons (dp_nb 5) db_nil) (hv := by kernel_rfl)) da_nil)))))))))))
theorem sc_law_move : FnScope ["_law_bag_here", "_law_n", "_law_way", "_law_one", "_law_other", "_law_far", "_law_some"] ["_law_bag_here", "_law_n"] (defScope s_law_move) := ⟨rfl, rfl, rfl, by decide +kernel, rfl, by decide +kernel, by decide +kernel⟩
def t_law_move : FS :=
  seqS (setE 2 (callE 0 1 m_law_take (puA (consA (cst (.int 13)) (nilA)))))
  (seqS (setE 3 (op2E subF (callE 0 1 m_law_take (puA (consA (op2 addF (nmF 1) (cst (.int 2))) (nilA)))) (pu (cst (.int 1)))))
  (seqS (setE 4 (op2E subF (callE 0 1 m_law_take (puA (consA (op2 addF (nmF 1) (cst (.int 2))) (nilA)))) (pu (cst (.int 1)))))
  (seqS (setE 5 (op2E subF (callE 0 1 m_law_take (puA (consA (op2 mulF (cst (.int 2)) (op2 powF (cst (.int 10)) (cst (.int 11)))) (nilA)))) (pu (op2 powF (cst (.int 10)) (cst (.int 11))))))
  (seqS (setF 6 (lstF (consA (tupF (consA (cst (.str "columns")) (consA (nmF 3) (nilA)))) (consA (tupF (consA (cst (.str "rows")) (consA (nmF 4) (nilA)))) (consA (tupF (consA (cst (.str "tip")) (nilA))) (consA (tupF (consA (cst (.str "swap")) (consA (nmF 3) (nilA)))) (consA (tupF (consA (cst (.str "swap")) (consA (nmF 4) (nilA)))) (consA (tupF (consA (cst (.str "cross")) (consA (nmF 3) (nilA)))) (nilA)))))))))
  (seqS (setF 6 (op2 catLF (nmF 6) (lstF (consA (tupF (consA (cst (.str "cross")) (consA (nmF 4) (nilA)))) (consA (tupF (consA (cst (.str "put")) (consA (nmF 3) (consA (op2 modF (nmF 2) (cst (.int 4))) (nilA))))) (consA (tupF (consA (cst (.str "put")) (consA (nmF 4) (consA (nmF 3) (nilA))))) (consA (tupF (consA (cst (.str "take")) (consA (nmF 3) (consA (nmF 4) (nilA))))) (nilA))))))))
  (seqS (setF 6 (op2 catLF (nmF 6) (lstF (consA (tupF (consA (cst (.str "columns")) (consA (nmF 5) (nilA)))) (consA (tupF (consA (cst (.str "rows")) (consA (nmF 5) (nilA)))) (nilA))))))
  (retF (op2 ixD (op2 catLF (nmF 6) (lstF (consA (tupF (consA (cst (.str "take")) (consA (nmF 4) (consA (nmF 3) (nilA))))) (nilA)))) (nmF 2)))))))))
def m_law_move : List D → List D → Option (D × List D) := fnE .s 7 t_law_move
theorem k_law_move (B : Bt mg) (F : Df K mg "_law_move" s_law_move ["_law_bag_here", "_law_n"]) (ET : Et K mg kx0 kx1 kx2 kx3 kx4 kx5 kx6 kx7 kx8 kx9) (c_law_take : Cl P w K mg base 1 "_law_take" ["_law_bag_here", "_law_many"] (spE K .s 1 m_law_take)) : Cl P w K mg base 2 "_law_move" ["_law_bag_here", "_law_n"] (spE K .s 1 m_law_move) := by
  refine cl_eff (k := 1) F sc_law_move (by decide) rfl fun _ cdv A outer s H hid a E hr => ?_
  exact (QSs.to (qss_cons (QS.of (ds_setE 2 sc_law_move.nd (de_cl 0 c_law_take (hr.mono (by decide)) (DA.gf (da_cons dp_int da_nil)))))
      (qss_cons (QS.of (ds_setE 3 sc_law_move.nd (de_sub (de_cl 0 c_law_take (hr.mono (by decide)) (DA.gf (da_cons (dp_add (dp_nm 1) dp_int) da_nil))) (DP.ef dp_int))))
      (qss_cons (QS.of (ds_setE 4 sc_law_move.nd (de_sub (de_cl 0 c_law_take (hr.mono (by decide)) (DA.gf (da_cons (dp_add (dp_nm 1) dp_int) da_nil))) (DP.ef dp_int))))
      (qss_cons (QS.of (ds_setE 5 sc_law_move.nd (de_sub (de_cl 0 c_law_take (hr.mono (by decide)) (DA.gf (da_cons (dp_mul dp_int (dp_pow dp_int dp_int)) da_nil))) (DP.ef (dp_pow dp_int dp_int)))))
      (qss_cons (qs_setF 6 sc_law_move.nd (qp_lst (qa_cons (qp_tup (qa_cons (QP.of dp_str) (qa_cons (QP.of (dp_nm 3)) qa_nil))) (qa_cons (qp_tup (qa_cons (QP.of dp_str) (qa_cons (QP.of (dp_nm 4)) qa_nil))) (qa_cons (qp_tup (qa_cons (QP.of dp_str) qa_nil)) (qa_cons (qp_tup (qa_cons (QP.of dp_str) (qa_cons (QP.of (dp_nm 3)) qa_nil))) (qa_cons (qp_tup (qa_cons (QP.of dp_str) (qa_cons (QP.of (dp_nm 4)) qa_nil))) (qa_cons (qp_tup (qa_cons (QP.of dp_str) (qa_cons (QP.of (dp_nm 3)) qa_nil))) qa_nil se_tup) se_tup) se_tup) se_tup) se_tup) se_tup)))
      (qss_cons (qs_setF 6 sc_law_move.nd (qp_cat (QP.of (dp_nm 6)) (qp_lst (qa_cons (qp_tup (qa_cons (QP.of dp_str) (qa_cons (QP.of (dp_nm 4)) qa_nil))) (qa_cons (qp_tup (qa_cons (QP.of dp_str) (qa_cons (QP.of (dp_nm 3)) (qa_cons (QP.of (dp_mod (dp_nm 2) dp_int)) qa_nil)))) (qa_cons (qp_tup (qa_cons (QP.of dp_str) (qa_cons (QP.of (dp_nm 4)) (qa_cons (QP.of (dp_nm 3)) qa_nil)))) (qa_cons (qp_tup (qa_cons (QP.of dp_str) (qa_cons (QP.of (dp_nm 3)) (qa_cons (QP.of (dp_nm 4)) qa_nil)))) qa_nil se_tup) se_tup) se_tup) se_tup))))
      (qss_cons (qs_setF 6 sc_law_move.nd (qp_cat (QP.of (dp_nm 6)) (qp_lst (qa_cons (qp_tup (qa_cons (QP.of dp_str) (qa_cons (QP.of (dp_nm 5)) qa_nil))) (qa_cons (qp_tup (qa_cons (QP.of dp_str) (qa_cons (QP.of (dp_nm 5)) qa_nil))) qa_nil se_tup) se_tup))))
      (qss_one (QS.of (ds_ret (dp_ix ix_seq od_ix (dp_catL (dp_nm 6) (dp_lst (da_cons (dp_tup (da_cons dp_str (da_cons (dp_nm 4) (da_cons (dp_nm 3) da_nil)))) da_nil se_tup))) (dp_nm 2) (fun _ _ => rfl)))))))))))))
theorem sc_law_by_itself : FnScope ["_law_square_here", "_law_move_here", "_law_word"] ["_law_square_here", "_law_move_here"] (defScope s_law_by_itself) := ⟨rfl, rfl, rfl, by decide +kernel, rfl, by decide +kernel, by decide +kernel⟩
def t_law_by_itself : FX :=
  seqX (lfX (setF 2 (op2 ixD (nmF 1) (cst (.int 0)))))
  (seqX (lfX (ifS (toB (op2 eqF (nmF 2) (cst (.str "columns")))) (retF (callF (nF 2 m_columns_turned) (consA (nmF 0) (consA (op2 ixD (nmF 1) (cst (.int 1))) (nilA))))) (skip)))
  (seqX (lfX (ifS (toB (op2 eqF (nmF 2) (cst (.str "rows")))) (retF (callF (nF 2 m_rows_turned) (consA (nmF 0) (consA (op2 ixD (nmF 1) (cst (.int 1))) (nilA))))) (skip)))
  (seqX (lfX (ifS (toB (op2 eqF (nmF 2) (cst (.str "tip")))) (retF (callF (nF 1 m_tipped) (consA (nmF 0) (nilA)))) (skip)))
  (seqX (ifX (toB (op2 eqF (nmF 2) (cst (.str "swap")))) (retR (callR 2 m_columns_changed (puRA (consA (nmF 0) (consA (op2 ixD (nmF 1) (cst (.int 1))) (nilA)))))) (lfX skip))
  (seqX (ifX (toB (op2 eqF (nmF 2) (cst (.str "cross")))) (retR (callR 2 m_rows_changed (puRA (consA (nmF 0) (consA (op2 ixD (nmF 1) (cst (.int 1))) (nilA)))))) (lfX skip))
  (seqX (ifX (toB (op2 eqF (nmF 2) (cst (.str "put")))) (retR (callR 3 m_corner_put (puRA (consA (nmF 0) (consA (op2 ixD (nmF 1) (cst (.int 1))) (consA (op2 ixD (nmF 1) (cst (.int 2))) (nilA))))))) (lfX skip))
  (retR (callR 3 m_corner_taken (puRA (consA (nmF 0) (consA (op2 ixD (nmF 1) (cst (.int 1))) (consA (op2 ixD (nmF 1) (cst (.int 2))) (nilA)))))))))))))
def m_law_by_itself : List D → Option (Except Ex D) := fnX .s 3 t_law_by_itself
theorem k_law_by_itself (B : Bt mg) (F : Df K mg "_law_by_itself" s_law_by_itself ["_law_square_here", "_law_move_here"]) (ET : Et K mg kx0 kx1 kx2 kx3 kx4 kx5 kx6 kx7 kx8 kx9) (c_corner_taken : ClX P w K mg base 4 "corner_taken" ["square", "c", "r"] (spX K .s 3 m_corner_taken)) (c_columns_turned : Cl P w K mg base 2 "columns_turned" ["square", "k"] (spP K .s 2 m_columns_turned)) (c_rows_turned : Cl P w K mg base 2 "rows_turned" ["square", "k"] (spP K .s 2 m_rows_turned)) (c_tipped : Cl P w K mg base 2 "tipped" ["square"] (spP K .s 1 m_tipped)) (c_columns_changed : ClX P w K mg base 3 "columns_changed" ["square", "c"] (spX K .s 2 m_columns_changed)) (c_rows_changed : ClX P w K mg base 4 "rows_changed" ["square", "r"] (spX K .s 2 m_rows_changed)) (c_corner_put : ClX P w K mg base 2 "corner_put" ["square", "c", "way"] (spX K .s 3 m_corner_put)) : ClX P w K mg base 5 "_law_by_itself" ["_law_square_here", "_law_move_here"] (spX K .s 2 m_law_by_itself) := by
  refine clx_pure (k := 4) F sc_law_by_itself (by decide) rfl fun _ cdv A outer s H hid E hr => ?_
  exact (dssx_cons (dsx_lift (ds_setF 2 sc_law_by_itself.nd (dp_ix ix_seq od_ix (dp_nm 1) dp_int (fun _ _ => rfl))))
      (dssx_cons (dsx_lift (ds_if (dt_cmp (op_eqD hr.units) od_eq (dp_nm 2) dp_str (nomark _)) (dss_one (ds_ret (dp_cl c_columns_turned (hr.mono (by decide)) (da_cons (dp_nm 0) (da_cons (dp_ix ix_seq od_ix (dp_nm 1) dp_int (fun _ _ => rfl)) da_nil))))) dss_nil))
      (dssx_cons (dsx_lift (ds_if (dt_cmp (op_eqD hr.units) od_eq (dp_nm 2) dp_str (nomark _)) (dss_one (ds_ret (dp_cl c_rows_turned (hr.mono (by decide)) (da_cons (dp_nm 0) (da_cons (dp_ix ix_seq od_ix (dp_nm 1) dp_int (fun _ _ => rfl)) da_nil))))) dss_nil))
      (dssx_cons (dsx_lift (ds_if (dt_cmp (op_eqD hr.units) od_eq (dp_nm 2) dp_str (nomark _)) (dss_one (ds_ret (dp_cl c_tipped (hr.mono (by decide)) (da_cons (dp_nm 0) da_nil)))) dss_nil))
      (dssx_cons (dsx_if (DT.nox (dt_cmp (op_eqD hr.units) od_eq (dp_nm 2) dp_str (nomark _))) (dssx_one (dsx_ret (dr_cl c_columns_changed (hr.mono (by decide)) (DA.rr (DA.nox (da_cons (dp_nm 0) (da_cons (dp_ix ix_seq od_ix (dp_nm 1) dp_int (fun _ _ => rfl)) da_nil))))))) dssx_nil)
      (dssx_cons (dsx_if (DT.nox (dt_cmp (op_eqD hr.units) od_eq (dp_nm 2) dp_str (nomark _))) (dssx_one (dsx_ret (dr_cl c_rows_changed (hr.mono (by decide)) (DA.rr (DA.nox (da_cons (dp_nm 0) (da_cons (dp_ix ix_seq od_ix (dp_nm 1) dp_int (fun _ _ => rfl)) da_nil))))))) dssx_nil)
      (dssx_cons (dsx_if (DT.nox (dt_cmp (op_eqD hr.units) od_eq (dp_nm 2) dp_str (nomark _))) (dssx_one (dsx_ret (dr_cl c_corner_put (hr.mono (by decide)) (DA.rr (DA.nox (da_cons (dp_nm 0) (da_cons (dp_ix ix_seq od_ix (dp_nm 1) dp_int (fun _ _ => rfl)) (da_cons (dp_ix ix_seq od_ix (dp_nm 1) dp_int (fun _ _ => rfl)) da_nil)))))))) dssx_nil)
      (dssx_one (dsx_ret (dr_cl c_corner_taken (hr.mono (by decide)) (DA.rr (DA.nox (da_cons (dp_nm 0) (da_cons (dp_ix ix_seq od_ix (dp_nm 1) dp_int (fun _ _ => rfl)) (da_cons (dp_ix ix_seq od_ix (dp_nm 1) dp_int (fun _ _ => rfl)) da_nil)))))))))))))))
theorem sc_law_class : FnScope ["_law_e", "_law_others"] ["_law_e"] (defScope s_law_class) := ⟨rfl, rfl, rfl, by decide +kernel, rfl, by decide +kernel, by decide +kernel⟩
def t_law_class : FS :=
  seqS (setF 1 (asD (or2 (toB (isEF 0 exN ["NoSquare", "NoPart", "NotOne", "NoPaper", "NoText", "NoRow", "NoStep"])) (toB (asD (not1 (toB (isEV 0 exN))))))))
  (seqS (ifS (or2 (tru1 (nmF 1)) (toB (op2 eqF (isEF 0 exN ["NoMove"]) (isEF 0 exN ["TooMany"])))) (retF (cst (.str "another"))) (skip))
  (retF (op2 ixD (lstF (consA (cst (.str "too many")) (consA (cst (.str "no move")) (nilA)))) (callF intF (consA (isEF 0 exN ["NoMove"]) (nilA))))))
def m_law_class : Ex → Option D := fnU 2 t_law_class
theorem k_law_class (B : Bt mg) (F : Df K mg "_law_class" s_law_class ["_law_e"]) (ET : Et K mg kx0 kx1 kx2 kx3 kx4 kx5 kx6 kx7 kx8 kx9)  : ClU P w K mg base 1 "_law_class" ["_law_e"] (spU K .s m_law_class) := by
  refine clu_exc (k := 0) F sc_law_class fun _ cdv A outer s H hid E hr => ?_
  exact (dss_cons (ds_setF 1 sc_law_class.nd (dp_or (dp_isET ET.t 0 (qs := [("NoSquare", kx1), ("NoPart", kx4), ("NotOne", kx5), ("NoPaper", kx6), ("NoText", kx7), ("NoRow", kx8), ("NoStep", kx9)]) rfl (mem_cons (List.Mem.tail _ (List.Mem.head _)) (mem_cons (List.Mem.tail _ (List.Mem.tail _ (List.Mem.tail _ (List.Mem.tail _ (List.Mem.head _))))) (mem_cons (List.Mem.tail _ (List.Mem.tail _ (List.Mem.tail _ (List.Mem.tail _ (List.Mem.tail _ (List.Mem.head _)))))) (mem_cons (List.Mem.tail _ (List.Mem.tail _ (List.Mem.tail _ (List.Mem.tail _ (List.Mem.tail _ (List.Mem.tail _ (List.Mem.head _))))))) (mem_cons (List.Mem.tail _ (List.Mem.tail _ (List.Mem.tail _ (List.Mem.tail _ (List.Mem.tail _ (List.Mem.tail _ (List.Mem.tail _ (List.Mem.head _)))))))) (mem_cons (List.Mem.tail _ (List.Mem.tail _ (List.Mem.tail _ (List.Mem.tail _ (List.Mem.tail _ (List.Mem.tail _ (List.Mem.tail _ (List.Mem.tail _ (List.Mem.head _))))))))) (mem_cons (List.Mem.tail _ (List.Mem.tail _ (List.Mem.tail _ (List.Mem.tail _ (List.Mem.tail _ (List.Mem.tail _ (List.Mem.tail _ (List.Mem.tail _ (List.Mem.tail _ (List.Mem.head _)))))))))) (mem_nil)))))))) (pks_cons (ET.t.row _ (List.Mem.tail _ (List.Mem.head _))).mg (pks_cons (ET.t.row _ (List.Mem.tail _ (List.Mem.tail _ (List.Mem.tail _ (List.Mem.tail _ (List.Mem.head _)))))).mg (pks_cons (ET.t.row _ (List.Mem.tail _ (List.Mem.tail _ (List.Mem.tail _ (List.Mem.tail _ (List.Mem.tail _ (List.Mem.head _))))))).mg (pks_cons (ET.t.row _ (List.Mem.tail _ (List.Mem.tail _ (List.Mem.tail _ (List.Mem.tail _ (List.Mem.tail _ (List.Mem.tail _ (List.Mem.head _)))))))).mg (pks_cons (ET.t.row _ (List.Mem.tail _ (List.Mem.tail _ (List.Mem.tail _ (List.Mem.tail _ (List.Mem.tail _ (List.Mem.tail _ (List.Mem.tail _ (List.Mem.head _))))))))).mg (pks_cons (ET.t.row _ (List.Mem.tail _ (List.Mem.tail _ (List.Mem.tail _ (List.Mem.tail _ (List.Mem.tail _ (List.Mem.tail _ (List.Mem.tail _ (List.Mem.tail _ (List.Mem.head _)))))))))).mg (pks_cons (ET.t.row _ (List.Mem.tail _ (List.Mem.tail _ (List.Mem.tail _ (List.Mem.tail _ (List.Mem.tail _ (List.Mem.tail _ (List.Mem.tail _ (List.Mem.tail _ (List.Mem.tail _ (List.Mem.head _))))))))))).mg pks_nil))))))) (Nat.le_of_ble_eq_true rfl) B.b_isinstance) (dp_one (dp_not (dp_isEV ET.t 0 rfl B.b_isinstance B.b_ValueError)))))
      (dss_cons (ds_if (DW.dt (dw_or (dt_val (dp_nm 1)) (dw_or1 (dt_cmp (op_eqD hr.units) od_eq (dp_isE1 ET.t 0 rfl (List.Mem.tail _ (List.Mem.tail _ (List.Mem.head _))) B.b_isinstance) (dp_isE1 ET.t 0 rfl (List.Mem.tail _ (List.Mem.tail _ (List.Mem.tail _ (List.Mem.head _)))) B.b_isinstance) (nomark _))))) (dss_one (ds_ret dp_str)) dss_nil)
      (dss_one (ds_ret (dp_ix ix_seq od_ix (dp_lst (da_cons dp_str (da_cons dp_str da_nil))) (dp_callTy call_int1 cd_int B.b_int (db_cons (dp_isE1 ET.t 0 rfl (List.Mem.tail _ (List.Mem.tail _ (List.Mem.head _))) B.b_isinstance) db_nil) (hv := by kernel_rfl)) (fun _ _ => rfl))))))
theorem sc_law_told : FnScope ["_law_square_here", "_law_move_here", "_law_e"] ["_law_square_here", "_law_move_here"] (defScope s_law_told) := ⟨rfl, rfl, rfl, by decide +kernel, rfl, by decide +kernel, by decide +kernel⟩
def t_law_told : FS :=
  tryA 2 exN ["RookError"] (retR (callR 2 m_moved (puRA (consA (nmF 0) (consA (nmF 1) (nilA)))))) (retF (exS 2 m_law_class))
def m_law_told : List D → Option D := fnP .s 3 t_law_told
theorem k_law_told (B : Bt mg) (F : Df K mg "_law_told" s_law_told ["_law_square_here", "_law_move_here"]) (ET : Et K mg kx0 kx1 kx2 kx3 kx4 kx5 kx6 kx7 kx8 kx9) (c_moved : ClX P w K mg base 5 "moved" ["square", "move"] (spX K .s 2 m_moved)) (c_law_class : ClU P w K mg base 1 "_law_class" ["_law_e"] (spU K .s m_law_class)) : Cl P w K mg base 6 "_law_told" ["_law_square_here", "_law_move_here"] (spP K .s 2 m_law_told) := by
  refine cl_pure (k := 5) F sc_law_told (by decide) rfl fun _ cdv A outer s H hid E hr => ?_
  exact (dss_one (ds_tryAs 2 sc_law_told.nd ⟨rfl, rfl⟩ (fun _ _ => (dssx_one (dsx_ret (dr_cl c_moved (hr.mono (by decide)) (DA.rr (DA.nox (da_cons (dp_nm 0) (da_cons (dp_nm 1) da_nil)))))))) (cat_one ET.t rfl (List.Mem.head _)) (fun _ => (dss_one (ds_ret (dp_clU 2 c_law_class ((hr.u.mono (by decide)).mark _)))))))
theorem sc_law_due : FnScope ["_law_square_here", "_law_move_here", "_law_e"] ["_law_square_here", "_law_move_here"] (defScope s_law_due) := ⟨rfl, rfl, rfl, by decide +kernel, rfl, by decide +kernel, by decide +kernel⟩
def t_law_due : FS :=
  tryA 2 exN ["RookError"] (retR (callR 2 m_law_by_itself (puRA (consA (nmF 0) (consA (nmF 1) (nilA)))))) (retF (exS 2 m_law_class))
def m_law_due : List D → Option D := fnP .s 3 t_law_due
theorem k_law_due (B : Bt mg) (F : Df K mg "_law_due" s_law_due ["_law_square_here", "_law_move_here"]) (ET : Et K mg kx0 kx1 kx2 kx3 kx4 kx5 kx6 kx7 kx8 kx9) (c_law_by_itself : ClX P w K mg base 5 "_law_by_itself" ["_law_square_here", "_law_move_here"] (spX K .s 2 m_law_by_itself)) (c_law_class : ClU P w K mg base 1 "_law_class" ["_law_e"] (spU K .s m_law_class)) : Cl P w K mg base 6 "_law_due" ["_law_square_here", "_law_move_here"] (spP K .s 2 m_law_due) := by
  refine cl_pure (k := 5) F sc_law_due (by decide) rfl fun _ cdv A outer s H hid E hr => ?_
  exact (dss_one (ds_tryAs 2 sc_law_due.nd ⟨rfl, rfl⟩ (fun _ _ => (dssx_one (dsx_ret (dr_cl c_law_by_itself (hr.mono (by decide)) (DA.rr (DA.nox (da_cons (dp_nm 0) (da_cons (dp_nm 1) da_nil)))))))) (cat_one ET.t rfl (List.Mem.head _)) (fun _ => (dss_one (ds_ret (dp_clU 2 c_law_class ((hr.u.mono (by decide)).mark _)))))))
theorem sc_law : FnScope ["_law_script", "_law_k", "_law_bag_here", "_law_square_here", "_law_turn", "_law_move_here", "_law_found"] ["_law_script"] (defScope s_law) := ⟨rfl, rfl, rfl, by decide +kernel, rfl, by decide +kernel, by decide +kernel⟩
def t_law : FS :=
  seqS (forS (puA (rngA1 (consA (callF max2D (consA (cst (.int 1)) (consA (callF min2D (consA (cst (.int 4)) (consA (callF lenD (consA (nmF 0) (nilA))) (nilA)))) (nilA)))) (nilA)))) (gN 1) (seqS (ownF 2 (callF (nF 2 m_law_bag) (consA (nmF 0) (consA (nmF 1) (nilA)))))
  (seqS (setE 3 (callE 2 1 m_law_square (consG (op2E addF (pu (cst (.int 2))) (callE 2 1 m_law_take (puA (consA (cst (.int 5)) (nilA))))) (puA (nilA)))))
  (forS (puA (rngA1 (consA (cst (.int 12)) (nilA)))) (gN 4) (seqS (setE 5 (callE 2 1 m_law_move (puA (consA (callF lenD (consA (op2 ixD (nmF 3) (cst (.int 0))) (nilA))) (nilA)))))
  (seqS (setF 6 (callF (nF 2 m_law_told) (consA (nmF 3) (consA (nmF 5) (nilA)))))
  (seqS (ifS (or2 (toB (op2 eqF (nmF 6) (cst (.str "another")))) (toB (op2 neF (nmF 6) (callF (nF 2 m_law_due) (consA (nmF 3) (consA (nmF 5) (nilA))))))) (retF (cst (.bl false))) (skip))
  (ifS (tru1 (isiF "tuple" (nmF 6))) (setF 3 (nmF 6)) (skip)))))))))
  (retF (cst (.bl true)))
def m_law : List D → Option D := fnP .s 7 t_law
theorem kf_law {f : Addr} {fd : FuncData} (B : Bt mg) (F : Fun K "law" "law" s_law f fd) (ET : Et K mg kx0 kx1 kx2 kx3 kx4 kx5 kx6 kx7 kx8 kx9) (c_law_bag : Cl P w K mg base 2 "_law_bag" ["_law_script", "_law_at"] (spP K .n 2 m_law_bag)) (c_law_square : Cl P w K mg base 3 "_law_square" ["_law_bag_here", "_law_n"] (spE K .s 1 m_law_square)) (c_law_move : Cl P w K mg base 2 "_law_move" ["_law_bag_here", "_law_n"] (spE K .s 1 m_law_move)) (c_law_told : Cl P w K mg base 6 "_law_told" ["_law_square_here", "_law_move_here"] (spP K .s 2 m_law_told)) (c_law_take : Cl P w K mg base 1 "_law_take" ["_law_bag_here", "_law_many"] (spE K .s 1 m_law_take)) (c_law_due : Cl P w K mg base 6 "_law_due" ["_law_square_here", "_law_move_here"] (spP K .s 2 m_law_due)) : FnOk P w K mg base CX0 7 f fd ["_law_script"] (spP K .s 1 m_law) := by
  refine fn_pure (k := 6) F sc_law (by decide) fun cdv A outer s H hid E hr => ?_
  exact (dss_cons (ds_for PassesOwn.never rfl (DIp.e (dip_range1 B.b_range (da_cons (dp_callB (call_max2 rfl) cd_max2 B.b_max (db_cons dp_int (db_cons (dp_callB (call_min2 rfl) cd_min2 B.b_min (db_cons dp_int (db_cons (dp_callB call_len_seq cd_len B.b_len (db_cons (dp_nm 0) db_nil) (hv := by kernel_rfl)) db_nil)) (hv := by kernel_rfl)) db_nil)) (hv := by kernel_rfl)) da_nil))) (dgt_name 1 sc_law.nd) (dss_cons (ds_ownF 2 sc_law.nd (dp_cl c_law_bag (hr.mono (by decide)) (da_cons (dp_nm 0) (da_cons (dp_nm 1) da_nil))))
      (dss_cons (ds_setE 3 sc_law.nd (de_cl 2 c_law_square (hr.mono (by decide)) (dg_cons (de_add (DP.ef dp_int) (de_cl 2 c_law_take (hr.mono (by decide)) (DA.gf (da_cons dp_int da_nil)))) (DA.gf da_nil))))
      (dss_one (ds_for PassesOwn.never rfl (DIp.e (dip_range1 B.b_range (da_cons dp_int da_nil))) (dgt_name 4 sc_law.nd) (dss_cons (ds_setE 5 sc_law.nd (de_cl 2 c_law_move (hr.mono (by decide)) (DA.gf (da_cons (dp_callB call_len_seq cd_len B.b_len (db_cons (dp_ix ix_seq od_ix (dp_nm 3) dp_int (fun _ _ => rfl)) db_nil) (hv := by kernel_rfl)) da_nil))))
      (dss_cons (ds_setF 6 sc_law.nd (dp_cl c_law_told (hr.mono (by decide)) (da_cons (dp_nm 3) (da_cons (dp_nm 5) da_nil))))
      (dss_cons (ds_if (DW.dt (dw_or (dt_cmp (op_eqD hr.units) od_eq (dp_nm 6) dp_str (nomark _)) (dw_or1 (dt_cmp (op_neD hr.units) od_ne (dp_nm 6) (dp_cl c_law_due (hr.mono (by decide)) (da_cons (dp_nm 3) (da_cons (dp_nm 5) da_nil))) (nomark _))))) (dss_one (ds_ret dp_bl)) dss_nil)
      (dss_one (ds_if (dt_val (dp_isi "tuple" kt_tuple (dp_nm 6) B.b_isinstance B.b_tuple)) (dss_one (ds_setF 3 sc_law.nd (dp_nm 6))) dss_nil))))))))))
      (dss_one (ds_ret dp_bl)))
end
end L2
set_option Elab.async false
set_option linter.all false
set_option maxRecDepth 100000
set_option maxHeartbeats 4000000
namespace L2
open PySem PySem.Spec PyProof.Rows
end L2
set_option Elab.async false
set_option linter.all false
set_option maxRecDepth 100000
set_option maxHeartbeats 4000000
namespace L2
open PySem PySem.Spec PyProof.Rows
section
variable {n a b : Nat} {r o : List Nat} (O : Ord n o) (R : Ord n r) (ha : a < n) (hb : b < n) (ne : a ≠ b)
include O R ha hb ne
end
section
variable {n a b : Nat} {o : List Nat} (O : Ord n o) (ha : a < n) (hb : b < n) (ne : a ≠ b)
include O ha hb ne
end
end L2
set_option Elab.async false
set_option linter.all false
set_option maxRecDepth 100000
set_option maxHeartbeats 4000000
namespace L2
open PySem PySem.Spec PyProof.Rows
def rotL (xs : List Nat) (k : Int) : List Nat := (List.range xs.length).map fun (i : Nat) => xs.getD (((i : Int) - k) % xs.length).toNat 0
def raiL (xs : List Nat) (k : Int) : List Nat := xs.map fun (v : Nat) => (((v : Int) + k) % xs.length).toNat
theorem rotL_len (xs : List Nat) (k : Int) : (rotL xs k).length = xs.length := by simp [rotL]
theorem raiL_len (xs : List Nat) (k : Int) : (raiL xs k).length = xs.length := by simp [raiL]
theorem rotL_get (xs : List Nat) (k : Int) {i : Nat} (h : i < xs.length) : (rotL xs k).getD i 0 = xs.getD (((i : Int) - k) % xs.length).toNat 0 := by
  simp [rotL, List.getD, h]
theorem raiL_get (xs : List Nat) (k : Int) {i : Nat} (h : i < xs.length) : (raiL xs k).getD i 0 = ((((xs.getD i 0 : Nat) : Int) + k) % xs.length).toNat := by
  simp [raiL, List.getD, h]
theorem sigma_perm {n : Nat} (h : 0 < n) (a : Int) : ((List.range n).map fun (i : Nat) => (((i : Int) + a) % n).toNat).Perm (List.range n) := by
  refine (List.perm_ext_iff_of_nodup ?_ List.nodup_range).mpr fun j => ?_
  · show List.Pairwise (· ≠ ·) _
    rw [List.pairwise_map]
    refine List.Pairwise.imp_of_mem (fun {i j} hi hj hlt e => ?_) List.pairwise_lt_range
    rw [List.mem_range] at hi hj
    have m1 := ixm ((i : Int) + a) h
    have m2 := ixm ((j : Int) + a) h
    have : ((i : Int) + a) % n = ((j : Int) + a) % n := by omega
    rw [Int.emod_add_cancel_right, Int.emod_eq_of_lt (by omega) (by omega), Int.emod_eq_of_lt (by omega) (by omega)] at this
    omega
  · rw [List.mem_map, List.mem_range]
    constructor
    · rintro ⟨i, _, rfl⟩; exact (ixm _ h).1
    · intro hj
      have m := ixm ((j : Int) - a) h
      refine ⟨(((j : Int) - a) % n).toNat, by rw [List.mem_range]; exact m.1, ?_⟩
      rw [m.2, Int.emod_add_emod, show (j : Int) - a + a = j by omega, Int.emod_eq_of_lt (by omega) (by omega)]
      rfl
/-! places moved round -/
def shN (n : Nat) (k : Int) (v : Nat) : Nat := (((v : Int) + k) % n).toNat
structure Mv (n : Nat) (t : Nat → Nat) : Prop where
  lt : ∀ c, c < n → t c < n
  inj : ∀ c d, c < n → d < n → t c = t d → c = d
  sur : ∀ c, c < n → ∃ d, d < n ∧ t d = c
  inb : ∀ s e v, s < n → e < n → v < n → inB n (t s) (t e) (t v) = inB n s e v
theorem mv_id (n : Nat) : Mv n id := ⟨fun _ h => h, fun _ _ _ _ h => h, fun c h => ⟨c, h, rfl⟩, fun _ _ _ _ _ _ => rfl⟩
theorem mv_sh {n : Nat} (h : 0 < n) (k : Int) : Mv n (shN n k) := by
  have cast : ∀ v : Nat, ((shN n k v : Nat) : Int) = ((v : Int) + k) % n := fun v => (ixm _ h).2
  have df : ∀ u v : Nat, ((shN n k u : Int) - shN n k v) % n = ((u : Int) - v) % n := fun u v => by
    rw [cast, cast, ← Int.sub_emod, show (u : Int) + k - (v + k) = u - v by omega]
  refine ⟨fun c _ => (ixm _ h).1, fun c d hc hd e => ?_, fun c hc => ?_, fun s e v _ _ _ => ?_⟩
  · have := df c d
    rw [e, Int.sub_self, Int.zero_emod] at this
    obtain ⟨m, hm⟩ := Int.dvd_of_emod_eq_zero this.symm
    have : m = 0 := by
      rcases Int.lt_trichotomy m 0 with q | q | q
      · have : (n : Int) * m ≤ n * (-1) := Int.mul_le_mul_of_nonneg_left (by omega) (by omega)
        omega
      · exact q
      · have : (n : Int) * 1 ≤ n * m := Int.mul_le_mul_of_nonneg_left (by omega) (by omega)
        omega
    rw [this] at hm
    omega
  · have := (sigma_perm h k).mem_iff.mpr (List.mem_range.mpr hc)
    obtain ⟨d, hd, e⟩ := List.mem_map.mp this
    exact ⟨d, List.mem_range.mp hd, e⟩
  · unfold inB
    rw [df, df]
theorem ord_of {n : Nat} {o : List Nat} (hl : o.length = n) (lt : ∀ c, c < n → o.getD c 0 < n) (inj : ∀ c d, c < n → d < n → o.getD c 0 = o.getD d 0 → c = d) (sur : ∀ v, v < n → ∃ c, c < n ∧ o.getD c 0 = v) : Ord n o := by
  refine ⟨(List.perm_ext_iff_of_nodup ?_ List.nodup_range).mpr fun v => ?_⟩
  · rw [List.Nodup, List.pairwise_iff_getElem]
    intro i j hi hj ij e
    have := inj i j (by omega) (by omega) (by rw [List.getD_eq_getElem?_getD, List.getElem?_eq_getElem hi, List.getD_eq_getElem?_getD, List.getElem?_eq_getElem hj]; exact e)
    omega
  · rw [List.mem_range]
    constructor
    · intro h
      obtain ⟨i, hi, rfl⟩ := List.getElem_of_mem h
      have := lt i (by omega)
      rw [List.getD_eq_getElem?_getD, List.getElem?_eq_getElem hi] at this
      exact this
    · intro h
      obtain ⟨c, hc, e⟩ := sur v h
      rw [List.getD_eq_getElem?_getD, List.getElem?_eq_getElem (by omega)] at e
      have e : o[c] = v := e
      exact e ▸ List.getElem_mem _
theorem rot_sh {n : Nat} {o : List Nat} (hl : o.length = n) (h : 0 < n) (k : Int) {c : Nat} (hc : c < n) : (rotL o k).getD (shN n k c) 0 = o.getD c 0 := by
  rw [rotL_get o k (by rw [hl]; exact (ixm _ h).1), hl]
  have : (((shN n k c : Nat) : Int) - k) % n = c := by
    rw [show ((shN n k c : Nat) : Int) = ((c : Int) + k) % n from (ixm _ h).2, Int.sub_emod, Int.emod_emod, ← Int.sub_emod, show (c : Int) + k - k = c by omega]
    exact Int.emod_eq_of_lt (by omega) (by omega)
  rw [this]; rfl
theorem rai_sh {n : Nat} {o : List Nat} (hl : o.length = n) (k : Int) {c : Nat} (hc : c < n) : (raiL o k).getD c 0 = shN n k (o.getD c 0) := by
  rw [raiL_get o k (by omega), hl]; rfl
theorem Ord.mv {n : Nat} {o o' : List Nat} {t u : Nat → Nat} (O : Ord n o) (T : Mv n t) (U : Mv n u) (hl : o'.length = n) (h : ∀ c, c < n → o'.getD (t c) 0 = u (o.getD c 0)) : Ord n o' := by
  refine ord_of hl (fun c hc => ?_) (fun c d hc hd e => ?_) fun v hv => ?_
  · obtain ⟨c', hc', rfl⟩ := T.sur c hc
    rw [h c' hc']; exact U.lt _ (O.get hc')
  · obtain ⟨c', hc', rfl⟩ := T.sur c hc
    obtain ⟨d', hd', rfl⟩ := T.sur d hd
    rw [h c' hc', h d' hd'] at e
    rw [O.inj hc' hd' (U.inj _ _ (O.get hc') (O.get hd') e)]
  · obtain ⟨w, hw, rfl⟩ := U.sur v hv
    obtain ⟨c, hc, e⟩ : ∃ c, c < n ∧ o.getD c 0 = w := by
      obtain ⟨i, hi, e⟩ := List.getElem_of_mem (O.has hw)
      exact ⟨i, by rw [← O.len]; exact hi, by rw [List.getD_eq_getElem?_getD, List.getElem?_eq_getElem hi]; exact e⟩
    exact ⟨t c, T.lt c hc, by rw [h c hc, e]⟩
/-! steps -/
/-! tipped -/
def tipL (o : List Nat) : List Nat := (List.range o.length).map fun v => o.idxOf v
theorem idx_get {n : Nat} {o : List Nat} (O : Ord n o) {v : Nat} (hv : v < n) : o.idxOf v < n ∧ o.getD (o.idxOf v) 0 = v := by
  have hi := List.idxOf_lt_length_of_mem (O.has hv)
  refine ⟨by rw [← O.len]; exact hi, ?_⟩
  rw [List.getD_eq_getElem?_getD, List.getElem?_eq_getElem hi, List.getElem_idxOf]; rfl
theorem idx_of {n : Nat} {o : List Nat} (O : Ord n o) {c : Nat} (hc : c < n) : o.idxOf (o.getD c 0) = c := O.inj (idx_get O (O.get hc)).1 hc (idx_get O (O.get hc)).2
theorem tip_len (o : List Nat) : (tipL o).length = o.length := by simp [tipL]
theorem tip_get {n : Nat} {o : List Nat} (O : Ord n o) {v : Nat} (hv : v < n) : (tipL o).getD v 0 = o.idxOf v := by
  unfold tipL
  rw [List.getD_eq_getElem?_getD, List.getElem?_map, List.getElem?_range (by rw [O.len]; exact hv)]; rfl
theorem tip_at {n : Nat} {o : List Nat} (O : Ord n o) {c : Nat} (hc : c < n) : (tipL o).getD (o.getD c 0) 0 = c := by rw [tip_get O (O.get hc), idx_of O hc]
theorem Ord.tip {n : Nat} {o : List Nat} (O : Ord n o) : Ord n (tipL o) := by
  refine ord_of (by rw [tip_len, O.len]) (fun v hv => ?_) (fun v w hv hw e => ?_) fun c hc => ⟨o.getD c 0, O.get hc, tip_at O hc⟩
  · rw [tip_get O hv]; exact (idx_get O hv).1
  · rw [tip_get O hv, tip_get O hw] at e
    rw [← (idx_get O hv).2, e, (idx_get O hw).2]
/-! the steps as pairs, in order -/
def sp (n : Nat) (P : Nat → Nat → Bool) : List (Nat × Nat) := (List.range n).flatMap fun a => ((List.range n).filter fun b => decide (a ≠ b) && P a b).map fun b => (a, b)
def kk (p : Nat × Nat) : List Int := [(p.1 : Int), (p.2 : Int)]
end L2
set_option Elab.async false
set_option linter.all false
set_option maxRecDepth 100000
set_option maxHeartbeats 4000000
namespace L2
open PySem PySem.Spec PyProof.Rows
theorem findN (v : Nat) : ∀ l : List Nat, v ∈ l → ∃ j, (l.map nI).findIdx? (fun d => eqD d (nI v)) = some j ∧ j < l.length ∧ l.getD j 0 = v
  | [], h => absurd h List.not_mem_nil
  | y :: l, h => by
    rw [List.map_cons, List.findIdx?_cons, eqD_nI]
    by_cases e : y = v
    · exact ⟨0, by simp [e], by simp, by simpa using e⟩
    · obtain ⟨j, h1, h2, h3⟩ := findN v l ((List.mem_cons.mp h).resolve_left (Ne.symm e))
      refine ⟨j + 1, by simp [e, h1], by simp [h2], by simpa using h3⟩
/-- from the column on to the next one of its line -/
structure Sg (n : Nat) (r x : List Nat) (S : Nat → Nat) : Prop where
  ev : ∀ y, y < n → tidxF (tupN x) (nI (r.getD y 0)) = some (nI (S y))
  lt : ∀ y, y < n → S y < n
  inj : ∀ y z, y < n → z < n → S y = S z → y = z
def itS (S : Nat → Nat) : Nat → Nat → Nat
  | 0, s => s
  | k + 1, s => S (itS S k s)
def rch (S : Nat → Nat) (s z : Nat) : Prop := ∃ k, itS S k s = z
theorem rch_refl (S : Nat → Nat) (s : Nat) : rch S s s := ⟨0, rfl⟩
theorem rch_step {S : Nat → Nat} {s z : Nat} (h : rch S s z) : rch S s (S z) := let ⟨k, e⟩ := h; ⟨k + 1, by show S (itS S k s) = _; rw [e]⟩
/-- a walk from s on, not yet back -/
structure Wlk (n : Nat) (S : Nat → Nat) (s : Nat) (W : List Nat) (t : Nat) : Prop where
  nd : W.Nodup
  lt : ∀ z ∈ W, z < n
  hs : s ∈ W
  ht : t ∈ W
  pre : ∀ z ∈ W, z ≠ s → ∃ y ∈ W, y ≠ t ∧ S y = z
  nxt : ∀ z ∈ W, z ≠ t → S z ∈ W
  on : ∀ z ∈ W, rch S s z
  back : ∀ z ∈ W, rch S z t
/-- a whole line -/
structure Cyc (n : Nat) (S : Nat → Nat) (s : Nat) (W : List Nat) : Prop where
  lt : ∀ z ∈ W, z < n
  mem : ∀ z, z ∈ W ↔ rch S s z
  back : ∀ z, z ∈ W → rch S z s
section
variable {n : Nat} {r x : List Nat} {S : Nat → Nat} (H : Sg n r x S)
theorem Wlk.start {s : Nat} (hs : s < n) : Wlk n S s [s] s :=
  ⟨by simp, fun z hz => by rw [List.mem_singleton] at hz; rw [hz]; exact hs, by simp, by simp, fun z hz hn => absurd (List.mem_singleton.mp hz) hn, fun z hz hn => absurd (List.mem_singleton.mp hz) hn, fun z hz => by rw [List.mem_singleton] at hz; rw [hz]; exact rch_refl S s, fun z hz => by rw [List.mem_singleton] at hz; rw [hz]; exact rch_refl S s⟩
include H
theorem Wlk.notin {s t : Nat} {W : List Nat} (w : Wlk n S s W t) (h : S t ≠ s) : S t ∉ W := fun hm => by
  obtain ⟨y, y1, y2, y3⟩ := w.pre _ hm h
  exact y2 (H.inj _ _ (w.lt _ y1) (w.lt _ w.ht) y3)
theorem Wlk.next {s t : Nat} {W : List Nat} (w : Wlk n S s W t) (h : S t ≠ s) : Wlk n S s (W ++ [S t]) (S t) := by
  have hm := w.notin H h
  have cs : ∀ {P : Nat → Prop}, (∀ z ∈ W, P z) → P (S t) → ∀ z ∈ W ++ [S t], P z := fun h1 h2 z hz => (List.mem_append.mp hz).elim (h1 z) fun q => by rw [List.mem_singleton] at q; rw [q]; exact h2
  refine ⟨List.nodup_append.mpr ⟨w.nd, by simp, fun u hu v hv => by rw [List.mem_singleton] at hv; subst hv; exact fun e => hm (e ▸ hu)⟩, cs w.lt (H.lt _ (w.lt _ w.ht)), List.mem_append_left _ w.hs, by simp, cs (fun z hz hn => ?_) (fun _ => ⟨t, List.mem_append_left _ w.ht, fun e => hm (e ▸ w.ht), rfl⟩), cs (fun z hz hn => ?_) (fun q => absurd rfl q), cs w.on (rch_step (w.on _ w.ht)), cs (fun z hz => rch_step (w.back z hz)) (rch_refl S _)⟩
  · obtain ⟨y, y1, _, y3⟩ := w.pre z hz hn
    exact ⟨y, List.mem_append_left _ y1, fun e => hm (e ▸ y1), y3⟩
  · by_cases e : z = t
    · subst e; simp
    · exact List.mem_append_left _ (w.nxt z hz e)
omit H in
theorem Wlk.done {s t : Nat} {W : List Nat} (w : Wlk n S s W t) (h : S t = s) : Cyc n S s W := by
  refine ⟨w.lt, fun z => ⟨w.on z, ?_⟩, fun z hz => h ▸ rch_step (w.back z hz)⟩
  rintro ⟨k, rfl⟩
  induction k with
  | zero => exact w.hs
  | succ k ih =>
    show S (itS S k s) ∈ W
    by_cases e : itS S k s = t
    · rw [e, h]; exact w.hs
    · exact w.nxt _ ih e
end
/-- the least of its line -/
def led (S : Nat → Nat) (s : Nat) : Prop := ∀ z, rch S s z → s ≤ z
end L2
set_option Elab.async false
set_option linter.all false
set_option maxRecDepth 100000
set_option maxHeartbeats 4000000
namespace L2
open PySem PySem.Spec PyProof.Rows
def tC_order_turned : FS :=
  seqS (setF 2 (callF lenD (consA (nmF 0) (nilA))))
  (retF (callF tupleD (consA (compF 1 (rngA1 (consA (nmF 2) (nilA))) (gN 3) (yesT) (op2 ixD (nmF 0) (op2 modF (op2 subF (nmF 3) (nmF 1)) (nmF 2)))) (nilA))))
def mC_order_turned : List D → Option D := fnP .s 3 tC_order_turned
def tC_order_raised : FS :=
  seqS (setF 2 (callF lenD (consA (nmF 0) (nilA))))
  (retF (callF tupleD (consA (compF 1 (seqA (nmF 0)) (gN 3) (yesT) (op2 modF (op2 addF (nmF 3) (nmF 1)) (nmF 2))) (nilA))))
def mC_order_raised : List D → Option D := fnP .s 3 tC_order_raised
def tC_order_tipped : FS :=
  retF (callF tupleD (consA (compF 1 (rngA1 (consA (callF lenD (consA (nmF 0) (nilA))) (nilA))) (gN 1) (yesT) (op2 tidxF (nmF 0) (nmF 1))) (nilA)))
def mC_order_tipped : List D → Option D := fnP .s 1 tC_order_tipped
def tC_lies_between : FS :=
  retF (ch3 ltF ltF (callF min2D (consA (nmF 1) (consA (nmF 2) (nilA)))) (nmF 0) (callF max2D (consA (nmF 1) (consA (nmF 2) (nilA)))))
def mC_lies_between : List D → Option D := fnP .s 3 tC_lies_between
def tC_columns_turned : FS :=
  seqS (asgE (gT 2 (gsC (gN 2) (gsC (gN 3) (gsN)))) (pu (nmF 0)))
  (retF (tupF (consA (callF (nF 2 mC_order_turned) (consA (nmF 2) (consA (nmF 1) (nilA)))) (consA (callF (nF 2 mC_order_turned) (consA (nmF 3) (consA (nmF 1) (nilA)))) (nilA)))))
def mC_columns_turned : List D → Option D := fnP .s 4 tC_columns_turned
def tC_rows_turned : FS :=
  seqS (asgE (gT 2 (gsC (gN 2) (gsC (gN 3) (gsN)))) (pu (nmF 0)))
  (retF (tupF (consA (callF (nF 2 mC_order_raised) (consA (nmF 2) (consA (nmF 1) (nilA)))) (consA (callF (nF 2 mC_order_raised) (consA (nmF 3) (consA (nmF 1) (nilA)))) (nilA)))))
def mC_rows_turned : List D → Option D := fnP .s 4 tC_rows_turned
def tC_tipped : FS :=
  seqS (asgE (gT 2 (gsC (gN 1) (gsC (gN 2) (gsN)))) (pu (nmF 0)))
  (retF (tupF (consA (callF (nF 1 mC_order_tipped) (consA (nmF 1) (nilA))) (consA (callF (nF 1 mC_order_tipped) (consA (nmF 2) (nilA))) (nilA)))))
def mC_tipped : List D → Option D := fnP .s 3 tC_tipped
def tC_may_change : FS :=
  seqS (asgE (gT 2 (gsC (gN 2) (gsC (gN 3) (gsN)))) (pu (nmF 0)))
  (seqS (ifS (not1 (toB (ch3 leF leF (cst (.int 0)) (nmF 1) (op2 subF (callF lenD (consA (nmF 2) (nilA))) (cst (.int 2)))))) (retF (cst (.bl false))) (skip))
  (seqS (setF 4 (tupF (consA (op2 ixD (nmF 2) (nmF 1)) (consA (op2 ixD (nmF 3) (nmF 1)) (nilA)))))
  (seqS (setF 5 (tupF (consA (op2 ixD (nmF 2) (op2 addF (nmF 1) (cst (.int 1)))) (consA (op2 ixD (nmF 3) (op2 addF (nmF 1) (cst (.int 1)))) (nilA)))))
  (seqS (ifS (or2 (toB (op2 (inF false) (op2 ixD (nmF 4) (cst (.int 0))) (nmF 5))) (toB (op2 (inF false) (op2 ixD (nmF 4) (cst (.int 1))) (nmF 5)))) (retF (cst (.bl false))) (skip))
  (seqS (setF 6 (compF 1 (seqA (nmF 5)) (gN 7) (tru1 (callF (nF 3 mC_lies_between) (consA (nmF 7) (consA (op2 ixD (nmF 4) (cst (.int 0))) (consA (op2 ixD (nmF 4) (cst (.int 1))) (nilA)))))) (nmF 7)))
  (retF (op2 neF (callF lenD (consA (nmF 6) (nilA))) (cst (.int 1)))))))))
def mC_may_change : List D → Option D := fnP .s 7 tC_may_change
def tC_columns_changed : FX :=
  seqX (ifX (not1 (tru1 (callF (nF 2 mC_may_change) (consA (nmF 0) (consA (nmF 1) (nilA)))))) (raiX ⟨"NoMove", 0⟩ (consA (cst (.str "these columns may not be exchanged")) (nilA))) (lfX skip))
  (lfX (seqS (asgE (gT 2 (gsC (gN 2) (gsC (gN 3) (gsN)))) (pu (nmF 0)))
  (retF (tupF (consA (callF (nF 3 mC_order_exchanged) (consA (nmF 2) (consA (nmF 1) (consA (op2 addF (nmF 1) (cst (.int 1))) (nilA))))) (consA (callF (nF 3 mC_order_exchanged) (consA (nmF 3) (consA (nmF 1) (consA (op2 addF (nmF 1) (cst (.int 1))) (nilA))))) (nilA)))))))
def mC_columns_changed : List D → Option (Except Ex D) := fnX .s 4 tC_columns_changed
def tC_rows_changed : FX :=
  retR (callPR 1 mC_tipped (consR (callR 2 mC_columns_changed (puRA (consA (callF (nF 1 mC_tipped) (consA (nmF 0) (nilA))) (consA (nmF 1) (nilA))))) (puRA (nilA))))
def mC_rows_changed : List D → Option (Except Ex D) := fnX .s 2 tC_rows_changed
def tC_is_way : FS :=
  retF (ch3 leF ltF (cst (.int 0)) (nmF 0) (cst (.int 4)))
def mC_is_way : List D → Option D := fnP .s 1 tC_is_way
def tC_free_and_full : FS :=
  seqS (parF 3 4 (consA (op2 modF (nmF 2) (cst (.int 2))) (consA (op2 fdivF (nmF 2) (cst (.int 2))) (nilA))))
  (retF (tupF (consA (op2 addF (nmF 0) (nmF 3)) (consA (op2 addF (nmF 1) (nmF 4)) (consA (op2 subF (op2 addF (nmF 0) (cst (.int 1))) (nmF 3)) (consA (op2 subF (op2 addF (nmF 1) (cst (.int 1))) (nmF 4)) (nilA)))))))
def mC_free_and_full : List D → Option D := fnP .s 5 tC_free_and_full
def tC_row_parted : FS :=
  seqS (ifS (toB (op2 eqF (nmF 0) (nmF 1))) (retF (nmF 2)) (skip))
  (retF (ifF (toB (op2 gtF (nmF 0) (nmF 1))) (op2 addF (nmF 0) (cst (.int 1))) (nmF 0)))
def mC_row_parted : List D → Option D := fnP .s 3 tC_row_parted
def tC_corner_put : FX :=
  seqX (lfX (asgE (gT 2 (gsC (gN 3) (gsC (gN 4) (gsN)))) (pu (nmF 0))))
  (seqX (ifX (or2 (not1 (toB (ch3 leF ltF (cst (.int 0)) (nmF 1) (callF lenD (consA (nmF 3) (nilA)))))) (not1 (tru1 (callF (nF 1 mC_is_way) (consA (nmF 2) (nilA)))))) (raiX ⟨"NoMove", 0⟩ (consA (cst (.str "there is no such column or way")) (nilA))) (lfX skip))
  (seqX (ifX (toB (op2 geF (callF lenD (consA (nmF 3) (nilA))) (cst (.int 6)))) (raiX ⟨"TooMany", 0⟩ (consA (cst (.str "the square has no room for a corner")) (nilA))) (lfX skip))
  (lfX (seqS (setF 5 (op2 ixD (nmF 4) (nmF 1)))
  (seqS (asgE (gT 4 (gsC (gN 6) (gsC (gN 7) (gsC (gN 8) (gsC (gN 9) (gsN)))))) (pu (callF (nF 3 mC_free_and_full) (consA (nmF 1) (consA (nmF 5) (consA (nmF 2) (nilA)))))))
  (seqS (ownF 10 (compF 1 (seqA (nmF 3)) (gN 12) (yesT) (callF (nF 3 mC_row_parted) (consA (nmF 12) (consA (nmF 5) (consA (nmF 7) (nilA)))))))
  (seqS (ownF 11 (compF 1 (seqA (nmF 4)) (gN 12) (yesT) (callF (nF 3 mC_row_parted) (consA (nmF 12) (consA (nmF 5) (consA (nmF 9) (nilA)))))))
  (seqS (dropE (callE 10 2 insM (puA (consA (nmF 8) (consA (nmF 9) (nilA))))))
  (seqS (dropE (callE 11 2 insM (puA (consA (nmF 8) (consA (nmF 7) (nilA))))))
  (retF (tupF (consA (callF tupleD (consA (nbF 10) (nilA))) (consA (callF tupleD (consA (nbF 11) (nilA))) (nilA))))))))))))))
def mC_corner_put : List D → Option (Except Ex D) := fnX .s 12 tC_corner_put
def tC_is_put : FS :=
  seqS (asgE (gT 2 (gsC (gN 4) (gsC (gN 5) (gsN)))) (pu (nmF 0)))
  (seqS (asgE (gT 4 (gsC (gN 6) (gsC (gN 7) (gsC (gN 8) (gsC (gN 9) (gsN)))))) (pu (callF (nF 3 mC_free_and_full) (consA (nmF 1) (consA (nmF 2) (consA (nmF 3) (nilA)))))))
  (seqS (ifS (toB (op2 neF (tupF (consA (op2 ixD (nmF 4) (nmF 8)) (consA (op2 ixD (nmF 5) (nmF 8)) (nilA)))) (tupF (consA (nmF 9) (consA (nmF 7) (nilA)))))) (retF (cst (.bl false))) (skip))
  (retF (asD (and2 (toB (op2 eqF (op2 ixD (nmF 5) (nmF 6)) (nmF 9))) (toB (op2 neF (op2 ixD (nmF 4) (nmF 6)) (nmF 7))))))))
def mC_is_put : List D → Option D := fnP .s 10 tC_is_put
def tC_way_put : FS :=
  seqS (setF 3 (op2 subF (callF lenD (consA (op2 ixD (nmF 0) (cst (.int 0))) (nilA))) (cst (.int 2))))
  (seqS (ifS (or2 (not1 (toB (ch3 leF leF (cst (.int 0)) (nmF 1) (nmF 3)))) (not1 (toB (ch3 leF leF (cst (.int 0)) (nmF 2) (nmF 3))))) (retF (cst .non)) (skip))
  (seqS (forS (puA (rngA1 (consA (cst (.int 4)) (nilA)))) (gN 4) (ifS (tru1 (callF (nF 4 mC_is_put) (consA (nmF 0) (consA (nmF 1) (consA (nmF 2) (consA (nmF 4) (nilA))))))) (retF (nmF 4)) (skip)))
  (retF (cst .non))))
def mC_way_put : List D → Option D := fnP .s 5 tC_way_put
def tC_rows_joined : FS :=
  retF (callF tupleD (consA (compF 2 (enuA (nmF 0)) (gT 2 (gsC (gN 3) (gsC (gN 4) (gsN)))) (toB (op2 neF (nmF 3) (nmF 2))) (ifF (toB (op2 gtF (nmF 4) (nmF 1))) (op2 subF (nmF 4) (cst (.int 1))) (nmF 4))) (nilA)))
def mC_rows_joined : List D → Option D := fnP .s 3 tC_rows_joined
def tC_corner_taken : FX :=
  seqX (lfX (setF 3 (callF (nF 3 mC_way_put) (consA (nmF 0) (consA (nmF 1) (consA (nmF 2) (nilA)))))))
  (seqX (ifX (toB (op2 (isF false) (nmF 3) (cst .non))) (raiX ⟨"NoMove", 0⟩ (consA (cst (.str "there is no corner to be taken out")) (nilA))) (lfX skip))
  (lfX (seqS (asgE (gT 2 (gsC (gN 4) (gsC (gN 5) (gsN)))) (pu (nmF 0)))
  (seqS (setF 6 (op2 ixD (callF (nF 3 mC_free_and_full) (consA (nmF 1) (consA (nmF 2) (consA (nmF 3) (nilA))))) (cst (.int 2))))
  (retF (tupF (consA (callF (nF 3 mC_rows_joined) (consA (nmF 4) (consA (nmF 2) (consA (nmF 6) (nilA))))) (consA (callF (nF 3 mC_rows_joined) (consA (nmF 5) (consA (nmF 2) (consA (nmF 6) (nilA))))) (nilA)))))))))
def mC_corner_taken : List D → Option (Except Ex D) := fnX .s 7 tC_corner_taken
def tC_moved : FX :=
  seqX (lfX (setF 2 (op2 ixD (nmF 1) (cst (.int 0)))))
  (seqX (lfX (ifS (toB (op2 eqF (nmF 2) (cst (.str "columns")))) (retF (callF (nF 2 mC_columns_turned) (consA (nmF 0) (consA (op2 ixD (nmF 1) (cst (.int 1))) (nilA))))) (skip)))
  (seqX (lfX (ifS (toB (op2 eqF (nmF 2) (cst (.str "rows")))) (retF (callF (nF 2 mC_rows_turned) (consA (nmF 0) (consA (op2 ixD (nmF 1) (cst (.int 1))) (nilA))))) (skip)))
  (seqX (lfX (ifS (toB (op2 eqF (nmF 2) (cst (.str "tip")))) (retF (callF (nF 1 mC_tipped) (consA (nmF 0) (nilA)))) (skip)))
  (seqX (ifX (toB (op2 eqF (nmF 2) (cst (.str "swap")))) (retR (callR 2 mC_columns_changed (puRA (consA (nmF 0) (consA (op2 ixD (nmF 1) (cst (.int 1))) (nilA)))))) (lfX skip))
  (seqX (ifX (toB (op2 eqF (nmF 2) (cst (.str "cross")))) (retR (callR 2 mC_rows_changed (puRA (consA (nmF 0) (consA (op2 ixD (nmF 1) (cst (.int 1))) (nilA)))))) (lfX skip))
  (seqX (ifX (toB (op2 eqF (nmF 2) (cst (.str "put")))) (retR (callR 3 mC_corner_put (puRA (consA (nmF 0) (consA (op2 ixD (nmF 1) (cst (.int 1))) (consA (op2 ixD (nmF 1) (cst (.int 2))) (nilA))))))) (lfX skip))
  (retR (callR 3 mC_corner_taken (puRA (consA (nmF 0) (consA (op2 ixD (nmF 1) (cst (.int 1))) (consA (op2 ixD (nmF 1) (cst (.int 2))) (nilA)))))))))))))
def mC_moved : List D → Option (Except Ex D) := fnX .s 3 tC_moved
/-! what a mirror that may raise answers -/
theorem seqX_nx {t u : FX} {ρ ρ' : Rho} (h : t ρ = .ok (.nx ρ')) : seqX t u ρ = u ρ' := by unfold seqX; rw [h]
theorem seqX_rt {t u : FX} {ρ ρ' : Rho} {d : D} (h : t ρ = .ok (.rt d ρ')) : seqX t u ρ = .ok (.rt d ρ') := by unfold seqX; rw [h]
theorem seqX_er {t u : FX} {ρ : Rho} {z : Ex × Rho} (h : t ρ = .error z) : seqX t u ρ = .error z := by unfold seqX; rw [h]
theorem lfX_at {t : FS} {ρ : Rho} {o : Out} (h : t ρ = o) : lfX t ρ = .ok o := by unfold lfX; rw [h]
theorem ifX_t {p : FT} {t u : FX} {ρ : Rho} (h : p ρ = some true) : ifX p t u ρ = t ρ := by unfold ifX; rw [h]
theorem ifX_f {p : FT} {t u : FX} {ρ : Rho} (h : p ρ = some false) : ifX p t u ρ = u ρ := by unfold ifX; rw [h]
theorem ifX_sk {p : FT} {t : FX} {ρ : Rho} (h : p ρ = some false) : ifX p t (lfX skip) ρ = .ok (.nx ρ) := (ifX_f h).trans rfl
theorem retR_ok {f : RE} {ρ : Rho} {d : D} (h : f ρ = some (.ok d)) : retR f ρ = .ok (.rt d ρ) := by unfold retR; rw [h]
theorem retR_er {f : RE} {ρ : Rho} {z : Ex} (h : f ρ = some (.error z)) : retR f ρ = .error (z, ρ) := by unfold retR; rw [h]
theorem fnX_ok {kd : Kd} {n : Nat} {t : FX} {ds : List D} {ρ : Rho} {d : D} (h : t (rho0 n ds) = .ok (.rt d ρ)) : fnX kd n t ds = some (.ok d) := by unfold fnX; rw [h]
theorem fnX_er {kd : Kd} {n : Nat} {t : FX} {ds : List D} {z : Ex × Rho} (h : t (rho0 n ds) = .error z) : fnX kd n t ds = some (.error z.1) := by unfold fnX; rw [h]
theorem fnX_e2 {kd : Kd} {n : Nat} {t : FX} {ds : List D} {z : Ex} (h : ∃ ρ, t (rho0 n ds) = .error (z, ρ)) : fnX kd n t ds = some (.error z) := by obtain ⟨ρ, h⟩ := h; exact fnX_er h
theorem callR_at {n : Nat} {P : List D → Option (Except Ex D)} {fs : RA} {ρ : Rho} {ds : List D} (h : fs ρ = some (.ok ds)) (hl : ds.length = n) : callR n P fs ρ = P ds := by unfold callR; rw [h]; exact if_pos hl
theorem callR_er {n : Nat} {P : List D → Option (Except Ex D)} {fs : RA} {ρ : Rho} {z : Ex} (h : fs ρ = some (.error z)) : callR n P fs ρ = some (.error z) := by unfold callR; rw [h]; rfl
theorem puRA_at {f : FA} {ρ : Rho} {ds : List D} (h : f ρ = some ds) : puRA f ρ = some (.ok ds) := by unfold puRA; rw [h]; rfl
theorem consR_ok {f : RE} {fs : RA} {ρ : Rho} {d : D} {ds : List D} (h : f ρ = some (.ok d)) (h2 : fs ρ = some (.ok ds)) : consR f fs ρ = some (.ok (d :: ds)) := by unfold consR; rw [h]; dsimp only [Option.bind]; rw [h2]; rfl
theorem consR_er {f : RE} {fs : RA} {ρ : Rho} {z : Ex} (h : f ρ = some (.error z)) : consR f fs ρ = some (.error z) := by unfold consR; rw [h]; rfl
theorem fnX_r {kd : Kd} {n : Nat} {t : FX} {ds : List D} {ρ : Rho} {f : RE} {r : Except Ex D} (h : t (rho0 n ds) = retR f ρ) (h2 : f ρ = some r) : fnX kd n t ds = some r := by
  cases r with
  | ok d => exact fnX_ok (h.trans (retR_ok h2))
  | error z => exact fnX_er (h.trans (retR_er h2))
theorem ifS_sk {p : FT} {t : FS} {ρ : Rho} (h : p ρ = some false) : ifS p t skip ρ = .nx ρ := (ifS_f h).trans rfl
theorem ch3_mk {F G : D → D → Option D} {f g h : FE} {ρ : Rho} {x y z : D} {p q : Bool} (h1 : f ρ = some x) (h2 : g ρ = some y) (h3 : F x y = some (.bl p)) (h4 : h ρ = some z) (h5 : G y z = some (.bl q)) : ch3 F G f g h ρ = some (.bl (p && q)) := by
  unfold ch3
  rw [h1, Option.bind_some, h2, Option.bind_some, h3]
  show (if p = true then _ else _) = _
  cases p with
  | true => rw [if_pos rfl, h4]; exact h5
  | false => rfl
theorem or2_bb {p q : FT} {ρ : Rho} {a b : Bool} (h1 : p ρ = some a) (h2 : q ρ = some b) : or2 p q ρ = some (a || b) := by
  cases a with
  | true => exact or2_t h1
  | false => exact or2_at h1 h2
theorem ifF_t {p : FT} {f g : FE} {ρ : Rho} (h : p ρ = some true) : ifF p f g ρ = f ρ := by unfold ifF; rw [h]; rfl
theorem ifF_f {p : FT} {f g : FE} {ρ : Rho} (h : p ρ = some false) : ifF p f g ρ = g ρ := by unfold ifF; rw [h]; rfl
theorem seqA_t {f : FE} {ρ : Rho} {ds : List D} (h : f ρ = some (.tup ds)) : seqA f ρ = some ds := by unfold seqA; rw [h]; rfl
theorem Ord.exM {n : Nat} {o : List Nat} (O : Ord n o) {a b : Nat} (ha : a < n) (hb : b < n) : Ord n (exO o a b) := ⟨(swap_perm o a b (by rw [O.len]; exact ha) (by rw [O.len]; exact hb)).trans O.perm⟩
theorem Ord.rot {n : Nat} {o : List Nat} (O : Ord n o) (h : 0 < n) (k : Int) : Ord n (rotL o k) := O.mv (mv_sh h k) (mv_id n) (by rw [rotL_len, O.len]) fun c hc => rot_sh O.len h k hc
theorem Ord.rai {n : Nat} {o : List Nat} (O : Ord n o) (h : 0 < n) (k : Int) : Ord n (raiL o k) := O.mv (mv_id n) (mv_sh h k) (by rw [raiL_len, O.len]) fun c hc => rai_sh O.len k hc
theorem inT2 (v a b : Nat) : inF false (nI v) (.tup [nI a, nI b]) = some (.bl (decide (v = a) || decide (v = b))) := by
  unfold inF itemsD
  dsimp only
  rw [show deps [nI a, nI b] = 0 from deps_N [a, b], if_pos (by omega)]
  show some (D.bl _) = _
  congr 2
  rw [List.any_cons, List.any_cons, List.any_nil, eqD_nI, eqD_nI, Bool.or_false, Bool.eq_iff_iff]
  simp only [Bool.or_eq_true, decide_eq_true_eq, Bool.false_eq_true, if_false]
  omega
/-! turned, raised, tipped -/
theorem turnM_ev (xs : List Nat) (k : Int) (h1 : 0 < xs.length) (h2 : xs.length ≤ 100) : mC_order_turned [tupN xs, .int k] = some (tupN (rotL xs k)) := by
  apply fnP_ret (kd := .s) (n := 3) (t := tC_order_turned)
  unfold tC_order_turned
  refine (seq_at (ρ' := [.v (tupN xs), .v (.int k), .v (nI xs.length)]) ((setF_at (len_tupN xs _ _ rfl)).trans rfl)).trans ?_
  refine retF_at ((callF_at (ds := [.lst ((rotL xs k).map nI)]) (consA_at ?_ rfl)).trans rfl)
  refine compF_at (ds := (List.range xs.length).map nI) (rngA1_at rfl (by omega)) (by simp; omega) ?_
  refine (compL_map (h := nI) (o := fun (i : Nat) => nI (xs.getD (((i : Int) - k) % xs.length).toNat 0)) (List.range xs.length) fun i hi => ⟨_, rfl, ?_⟩).trans (by unfold rotL; rw [List.map_map]; rfl)
  have hm := natAbs_mod (i := (i : Int) - k) (m := xs.length) (by omega)
  refine (op2_at (x := tupN xs) rfl ((op2_at ((op2_at (x := nI i) (y := .int k) rfl rfl).trans (subF_int _ _)) (y := nI xs.length) rfl).trans (modF_int (by omega)))).trans ?_
  rw [toN hm.1]
  exact ixT_N (by omega)
theorem raisM_ev (xs : List Nat) (k : Int) (h1 : 0 < xs.length) (h2 : xs.length ≤ 100) : mC_order_raised [tupN xs, .int k] = some (tupN (raiL xs k)) := by
  apply fnP_ret (kd := .s) (n := 3) (t := tC_order_raised)
  unfold tC_order_raised
  refine (seq_at (ρ' := [.v (tupN xs), .v (.int k), .v (nI xs.length)]) ((setF_at (len_tupN xs _ _ rfl)).trans rfl)).trans ?_
  refine retF_at ((callF_at (ds := [.lst ((raiL xs k).map nI)]) (consA_at ?_ rfl)).trans rfl)
  refine compF_at (ds := xs.map nI) rfl (by simp; omega) ?_
  refine (compL_map (h := nI) (o := fun (v : Nat) => nI (((v : Int) + k) % xs.length).toNat) xs fun i hi => ⟨_, rfl, ?_⟩).trans (by unfold raiL; rw [List.map_map]; rfl)
  have hm := natAbs_mod (i := (i : Int) + k) (m := xs.length) (by omega)
  refine (op2_at ((op2_at (x := nI i) (y := .int k) rfl rfl).trans (addF_int _ _)) (y := nI xs.length) rfl).trans ((modF_int (by omega)).trans ?_)
  rw [toN hm.1]
theorem tipM_ev {n : Nat} {o : List Nat} (O : Ord n o) (hn : n ≤ 100) : mC_order_tipped [tupN o] = some (tupN (tipL o)) := by
  apply fnP_ret (kd := .s) (n := 1) (t := tC_order_tipped)
  unfold tC_order_tipped
  refine retF_at ((callF_at (ds := [.lst ((tipL o).map nI)]) (consA_at (compF_at (ds := (List.range n).map nI) (rngA1_at (n := n) (consA_at (O.len ▸ len_tupN o _ _ rfl) rfl) (by omega)) (by simp; omega) ?_) rfl)).trans rfl)
  unfold tipL
  rw [List.map_map, O.len]
  refine compL_map (h := nI) (o := fun v => nI (o.idxOf v)) _ fun v hv => ⟨_, rfl, ?_⟩
  rw [List.mem_range] at hv
  refine (op2_at (x := tupN o) (y := nI v) rfl rfl).trans ?_
  obtain ⟨j, h1, h2, h3⟩ := findN v o (O.has hv)
  show (if deps (o.map nI) ≤ 32 then (idxD (o.map nI) (nI v)).map (fun j => D.int j) else none) = _
  rw [if_pos (by rw [deps_N]; omega)]
  unfold idxD
  rw [h1]
  have : j = o.idxOf v := by
    have := idx_of O (c := j) (by rw [← O.len]; exact h2)
    rw [h3] at this; exact this.symm
  rw [← this]; rfl
/-- a good square -/
structure Gd (n : Nat) (r x : List Nat) : Prop where
  R : Ord n r
  X : Ord n x
  lo : 2 ≤ n
  hi : n ≤ 6
section
variable {n : Nat} {r x : List Nat} (G : Gd n r x)
include G
theorem colsM_ev (k : Int) : mC_columns_turned [sqD r x, .int k] = some (sqD (rotL r k) (rotL x k)) := by
  have h1 := G.R.len; have h2 := G.X.len; have h3 := G.lo; have h4 := G.hi
  apply fnP_ret (kd := .s) (n := 4) (t := tC_columns_turned)
  unfold tC_columns_turned
  refine (seq_at (ρ' := [.v (sqD r x), .v (.int k), .v (tupN r), .v (tupN x)]) (asg_at (pu_at rfl) rfl)).trans (retF_at (tupF_at (consA_at ((cl_at (ds := [tupN r, .int k]) rfl rfl).trans (turnM_ev r k (by omega) (by omega))) (consA_at ((cl_at (ds := [tupN x, .int k]) rfl rfl).trans (turnM_ev x k (by omega) (by omega))) rfl)) (by simp)))
theorem rowsM_ev (k : Int) : mC_rows_turned [sqD r x, .int k] = some (sqD (raiL r k) (raiL x k)) := by
  have h1 := G.R.len; have h2 := G.X.len; have h3 := G.lo; have h4 := G.hi
  apply fnP_ret (kd := .s) (n := 4) (t := tC_rows_turned)
  unfold tC_rows_turned
  refine (seq_at (ρ' := [.v (sqD r x), .v (.int k), .v (tupN r), .v (tupN x)]) (asg_at (pu_at rfl) rfl)).trans (retF_at (tupF_at (consA_at ((cl_at (ds := [tupN r, .int k]) rfl rfl).trans (raisM_ev r k (by omega) (by omega))) (consA_at ((cl_at (ds := [tupN x, .int k]) rfl rfl).trans (raisM_ev x k (by omega) (by omega))) rfl)) (by simp)))
theorem tipsM_ev : mC_tipped [sqD r x] = some (sqD (tipL r) (tipL x)) := by
  have h4 := G.hi
  apply fnP_ret (kd := .s) (n := 3) (t := tC_tipped)
  unfold tC_tipped
  exact (seq_at (ρ' := [.v (sqD r x), .v (tupN r), .v (tupN x)]) (asg_at (pu_at rfl) rfl)).trans (retF_at (tupF_at (consA_at ((cl_at (ds := [tupN r]) rfl rfl).trans (tipM_ev G.R (by omega))) (consA_at ((cl_at (ds := [tupN x]) rfl rfl).trans (tipM_ev G.X (by omega))) rfl)) (by simp)))
theorem Gd.rot (k : Int) : Gd n (rotL r k) (rotL x k) := ⟨G.R.rot (by have := G.lo; omega) k, G.X.rot (by have := G.lo; omega) k, G.lo, G.hi⟩
theorem Gd.rai (k : Int) : Gd n (raiL r k) (raiL x k) := ⟨G.R.rai (by have := G.lo; omega) k, G.X.rai (by have := G.lo; omega) k, G.lo, G.hi⟩
theorem Gd.tip : Gd n (tipL r) (tipL x) := ⟨G.R.tip, G.X.tip, G.lo, G.hi⟩
end
/-! columns exchanged -/
def btB (v a b : Nat) : Bool := decide (min a b < v) && decide (v < max a b)
theorem betw_ev (v a b : Nat) : mC_lies_between [nI v, nI a, nI b] = some (.bl (btB v a b)) := by
  apply fnP_ret (kd := .s) (n := 3) (t := tC_lies_between)
  unfold tC_lies_between
  refine retF_at (ch3_mk (x := nI (min a b)) (y := nI v) (z := nI (max a b)) ?_ rfl ?_ ?_ ?_)
  · refine (callF_at (ds := [nI a, nI b]) rfl).trans ?_
    show some (D.int _) = some (D.int _)
    congr 2
    split <;> omega
  · show some (D.bl (decide (((min a b : Nat) : Int) < v))) = _
    congr 2
    rw [Bool.eq_iff_iff, decide_eq_true_eq, decide_eq_true_eq]; omega
  · refine (callF_at (ds := [nI a, nI b]) rfl).trans ?_
    show some (D.int _) = some (D.int _)
    congr 2
    split <;> omega
  · show some (D.bl (decide ((v : Int) < ((max a b : Nat) : Int)))) = _
    congr 2
    rw [Bool.eq_iff_iff, decide_eq_true_eq, decide_eq_true_eq]; omega
/-- may columns c and c + 1 be exchanged -/
def mayN (r x : List Nat) (c : Nat) : Bool := !((decide (r.getD c 0 = r.getD (c + 1) 0) || decide (r.getD c 0 = x.getD (c + 1) 0)) || (decide (x.getD c 0 = r.getD (c + 1) 0) || decide (x.getD c 0 = x.getD (c + 1) 0))) && (btB (r.getD (c + 1) 0) (r.getD c 0) (x.getD c 0) == btB (x.getD (c + 1) 0) (r.getD c 0) (x.getD c 0))
def mayI (r x : List Nat) (c : Int) : Bool := (decide (0 ≤ c) && decide (c ≤ (r.length : Int) - 2)) && mayN r x c.toNat
section
variable {n : Nat} {r x : List Nat} (G : Gd n r x)
include G
theorem mayM_ev (c : Int) : mC_may_change [sqD r x, .int c] = some (.bl (mayI r x c)) := by
  have h1 := G.R.len; have h2 := G.X.len; have h3 := G.lo; have h4 := G.hi
  apply fnP_ex (kd := .s) (n := 7) (t := tC_may_change)
  unfold tC_may_change mayI
  have s1 : asgE (gT 2 (gsC (gN 2) (gsC (gN 3) (gsN)))) (pu (nmF 0)) (rho0 7 [sqD r x, .int c]) = .nx [.v (sqD r x), .v (.int c), .v (tupN r), .v (tupN x), .no, .no, .no] := asg_at (pu_at rfl) rfl
  rw [seq_at s1]
  have p1 : not1 (toB (ch3 leF leF (cst (.int 0)) (nmF 1) (op2 subF (callF lenD (consA (nmF 2) (nilA))) (cst (.int 2))))) [.v (sqD r x), .v (.int c), .v (tupN r), .v (tupN x), .no, .no, .no] = some (!(decide (0 ≤ c) && decide (c ≤ (r.length : Int) - 2))) :=
    not_at (toB_at (ch3_mk (x := .int 0) (y := .int c) (z := .int ((r.length : Int) - 2)) rfl rfl rfl ((op2_at (len_tupN r _ _ rfl) (y := .int 2) rfl).trans (subF_int _ _)) rfl))
  by_cases hc : 0 ≤ c ∧ c ≤ (r.length : Int) - 2
  · have e : (decide (0 ≤ c) && decide (c ≤ (r.length : Int) - 2)) = true := by rw [Bool.and_eq_true, decide_eq_true_eq, decide_eq_true_eq]; exact hc
    rw [e] at p1 ⊢
    rw [Bool.true_and]
    rw [seq_at (ifS_sk p1)]
    obtain ⟨c, rfl⟩ : ∃ m : Nat, c = m := ⟨c.toNat, by omega⟩
    rw [Int.toNat_natCast]
    have i1 : r.getD c 0 < n := G.R.get (by omega)
    have ad : ∀ ρ : Rho, nmF 1 ρ = some (nI c) → op2 addF (nmF 1) (cst (.int 1)) ρ = some (nI (c + 1)) := fun ρ h => (op2_at h (y := .int 1) rfl).trans (add1 c)
    rw [seq_at (ρ' := [.v (sqD r x), .v (.int c), .v (tupN r), .v (tupN x), .v (.tup [nI (r.getD c 0), nI (x.getD c 0)]), .no, .no]) ((setF_at (tupF_at (consA_at ((op2_at (x := tupN r) (y := nI c) rfl rfl).trans (ixT_N (by omega))) (consA_at ((op2_at (x := tupN x) (y := nI c) rfl rfl).trans (ixT_N (by omega))) rfl)) (by simp))).trans rfl)]
    rw [seq_at (ρ' := [.v (sqD r x), .v (.int c), .v (tupN r), .v (tupN x), .v (.tup [nI (r.getD c 0), nI (x.getD c 0)]), .v (.tup [nI (r.getD (c + 1) 0), nI (x.getD (c + 1) 0)]), .no]) ((setF_at (tupF_at (consA_at ((op2_at (x := tupN r) rfl (ad _ rfl)).trans (ixT_N (by omega))) (consA_at ((op2_at (x := tupN x) rfl (ad _ rfl)).trans (ixT_N (by omega))) rfl)) (by simp))).trans rfl)]
    have p2 : or2 (toB (op2 (inF false) (op2 ixD (nmF 4) (cst (.int 0))) (nmF 5))) (toB (op2 (inF false) (op2 ixD (nmF 4) (cst (.int 1))) (nmF 5))) [.v (sqD r x), .v (.int c), .v (tupN r), .v (tupN x), .v (.tup [nI (r.getD c 0), nI (x.getD c 0)]), .v (.tup [nI (r.getD (c + 1) 0), nI (x.getD (c + 1) 0)]), .no] = some ((decide (r.getD c 0 = r.getD (c + 1) 0) || decide (r.getD c 0 = x.getD (c + 1) 0)) || (decide (x.getD c 0 = r.getD (c + 1) 0) || decide (x.getD c 0 = x.getD (c + 1) 0))) :=
      or2_bb (toB_at ((op2_at (x := nI (r.getD c 0)) (y := .tup [nI (r.getD (c + 1) 0), nI (x.getD (c + 1) 0)]) rfl rfl).trans (inT2 _ _ _))) (toB_at ((op2_at (x := nI (x.getD c 0)) (y := .tup [nI (r.getD (c + 1) 0), nI (x.getD (c + 1) 0)]) rfl rfl).trans (inT2 _ _ _)))
    unfold mayN
    revert p2
    generalize ((decide (r.getD c 0 = r.getD (c + 1) 0) || decide (r.getD c 0 = x.getD (c + 1) 0)) || (decide (x.getD c 0 = r.getD (c + 1) 0) || decide (x.getD c 0 = x.getD (c + 1) 0))) = pb
    intro p2
    cases pb with
    | true => 
      exact ⟨_, seq_rt ((ifS_t p2).trans rfl)⟩
    | false =>
      rw [seq_at (ifS_sk p2)]
      generalize hA : r.getD (c + 1) 0 = A
      generalize hB : x.getD (c + 1) 0 = B
      generalize hU : r.getD c 0 = U
      generalize hV : x.getD c 0 = V
      have cp : compF 1 (seqA (nmF 5)) (gN 7) (tru1 (callF (nF 3 mC_lies_between) (consA (nmF 7) (consA (op2 ixD (nmF 4) (cst (.int 0))) (consA (op2 ixD (nmF 4) (cst (.int 1))) (nilA)))))) (nmF 7) [.v (sqD r x), .v (.int c), .v (tupN r), .v (tupN x), .v (.tup [nI U, nI V]), .v (.tup [nI A, nI B]), .no] = some (.lst ((([A, B] : List Nat).filter fun v => btB v U V).map nI)) :=
        compF_at (ds := ([A, B] : List Nat).map nI) (seqA_t rfl) (by simp) (compL_flt (h := nI) (o := nI) (q := fun v => btB v U V) ([A, B] : List Nat) fun v _ => ⟨_, rfl, tru_bl ((cl_at (ds := [nI v, nI U, nI V]) rfl rfl).trans (betw_ev v U V)), fun _ => rfl⟩)
      refine ⟨_, (seq_at ((setF_at cp).trans rfl)).trans (retF_at ?_)⟩
      refine (op2_at (len_lstN _ _ _ rfl) (y := .int 1) rfl).trans ?_
      rw [neF_ev (by rw [dep_int]; omega), eqD_int]
      congr 2
      cases e1 : btB A U V <;> cases e2 : btB B U V <;> simp [List.filter, e1, e2]
  · have e : (decide (0 ≤ c) && decide (c ≤ (r.length : Int) - 2)) = false := by rw [Bool.eq_false_iff, Ne, Bool.and_eq_true, decide_eq_true_eq, decide_eq_true_eq]; exact hc
    rw [e] at p1 ⊢
    exact ⟨_, seq_rt ((ifS_t p1).trans rfl)⟩
abbrev noM : Ex := ⟨"NoMove", 0⟩
abbrev tooM : Ex := ⟨"TooMany", 0⟩
theorem chgM_ev (c : Int) : mC_columns_changed [sqD r x, .int c] = some (if mayI r x c = true then .ok (sqD (exO r c.toNat (c.toNat + 1)) (exO x c.toNat (c.toNat + 1))) else .error noM) := by
  have h1 := G.R.len; have h2 := G.X.len; have h3 := G.lo; have h4 := G.hi
  have p1 : not1 (tru1 (callF (nF 2 mC_may_change) (consA (nmF 0) (consA (nmF 1) (nilA))))) (rho0 4 [sqD r x, .int c]) = some (!mayI r x c) := not_at (tru_bl ((cl_at (ds := [sqD r x, .int c]) rfl rfl).trans (mayM_ev G c)))
  by_cases hm : mayI r x c = true
  · rw [if_pos hm]
    rw [hm] at p1
    apply fnX_ok (kd := .s) (n := 4) (t := tC_columns_changed) (ρ := [.v (sqD r x), .v (.int c), .v (tupN r), .v (tupN x)])
    unfold tC_columns_changed
    rw [seqX_nx (ifX_sk p1)]
    have hc : 0 ≤ c ∧ c ≤ (r.length : Int) - 2 := by
      unfold mayI at hm
      rw [Bool.and_eq_true, Bool.and_eq_true, decide_eq_true_eq, decide_eq_true_eq] at hm
      exact hm.1
    obtain ⟨c, rfl⟩ : ∃ m : Nat, c = m := ⟨c.toNat, by omega⟩
    rw [Int.toNat_natCast]
    have ad : ∀ ρ : Rho, nmF 1 ρ = some (nI c) → op2 addF (nmF 1) (cst (.int 1)) ρ = some (nI (c + 1)) := fun ρ h => (op2_at h (y := .int 1) rfl).trans (add1 c)
    refine lfX_at ((seq_at (ρ' := [.v (sqD r x), .v (.int c), .v (tupN r), .v (tupN x)]) (asg_at (pu_at rfl) rfl)).trans (retF_at (tupF_at (consA_at ((cl_at (ds := [tupN r, nI c, nI (c + 1)]) (consA_at rfl (consA_at rfl (consA_at (ad _ rfl) rfl))) rfl).trans (exch_ev h1 (by omega) (by omega))) (consA_at ((cl_at (ds := [tupN x, nI c, nI (c + 1)]) (consA_at rfl (consA_at rfl (consA_at (ad _ rfl) rfl))) rfl).trans (exch_ev h2 (by omega) (by omega))) rfl)) (by simp))))
  · rw [if_neg hm]
    rw [Bool.not_eq_true] at hm
    rw [hm] at p1
    refine fnX_er (kd := .s) (n := 4) (t := tC_columns_changed) (z := (noM, rho0 4 [sqD r x, .int c])) ?_
    unfold tC_columns_changed
    exact seqX_er ((ifX_t p1).trans rfl)
theorem Gd.chg {c : Int} (h : mayI r x c = true) : Gd n (exO r c.toNat (c.toNat + 1)) (exO x c.toNat (c.toNat + 1)) := by
  have h1 := G.R.len
  have hc : 0 ≤ c ∧ c ≤ (r.length : Int) - 2 := by
    unfold mayI at h
    rw [Bool.and_eq_true, Bool.and_eq_true, decide_eq_true_eq, decide_eq_true_eq] at h
    exact h.1
  exact ⟨G.R.exM (by omega) (by omega), G.X.exM (by omega) (by omega), G.lo, G.hi⟩
theorem rchgM_ev (c : Int) : mC_rows_changed [sqD r x, .int c] = some (if mayI (tipL r) (tipL x) c = true then .ok (sqD (tipL (exO (tipL r) c.toNat (c.toNat + 1))) (tipL (exO (tipL x) c.toNat (c.toNat + 1)))) else .error noM) := by
  refine fnX_r (kd := .s) (n := 2) (t := tC_rows_changed) rfl ?_
  have e1 : callR 2 mC_columns_changed (puRA (consA (callF (nF 1 mC_tipped) (consA (nmF 0) (nilA))) (consA (nmF 1) (nilA)))) (rho0 2 [sqD r x, .int c]) = _ := (callR_at (ds := [sqD (tipL r) (tipL x), .int c]) (puRA_at (consA_at ((cl_at (ds := [sqD r x]) rfl rfl).trans (tipsM_ev G)) rfl)) rfl).trans (chgM_ev G.tip c)
  by_cases hm : mayI (tipL r) (tipL x) c = true
  · rw [if_pos hm] at e1 ⊢
    refine (callR_at (consR_ok e1 (puRA_at (f := nilA) (ds := []) rfl)) rfl).trans ?_
    rw [tipsM_ev (G.tip.chg hm)]; rfl
  · rw [if_neg hm] at e1 ⊢
    exact callR_er (consR_er e1)
end
/-! corners -/
theorem way_ev (w : Int) : mC_is_way [.int w] = some (.bl (decide (0 ≤ w) && decide (w < 4))) := by
  apply fnP_ret (kd := .s) (n := 1) (t := tC_is_way)
  exact retF_at (ch3_mk (x := .int 0) (y := .int w) (z := .int 4) rfl rfl rfl rfl rfl)
def frC (c w : Nat) : Nat := c + w % 2
def frR (r w : Nat) : Nat := r + w / 2
def fuC (c w : Nat) : Nat := c + 1 - w % 2
def fuR (r w : Nat) : Nat := r + 1 - w / 2
theorem faf_ev (c r : Nat) {w : Nat} (hw : w < 4) : mC_free_and_full [nI c, nI r, nI w] = some (.tup [nI (frC c w), nI (frR r w), nI (fuC c w), nI (fuR r w)]) := by
  apply fnP_ret (kd := .s) (n := 5) (t := tC_free_and_full)
  unfold tC_free_and_full
  have hd : fdivF (nI w) (.int 2) = some (nI (w / 2)) := by
    rw [fdivF_int (by decide) (by decide)]; rfl
  have hm : modF (nI w) (.int 2) = some (nI (w % 2)) := modN (n := 2) (by decide)
  have sb : ∀ (f : FE) (ρ : Rho) (a b : Nat), f ρ = some (nI b) → b ≤ a → ∀ g : FE, g ρ = some (nI a) → op2 subF g f ρ = some (nI (a - b)) := fun f ρ a b hf hb g hg => (op2_at hg hf).trans (by rw [subN]; show some (D.int _) = some (D.int _); congr 2; omega)
  have m2 : w % 2 < 2 := Nat.mod_lt _ (by decide)
  have d2 : w / 2 < 2 := by omega
  refine (seq_at (ρ' := [.v (nI c), .v (nI r), .v (nI w), .v (nI (w % 2)), .v (nI (w / 2))]) ?_).trans (retF_at (tupF_at (consA_at ((op2_at (x := nI c) (y := nI (w % 2)) rfl rfl).trans (addN _ _)) (consA_at ((op2_at (x := nI r) (y := nI (w / 2)) rfl rfl).trans (addN _ _)) (consA_at (sb _ _ (c + 1) (w % 2) rfl (by omega) _ ((op2_at (x := nI c) (y := .int 1) rfl rfl).trans (add1 c))) (consA_at (sb _ _ (r + 1) (w / 2) rfl (by omega) _ ((op2_at (x := nI r) (y := .int 1) rfl rfl).trans (add1 r))) rfl)))) (by simp)))
  unfold parF
  rw [consA_at ((op2_at (x := nI w) (y := .int 2) rfl rfl).trans hm) (consA_at ((op2_at (x := nI w) (y := .int 2) rfl rfl).trans hd) (rfl : nilA _ = some []))]
  rfl
def prt (row to m : Nat) : Nat := if m = row then to else if row < m then m + 1 else m
theorem part_ev (m row to : Nat) : mC_row_parted [nI m, nI row, nI to] = some (nI (prt row to m)) := by
  apply fnP_ex (kd := .s) (n := 3) (t := tC_row_parted)
  unfold tC_row_parted prt
  have p1 : toB (op2 eqF (nmF 0) (nmF 1)) (rho0 3 [nI m, nI row, nI to]) = some (decide (m = row)) := toB_at ((op2_at (x := nI m) (y := nI row) rfl rfl).trans (by rw [eqF_ev (by rw [dep_int]; omega), eqD_nI]))
  have p2 : toB (op2 gtF (nmF 0) (nmF 1)) (rho0 3 [nI m, nI row, nI to]) = some (decide (row < m)) := toB_at ((op2_at (x := nI m) (y := nI row) rfl rfl).trans (by show some (D.bl (decide ((row : Int) < m))) = _; congr 2; rw [Bool.eq_iff_iff, decide_eq_true_eq, decide_eq_true_eq]; omega))
  by_cases h1 : m = row
  · rw [if_pos h1]
    rw [decide_eq_true h1] at p1
    exact ⟨_, seq_rt ((ifS_t p1).trans (retF_at rfl))⟩
  · rw [if_neg h1]
    rw [decide_eq_false h1] at p1
    refine ⟨_, (seq_at (ifS_sk p1)).trans (retF_at ?_)⟩
    by_cases h2 : row < m
    · rw [if_pos h2]
      rw [decide_eq_true h2] at p2
      exact (ifF_t p2).trans ((op2_at (x := nI m) (y := .int 1) rfl rfl).trans (add1 m))
    · rw [if_neg h2]
      rw [decide_eq_false h2] at p2
      exact (ifF_f p2).trans rfl
def insL (l : List Nat) (i v : Nat) : List Nat := l.take i ++ v :: l.drop i
theorem insL_map (l : List Nat) (i v : Nat) : (insL l i v).map nI = (l.map nI).take i ++ nI v :: (l.map nI).drop i := by unfold insL; rw [List.map_append, List.map_cons, List.map_take, List.map_drop]
theorem insM_at {l : List Nat} {i v : Nat} (h : i ≤ l.length) (hl : l.length ≤ 900) : insM (l.map nI) [nI i, nI v] = some (.non, (insL l i v).map nI) := by
  unfold insM
  dsimp only
  have e : ((l.map nI).length < sizeLine) := by rw [List.length_map]; exact Nat.lt_of_le_of_lt hl (by decide)
  rw [if_pos ⟨by omega, by rw [List.length_map]; omega, e⟩, insL_map]
  rfl
def putL (l : List Nat) (row to col v : Nat) : List Nat := insL (l.map (prt row to)) col v
theorem Ord.put {n : Nat} {l : List Nat} (O : Ord n l) {row to col v : Nat} (hr : row < n) (h : (to = row ∧ v = row + 1) ∨ (to = row + 1 ∧ v = row)) : Ord (n + 1) (putL l row to col v) := by
  refine ⟨?_⟩
  unfold putL insL
  refine (List.perm_middle.trans ?_)
  rw [List.take_append_drop]
  refine ((O.perm.map (prt row to)).cons v).trans ?_
  refine (List.perm_ext_iff_of_nodup ?_ List.nodup_range).mpr fun k => ?_
  · rw [List.nodup_cons]
    constructor
    · intro hm
      obtain ⟨i, _, e⟩ := List.mem_map.mp hm
      unfold prt at e
      split at e <;> (try split at e) <;> omega
    · show List.Pairwise (· ≠ ·) _
      rw [List.pairwise_map]
      refine List.Pairwise.imp (fun {i j} hij e => ?_) (List.pairwise_lt_range (n := n))
      unfold prt at e
      split at e <;> (try split at e) <;> (try split at e) <;> (try split at e) <;> omega
  · rw [List.mem_cons, List.mem_map, List.mem_range]
    constructor
    · rintro (rfl | ⟨i, hi, rfl⟩)
      · omega
      · rw [List.mem_range] at hi
        unfold prt
        split <;> (try split) <;> omega
    · intro hk
      by_cases h1 : k = v
      · exact .inl h1
      · refine .inr ⟨if k ≤ row then k else k - 1, List.mem_range.mpr (by split <;> omega), ?_⟩
        unfold prt
        split <;> (try split) <;> (try split) <;> omega
section
variable {n : Nat} {r x : List Nat} (G : Gd n r x)
include G
theorem putM_ev (c w : Int) : mC_corner_put [sqD r x, .int c, .int w] = some (if (decide (0 ≤ c) && decide (c < n)) = true ∧ (decide (0 ≤ w) && decide (w < 4)) = true then (if n < 6 then .ok (sqD (putL r (x.getD c.toNat 0) (frR (x.getD c.toNat 0) w.toNat) (fuC c.toNat w.toNat) (fuR (x.getD c.toNat 0) w.toNat)) (putL x (x.getD c.toNat 0) (fuR (x.getD c.toNat 0) w.toNat) (fuC c.toNat w.toNat) (frR (x.getD c.toNat 0) w.toNat))) else .error tooM) else .error noM) := by
  have h1 := G.R.len; have h2 := G.X.len; have h3 := G.lo; have h4 := G.hi
  have s1 : lfX (asgE (gT 2 (gsC (gN 3) (gsC (gN 4) (gsN)))) (pu (nmF 0))) (rho0 12 [sqD r x, .int c, .int w]) = .ok (.nx [.v (sqD r x), .v (.int c), .v (.int w), .v (tupN r), .v (tupN x), .no, .no, .no, .no, .no, .no, .no]) := lfX_at (asg_at (pu_at rfl) rfl)
  have p1 : or2 (not1 (toB (ch3 leF ltF (cst (.int 0)) (nmF 1) (callF lenD (consA (nmF 3) (nilA)))))) (not1 (tru1 (callF (nF 1 mC_is_way) (consA (nmF 2) (nilA))))) [.v (sqD r x), .v (.int c), .v (.int w), .v (tupN r), .v (tupN x), .no, .no, .no, .no, .no, .no, .no] = some (!(decide (0 ≤ c) && decide (c < n)) || !(decide (0 ≤ w) && decide (w < 4))) :=
    or2_bb (not_at (toB_at (ch3_mk (x := .int 0) (y := .int c) (z := nI n) rfl rfl rfl (h1 ▸ len_tupN r _ _ rfl) rfl))) (not_at (tru_bl ((cl_at (ds := [.int w]) rfl rfl).trans (way_ev w))))
  by_cases hg : (decide (0 ≤ c) && decide (c < n)) = true ∧ (decide (0 ≤ w) && decide (w < 4)) = true
  · rw [if_pos hg]
    rw [hg.1, hg.2] at p1
    rw [Bool.and_eq_true, Bool.and_eq_true, decide_eq_true_eq, decide_eq_true_eq, decide_eq_true_eq, decide_eq_true_eq] at hg
    have p2 : toB (op2 geF (callF lenD (consA (nmF 3) (nilA))) (cst (.int 6))) [.v (sqD r x), .v (.int c), .v (.int w), .v (tupN r), .v (tupN x), .no, .no, .no, .no, .no, .no, .no] = some (decide (6 ≤ n)) := toB_at ((op2_at (h1 ▸ len_tupN r _ _ rfl) (y := .int 6) rfl).trans (by show some (D.bl (decide ((6 : Int) ≤ n))) = _; congr 2; rw [Bool.eq_iff_iff, decide_eq_true_eq, decide_eq_true_eq]; omega))
    by_cases h6 : n < 6
    · rw [if_pos h6]
      rw [decide_eq_false (by omega)] at p2
      obtain ⟨c, rfl⟩ : ∃ m : Nat, c = m := ⟨c.toNat, by omega⟩
      obtain ⟨w, rfl⟩ : ∃ m : Nat, w = m := ⟨w.toNat, by omega⟩
      rw [Int.toNat_natCast, Int.toNat_natCast]
      have hc : c < n := by omega
      have hw : w < 4 := by omega
      generalize hrow : x.getD c 0 = row
      have hrow' : row < n := hrow ▸ G.X.get hc
      refine fnX_ok (kd := .s) (n := 12) (t := tC_corner_put) (ρ := [.v (sqD r x), .v (nI c), .v (nI w), .v (tupN r), .v (tupN x), .v (nI row), .v (nI (frC c w)), .v (nI (frR row w)), .v (nI (fuC c w)), .v (nI (fuR row w)), .own ((putL r row (frR row w) (fuC c w) (fuR row w)).map nI), .own ((putL x row (fuR row w) (fuC c w) (frR row w)).map nI)]) ?_
      unfold tC_corner_put
      rw [seqX_nx s1, seqX_nx (ifX_sk p1), seqX_nx (ifX_sk p2)]
      refine lfX_at ?_
      refine (seq_at (ρ' := [.v (sqD r x), .v (nI c), .v (nI w), .v (tupN r), .v (tupN x), .v (nI row), .no, .no, .no, .no, .no, .no]) ((setF_at ((op2_at (x := tupN x) (y := nI c) rfl rfl).trans (hrow ▸ ixT_N (by omega)))).trans rfl)).trans ?_
      refine (seq_at (ρ' := [.v (sqD r x), .v (nI c), .v (nI w), .v (tupN r), .v (tupN x), .v (nI row), .v (nI (frC c w)), .v (nI (frR row w)), .v (nI (fuC c w)), .v (nI (fuR row w)), .no, .no]) (asg_at (pu_at ((cl_at (ds := [nI c, nI row, nI w]) rfl rfl).trans (faf_ev c row hw))) rfl)).trans ?_
      have cp : ∀ (l : List Nat) (f g : FE) (to : Nat) (ρ : Rho), l.length = n → f ρ = some (tupN l) → (∀ v : D, nmF 5 ((ρ ++ List.replicate 1 Sl.no).set 12 (Sl.v v)) = some (nI row)) → (∀ v : D, g ((ρ ++ List.replicate 1 Sl.no).set 12 (Sl.v v)) = some (nI to)) → (∀ v : D, gN 12 v (ρ ++ List.replicate 1 Sl.no) = some ((ρ ++ List.replicate 1 Sl.no).set 12 (Sl.v v))) → (∀ v : D, nmF 12 ((ρ ++ List.replicate 1 Sl.no).set 12 (Sl.v v)) = some v) →
          compF 1 (seqA f) (gN 12) (yesT) (callF (nF 3 mC_row_parted) (consA (nmF 12) (consA (nmF 5) (consA g (nilA))))) ρ = some (.lst ((l.map (prt row to)).map nI)) := fun l f g to ρ hl hf h5 hg' hs hn' =>
        compF_at (ds := l.map nI) (seqA_t hf) (by rw [List.length_map]; omega) ((compL_map (h := nI) (o := fun m => nI (prt row to m)) l fun m _ => ⟨_, hs _, (cl_at (ds := [nI m, nI row, nI to]) (consA_at (hn' _) (consA_at (h5 _) (consA_at (hg' _) rfl))) rfl).trans (part_ev m row to)⟩).trans (by rw [List.map_map]; rfl))
      refine (seq_at (ρ' := [.v (sqD r x), .v (nI c), .v (nI w), .v (tupN r), .v (tupN x), .v (nI row), .v (nI (frC c w)), .v (nI (frR row w)), .v (nI (fuC c w)), .v (nI (fuR row w)), .own ((r.map (prt row (frR row w))).map nI), .no]) ((ownF_at (cp r _ _ (frR row w) _ h1 rfl (fun _ => rfl) (fun _ => rfl) (fun _ => rfl) fun _ => rfl)).trans rfl)).trans ?_
      refine (seq_at (ρ' := [.v (sqD r x), .v (nI c), .v (nI w), .v (tupN r), .v (tupN x), .v (nI row), .v (nI (frC c w)), .v (nI (frR row w)), .v (nI (fuC c w)), .v (nI (fuR row w)), .own ((r.map (prt row (frR row w))).map nI), .own ((x.map (prt row (fuR row w))).map nI)]) ((ownF_at (cp x _ _ (fuR row w) _ h2 rfl (fun _ => rfl) (fun _ => rfl) (fun _ => rfl) fun _ => rfl)).trans rfl)).trans ?_
      have hfc : fuC c w ≤ n := by unfold fuC; omega
      refine (seq_at (ρ' := [.v (sqD r x), .v (nI c), .v (nI w), .v (tupN r), .v (tupN x), .v (nI row), .v (nI (frC c w)), .v (nI (frR row w)), .v (nI (fuC c w)), .v (nI (fuR row w)), .own ((putL r row (frR row w) (fuC c w) (fuR row w)).map nI), .own ((x.map (prt row (fuR row w))).map nI)]) ((dropE_at (callE_at (b0 := (r.map (prt row (frR row w))).map nI) (bs := (r.map (prt row (frR row w))).map nI) (ds := [nI (fuC c w), nI (fuR row w)]) rfl (puA_at rfl) rfl rfl (insM_at (by rw [List.length_map]; omega) (by rw [List.length_map]; omega)))).trans rfl)).trans ?_
      refine (seq_at (ρ' := [.v (sqD r x), .v (nI c), .v (nI w), .v (tupN r), .v (tupN x), .v (nI row), .v (nI (frC c w)), .v (nI (frR row w)), .v (nI (fuC c w)), .v (nI (fuR row w)), .own ((putL r row (frR row w) (fuC c w) (fuR row w)).map nI), .own ((putL x row (fuR row w) (fuC c w) (frR row w)).map nI)]) ((dropE_at (callE_at (b0 := (x.map (prt row (fuR row w))).map nI) (bs := (x.map (prt row (fuR row w))).map nI) (ds := [nI (fuC c w), nI (frR row w)]) rfl (puA_at rfl) rfl rfl (insM_at (by rw [List.length_map]; omega) (by rw [List.length_map]; omega)))).trans rfl)).trans ?_
      exact retF_at (tupF_at (consA_at ((callF_at (ds := [.lst ((putL r row (frR row w) (fuC c w) (fuR row w)).map nI)]) (consA_at rfl rfl)).trans rfl) (consA_at ((callF_at (ds := [.lst ((putL x row (fuR row w) (fuC c w) (frR row w)).map nI)]) (consA_at rfl rfl)).trans rfl) rfl)) (by simp))
    · rw [if_neg h6]
      rw [decide_eq_true (by omega)] at p2
      refine fnX_e2 (kd := .s) (n := 12) (t := tC_corner_put) ?_
      unfold tC_corner_put
      rw [seqX_nx s1, seqX_nx (ifX_sk p1)]
      exact ⟨_, seqX_er ((ifX_t p2).trans rfl)⟩
  · rw [if_neg hg]
    have : (!(decide (0 ≤ c) && decide (c < n)) || !(decide (0 ≤ w) && decide (w < 4))) = true := by
      cases e1 : (decide (0 ≤ c) && decide (c < (n : Int))) <;> cases e2 : (decide (0 ≤ w) && decide (w < 4)) <;> first | rfl | exact absurd ⟨e1, e2⟩ hg
    rw [this] at p1
    refine fnX_e2 (kd := .s) (n := 12) (t := tC_corner_put) ?_
    unfold tC_corner_put
    rw [seqX_nx s1]
    exact ⟨_, seqX_er ((ifX_t p1).trans rfl)⟩
theorem Gd.put {c w : Nat} (hc : c < n) (hw : w < 4) (h6 : n < 6) : Gd (n + 1) (putL r (x.getD c 0) (frR (x.getD c 0) w) (fuC c w) (fuR (x.getD c 0) w)) (putL x (x.getD c 0) (fuR (x.getD c 0) w) (fuC c w) (frR (x.getD c 0) w)) := by
  have h := G.X.get hc
  have d : w / 2 = 0 ∨ w / 2 = 1 := by omega
  refine ⟨G.R.put h ?_, G.X.put h ?_, by have := G.lo; omega, by omega⟩
  · unfold frR fuR; rcases d with d | d <;> rw [d] <;> omega
  · unfold frR fuR; rcases d with d | d <;> rw [d] <;> omega
end
/-! corners taken out -/
def isputB (r x : List Nat) (c q w : Nat) : Bool := (decide (r.getD (fuC c w) 0 = fuR q w) && decide (x.getD (fuC c w) 0 = frR q w)) && (decide (x.getD (frC c w) 0 = fuR q w) && !decide (r.getD (frC c w) 0 = frR q w))
theorem eqT2 (a b c d : Nat) : eqD (.tup [nI a, nI b]) (.tup [nI c, nI d]) = (decide (a = c) && decide (b = d)) := by
  have := eqD_tpI [(a : Int), (b : Int)] [(c : Int), (d : Int)]
  refine this.trans ?_
  rw [Bool.eq_iff_iff]
  simp only [decide_eq_true_eq, Bool.and_eq_true, List.cons.injEq, and_true]
  omega
theorem dep_T2 (a b : Nat) : dep (.tup [nI a, nI b]) ≤ 32 := dep_tupN [a, b]
def joinL (l : List Nat) (row col : Nat) : List Nat := ((List.range l.length).filter fun i => !decide (i = col)).map fun i => if row < l.getD i 0 then l.getD i 0 - 1 else l.getD i 0
theorem enuM (q : List Nat) : enuD (q.map nI) = (List.range q.length).map fun (i : Nat) => D.tup [nI i, nI (q.getD i 0)] := by
  unfold enuD
  rw [List.length_map]
  refine List.map_congr_left fun i hi => ?_
  rw [List.mem_range] at hi
  congr 3
  rw [List.getD_eq_getElem?_getD, List.getElem?_map, List.getElem?_eq_getElem hi, List.getD_eq_getElem?_getD, List.getElem?_eq_getElem hi]; rfl
theorem joined_ev (l : List Nat) (row col : Nat) (hl : l.length ≤ 900) : mC_rows_joined [tupN l, nI row, nI col] = some (tupN (joinL l row col)) := by
  apply fnP_ret (kd := .s) (n := 3) (t := tC_rows_joined)
  unfold tC_rows_joined
  refine retF_at ((callF_at (ds := [.lst ((joinL l row col).map nI)]) (consA_at (compF_at (ds := (List.range l.length).map fun (i : Nat) => D.tup [nI i, nI (l.getD i 0)]) ?_ (by rw [List.length_map, List.length_range]; omega) ?_) rfl)).trans rfl)
  · rw [← enuM]; rfl
  · unfold joinL
    rw [List.map_map]
    refine compL_flt (h := fun (i : Nat) => D.tup [nI i, nI (l.getD i 0)]) (q := fun i => !decide (i = col)) _ fun i hi => ⟨_, rfl, ?_, fun _ => ?_⟩
    · exact toB_at ((op2_at (x := nI i) (y := nI col) rfl rfl).trans (by rw [neF_ev (by rw [dep_int]; omega), eqD_nI]))
    · have p : toB (op2 gtF (nmF 4) (nmF 1)) [.v (tupN l), .v (nI row), .v (nI col), .v (nI i), .v (nI (l.getD i 0))] = some (decide (row < l.getD i 0)) := toB_at ((op2_at (x := nI (l.getD i 0)) (y := nI row) rfl rfl).trans (by show some (D.bl (decide ((row : Int) < (l.getD i 0 : Nat)))) = _; congr 2; rw [Bool.eq_iff_iff, decide_eq_true_eq, decide_eq_true_eq]; omega))
      show _ = some (nI (if row < l.getD i 0 then l.getD i 0 - 1 else l.getD i 0))
      by_cases h : row < l.getD i 0
      · rw [if_pos h]
        rw [decide_eq_true h] at p
        refine (ifF_t p).trans ((op2_at (x := nI (l.getD i 0)) (y := .int 1) rfl rfl).trans ((subF_int _ _).trans ?_))
        show some (D.int _) = some (D.int _)
        congr 2
        omega
      · rw [if_neg h]
        rw [decide_eq_false h] at p
        exact (ifF_f p).trans rfl
theorem Ord.join {n : Nat} {l : List Nat} (O : Ord n l) {row col : Nat} (hr : row + 1 < n) (hc : col < n) (h : l.getD col 0 = row ∨ l.getD col 0 = row + 1) : Ord (n - 1) (joinL l row col) := by
  have hl := O.len
  refine ⟨(List.perm_ext_iff_of_nodup ?_ List.nodup_range).mpr fun k => ?_⟩
  · unfold joinL
    show List.Pairwise (· ≠ ·) _
    rw [List.pairwise_map, hl]
    refine List.Pairwise.imp_of_mem (fun {i j} hi hj hij e => ?_) (List.Pairwise.filter _ (List.pairwise_lt_range (n := n)))
    rw [List.mem_filter, List.mem_range] at hi hj
    have i1 : i ≠ col := by simpa using hi.2
    have j1 : j ≠ col := by simpa using hj.2
    have n1 : l.getD i 0 ≠ l.getD j 0 := fun z => by have := O.inj hi.1 hj.1 z; omega
    have n2 : l.getD i 0 ≠ l.getD col 0 := fun z => i1 (O.inj hi.1 hc z)
    have n3 : l.getD j 0 ≠ l.getD col 0 := fun z => j1 (O.inj hj.1 hc z)
    split at e <;> split at e <;> omega
  · unfold joinL
    rw [List.mem_map, List.mem_range, hl]
    constructor
    · rintro ⟨i, hi, rfl⟩
      rw [List.mem_filter, List.mem_range] at hi
      have i1 : i ≠ col := by simpa using hi.2
      have := O.get hi.1
      have n2 : l.getD i 0 ≠ l.getD col 0 := fun z => i1 (O.inj hi.1 hc z)
      split <;> omega
    · intro hk
      have key : ∀ v, v < n → v ≠ l.getD col 0 → ∃ i, i ∈ (List.range n).filter (fun i => !decide (i = col)) ∧ l.getD i 0 = v := fun v hv hv2 => by
        obtain ⟨i1, i2⟩ := idx_get O hv
        refine ⟨l.idxOf v, ?_, i2⟩
        rw [List.mem_filter, List.mem_range]
        refine ⟨i1, ?_⟩
        simp only [Bool.not_eq_true', decide_eq_false_iff_not]
        intro z
        rw [z] at i2
        exact hv2 i2.symm
      by_cases h1 : k < row
      · obtain ⟨i, hi, e⟩ := key k (by omega) (by omega)
        exact ⟨i, hi, by rw [e, if_neg (by omega)]⟩
      · by_cases h2 : k = row
        · by_cases h3 : l.getD col 0 = row
          · obtain ⟨i, hi, e⟩ := key (row + 1) (by omega) (by omega)
            exact ⟨i, hi, by rw [e, if_pos (by omega)]; omega⟩
          · obtain ⟨i, hi, e⟩ := key row (by omega) (by omega)
            exact ⟨i, hi, by rw [e, if_neg (by omega)]; omega⟩
        · obtain ⟨i, hi, e⟩ := key (k + 1) (by omega) (by omega)
          exact ⟨i, hi, by rw [e, if_pos (by omega)]; omega⟩
theorem forL_rt {g : FG} {b : FS} {d e : D} {r : List D} {ρ ρ1 ρ2 : Rho} (h1 : g d ρ = some ρ1) (h2 : b ρ1 = .rt e ρ2) : forL g b (d :: r) ρ = .rt e ρ2 := by
  show (match g d ρ with
    | none => Out.no
    | some ρ1 => match b ρ1 with
      | .nx ρ2 => forL g b r ρ2
      | .ct ρ2 => forL g b r ρ2
      | .bk ρ2 => .nx ρ2
      | .rt d ρ2 => .rt d ρ2
      | .no => .no) = _
  rw [h1]; dsimp only; rw [h2]
def wayP (r x : List Nat) (c q : Nat) : Option Nat := (List.range 4).find? (isputB r x c q)
def wayI (r x : List Nat) (c q : Int) : Option Nat := if (decide (0 ≤ c) && decide (c ≤ (r.length : Int) - 2)) = true ∧ (decide (0 ≤ q) && decide (q ≤ (r.length : Int) - 2)) = true then wayP r x c.toNat q.toNat else none
def wD : Option Nat → D
  | none => .non
  | some w => nI w
theorem findW {a b d e : D} {bd : FS} {q : Nat → Bool} : ∀ (l : List Nat) (s : Sl), (∀ w ∈ l, bd [.v a, .v b, .v d, .v e, .v (nI w)] = if q w = true then .rt (nI w) [.v a, .v b, .v d, .v e, .v (nI w)] else .nx [.v a, .v b, .v d, .v e, .v (nI w)]) →
    match l.find? q with
    | some w => ∃ ρ, forL (gN 4) bd (l.map nI) [.v a, .v b, .v d, .v e, s] = .rt (nI w) ρ
    | none => ∃ s', forL (gN 4) bd (l.map nI) [.v a, .v b, .v d, .v e, s] = .nx [.v a, .v b, .v d, .v e, s']
  | [], s, _ => ⟨s, rfl⟩
  | w :: l, s, h => by
    have h0 := h w (List.mem_cons_self ..)
    rw [List.map_cons, List.find?_cons]
    cases e1 : q w with
    | true =>
      rw [e1, if_pos rfl] at h0
      exact ⟨_, forL_rt (ρ1 := [.v a, .v b, .v d, .v e, .v (nI w)]) rfl h0⟩
    | false =>
      rw [e1, if_neg (by simp)] at h0
      have := findW l (.v (nI w)) fun v hv => h v (List.mem_cons_of_mem _ hv)
      rw [forL_cons (ρ1 := [.v a, .v b, .v d, .v e, .v (nI w)]) rfl h0]
      exact this
section
variable {n : Nat} {r x : List Nat} (G : Gd n r x)
include G
theorem isput_ev {c q w : Nat} (hc : c + 1 < n) (hw : w < 4) : mC_is_put [sqD r x, nI c, nI q, nI w] = some (.bl (isputB r x c q w)) := by
  have h1 := G.R.len; have h2 := G.X.len; have h3 := G.lo; have h4 := G.hi
  have f1 : frC c w < n := by unfold frC; omega
  have f2 : fuC c w < n := by unfold fuC; omega
  apply fnP_ex (kd := .s) (n := 10) (t := tC_is_put)
  unfold tC_is_put
  rw [seq_at (ρ' := [.v (sqD r x), .v (nI c), .v (nI q), .v (nI w), .v (tupN r), .v (tupN x), .no, .no, .no, .no]) (asg_at (pu_at rfl) rfl)]
  have s2 : asgE (gT 4 (gsC (gN 6) (gsC (gN 7) (gsC (gN 8) (gsC (gN 9) (gsN)))))) (pu (callF (nF 3 mC_free_and_full) (consA (nmF 1) (consA (nmF 2) (consA (nmF 3) (nilA)))))) [.v (sqD r x), .v (nI c), .v (nI q), .v (nI w), .v (tupN r), .v (tupN x), .no, .no, .no, .no] = .nx [.v (sqD r x), .v (nI c), .v (nI q), .v (nI w), .v (tupN r), .v (tupN x), .v (nI (frC c w)), .v (nI (frR q w)), .v (nI (fuC c w)), .v (nI (fuR q w))] := asg_at (pu_at ((cl_at (ds := [nI c, nI q, nI w]) rfl rfl).trans (faf_ev c q hw))) rfl
  rw [seq_at s2]
  have p1 : toB (op2 neF (tupF (consA (op2 ixD (nmF 4) (nmF 8)) (consA (op2 ixD (nmF 5) (nmF 8)) (nilA)))) (tupF (consA (nmF 9) (consA (nmF 7) (nilA))))) [.v (sqD r x), .v (nI c), .v (nI q), .v (nI w), .v (tupN r), .v (tupN x), .v (nI (frC c w)), .v (nI (frR q w)), .v (nI (fuC c w)), .v (nI (fuR q w))] = some (!(decide (r.getD (fuC c w) 0 = fuR q w) && decide (x.getD (fuC c w) 0 = frR q w))) :=
    toB_at ((op2_at (tupF_at (consA_at ((op2_at (x := tupN r) (y := nI (fuC c w)) rfl rfl).trans (ixT_N (by omega))) (consA_at ((op2_at (x := tupN x) (y := nI (fuC c w)) rfl rfl).trans (ixT_N (by omega))) rfl)) (by simp)) (y := .tup [nI (fuR q w), nI (frR q w)]) (tupF_at rfl (by simp))).trans (by rw [neF_ev (dep_T2 _ _), eqT2]))
  have p2 : asD (and2 (toB (op2 eqF (op2 ixD (nmF 5) (nmF 6)) (nmF 9))) (toB (op2 neF (op2 ixD (nmF 4) (nmF 6)) (nmF 7)))) [.v (sqD r x), .v (nI c), .v (nI q), .v (nI w), .v (tupN r), .v (tupN x), .v (nI (frC c w)), .v (nI (frR q w)), .v (nI (fuC c w)), .v (nI (fuR q w))] = some (.bl (decide (x.getD (frC c w) 0 = fuR q w) && !decide (r.getD (frC c w) 0 = frR q w))) := by
    refine asD_at (and2_bb (a := decide (x.getD (frC c w) 0 = fuR q w)) (toB_at ((op2_at ((op2_at (x := tupN x) (y := nI (frC c w)) rfl rfl).trans (ixT_N (by omega))) (y := nI (fuR q w)) rfl).trans (by rw [eqF_ev (by rw [dep_int]; omega), eqD_nI]))) (fun z => ?_) fun z => by rw [z]; rfl)
    rw [z, Bool.true_and]
    exact toB_at ((op2_at ((op2_at (x := tupN r) (y := nI (frC c w)) rfl rfl).trans (ixT_N (by omega))) (y := nI (frR q w)) rfl).trans (by rw [neF_ev (by rw [dep_int]; omega), eqD_nI]))
  unfold isputB
  revert p1
  generalize (decide (r.getD (fuC c w) 0 = fuR q w) && decide (x.getD (fuC c w) 0 = frR q w)) = pb
  intro p1
  cases pb with
  | true => exact ⟨_, (seq_at (ifS_sk p1)).trans (retF_at p2)⟩
  | false => exact ⟨_, seq_rt ((ifS_t p1).trans (retF_at rfl))⟩
theorem wayM_ev (c q : Int) : mC_way_put [sqD r x, .int c, .int q] = some (wD (wayI r x c q)) := by
  have h1 := G.R.len; have h2 := G.X.len; have h3 := G.lo; have h4 := G.hi
  apply fnP_ex (kd := .s) (n := 5) (t := tC_way_put)
  unfold tC_way_put
  rw [seq_at (ρ' := [.v (sqD r x), .v (.int c), .v (.int q), .v (.int ((r.length : Int) - 2)), .no]) ((setF_at ((op2_at (len_tupN r _ _ rfl) (y := .int 2) rfl).trans (subF_int _ _))).trans rfl)]
  have p1 : or2 (not1 (toB (ch3 leF leF (cst (.int 0)) (nmF 1) (nmF 3)))) (not1 (toB (ch3 leF leF (cst (.int 0)) (nmF 2) (nmF 3)))) [.v (sqD r x), .v (.int c), .v (.int q), .v (.int ((r.length : Int) - 2)), .no] = some (!(decide (0 ≤ c) && decide (c ≤ (r.length : Int) - 2)) || !(decide (0 ≤ q) && decide (q ≤ (r.length : Int) - 2))) :=
    or2_bb (not_at (toB_at (ch3_mk (x := .int 0) (y := .int c) (z := .int ((r.length : Int) - 2)) rfl rfl rfl rfl rfl))) (not_at (toB_at (ch3_mk (x := .int 0) (y := .int q) (z := .int ((r.length : Int) - 2)) rfl rfl rfl rfl rfl)))
  unfold wayI
  by_cases hg : (decide (0 ≤ c) && decide (c ≤ (r.length : Int) - 2)) = true ∧ (decide (0 ≤ q) && decide (q ≤ (r.length : Int) - 2)) = true
  · rw [if_pos hg]
    rw [hg.1, hg.2] at p1
    rw [Bool.and_eq_true, Bool.and_eq_true, decide_eq_true_eq, decide_eq_true_eq, decide_eq_true_eq, decide_eq_true_eq] at hg
    rw [seq_at (ifS_sk p1)]
    obtain ⟨c, rfl⟩ : ∃ m : Nat, c = m := ⟨c.toNat, by omega⟩
    obtain ⟨q, rfl⟩ : ∃ m : Nat, q = m := ⟨q.toNat, by omega⟩
    rw [Int.toNat_natCast, Int.toNat_natCast]
    have fw := findW (a := sqD r x) (b := nI c) (d := nI q) (e := .int ((r.length : Int) - 2)) (bd := ifS (tru1 (callF (nF 4 mC_is_put) (consA (nmF 0) (consA (nmF 1) (consA (nmF 2) (consA (nmF 4) (nilA))))))) (retF (nmF 4)) (skip)) (q := isputB r x c q) (List.range 4) .no fun w hw => by
      rw [List.mem_range] at hw
      have := tru_bl ((cl_at (ds := [sqD r x, nI c, nI q, nI w]) (fs := consA (nmF 0) (consA (nmF 1) (consA (nmF 2) (consA (nmF 4) (nilA))))) (ρ := [.v (sqD r x), .v (nI c), .v (nI q), .v (.int ((r.length : Int) - 2)), .v (nI w)]) rfl rfl).trans (isput_ev G (c := c) (q := q) (w := w) (by omega) hw))
      cases e : isputB r x c q w with
      | true => rw [e] at this; rw [if_pos rfl]; exact (ifS_t this).trans (retF_at rfl)
      | false => rw [e] at this; rw [if_neg (by simp)]; exact ifS_sk this
    unfold wayP
    have fs : forS (puA (rngA1 (consA (cst (.int 4)) (nilA)))) (gN 4) (ifS (tru1 (callF (nF 4 mC_is_put) (consA (nmF 0) (consA (nmF 1) (consA (nmF 2) (consA (nmF 4) (nilA))))))) (retF (nmF 4)) (skip)) [.v (sqD r x), .v (nI c), .v (nI q), .v (.int ((r.length : Int) - 2)), .no] = forL (gN 4) (ifS (tru1 (callF (nF 4 mC_is_put) (consA (nmF 0) (consA (nmF 1) (consA (nmF 2) (consA (nmF 4) (nilA))))))) (retF (nmF 4)) (skip)) ((List.range 4).map nI) [.v (sqD r x), .v (nI c), .v (nI q), .v (.int ((r.length : Int) - 2)), .no] := forS_at (puA_at (rngA1_at (n := 4) rfl (by omega)))
    cases e : (List.range 4).find? (isputB r x c q) with
    | some w =>
      rw [e] at fw
      obtain ⟨ρ, h⟩ := fw
      exact ⟨_, seq_rt (fs.trans h)⟩
    | none =>
      rw [e] at fw
      obtain ⟨s, h⟩ := fw
      exact ⟨_, (seq_at (fs.trans h)).trans (retF_at rfl)⟩
  · rw [if_neg hg]
    have : (!(decide (0 ≤ c) && decide (c ≤ (r.length : Int) - 2)) || !(decide (0 ≤ q) && decide (q ≤ (r.length : Int) - 2))) = true := by
      cases e1 : (decide (0 ≤ c) && decide (c ≤ (r.length : Int) - 2)) <;> cases e2 : (decide (0 ≤ q) && decide (q ≤ (r.length : Int) - 2)) <;> first | rfl | exact absurd ⟨e1, e2⟩ hg
    rw [this] at p1
    exact ⟨_, seq_rt ((ifS_t p1).trans (retF_at rfl))⟩
theorem wayI_some {c q : Int} {w : Nat} (h : wayI r x c q = some w) : ∃ c' q' : Nat, c = c' ∧ q = q' ∧ c' + 1 < n ∧ q' + 1 < n ∧ w < 4 ∧ isputB r x c' q' w = true := by
  have h1 := G.R.len
  unfold wayI at h
  split at h
  · rename_i hg
    rw [Bool.and_eq_true, Bool.and_eq_true, decide_eq_true_eq, decide_eq_true_eq, decide_eq_true_eq, decide_eq_true_eq] at hg
    unfold wayP at h
    have m := List.mem_of_find?_eq_some h
    rw [List.mem_range] at m
    exact ⟨c.toNat, q.toNat, by omega, by omega, by omega, by omega, m, List.find?_some h⟩
  · cases h
def tknE (r x : List Nat) (c q : Int) : Except Ex D := match wayI r x c q with
  | none => .error noM
  | some w => .ok (sqD (joinL r q.toNat (fuC c.toNat w)) (joinL x q.toNat (fuC c.toNat w)))
theorem tknM_ev (c q : Int) : mC_corner_taken [sqD r x, .int c, .int q] = some (tknE r x c q) := by
  have h1 := G.R.len; have h2 := G.X.len; have h3 := G.lo; have h4 := G.hi
  have s1 : lfX (setF 3 (callF (nF 3 mC_way_put) (consA (nmF 0) (consA (nmF 1) (consA (nmF 2) (nilA)))))) (rho0 7 [sqD r x, .int c, .int q]) = .ok (.nx [.v (sqD r x), .v (.int c), .v (.int q), .v (wD (wayI r x c q)), .no, .no, .no]) := lfX_at ((setF_at ((cl_at (ds := [sqD r x, .int c, .int q]) rfl rfl).trans (wayM_ev G c q))).trans rfl)
  unfold tknE
  cases e : wayI r x c q with
  | none =>
    rw [e] at s1
    refine fnX_e2 (kd := .s) (n := 7) (t := tC_corner_taken) ?_
    unfold tC_corner_taken
    rw [seqX_nx s1]
    exact ⟨_, seqX_er ((ifX_t (toB_at (b := true) ((op2_at (x := .non) (y := .non) rfl rfl).trans rfl))).trans rfl)⟩
  | some w =>
    rw [e] at s1
    obtain ⟨c, q, rfl, rfl, hc, hq, hw, _⟩ := wayI_some G e
    rw [Int.toNat_natCast, Int.toNat_natCast]
    refine fnX_ok (kd := .s) (n := 7) (t := tC_corner_taken) (ρ := [.v (sqD r x), .v (nI c), .v (nI q), .v (nI w), .v (tupN r), .v (tupN x), .v (nI (fuC c w))]) ?_
    unfold tC_corner_taken
    rw [seqX_nx s1, seqX_nx (ifX_sk (toB_at (b := false) ((op2_at (x := nI w) (y := .non) rfl rfl).trans rfl)))]
    refine lfX_at ?_
    refine (seq_at (ρ' := [.v (sqD r x), .v (nI c), .v (nI q), .v (nI w), .v (tupN r), .v (tupN x), .no]) (asg_at (pu_at rfl) rfl)).trans ?_
    refine (seq_at (ρ' := [.v (sqD r x), .v (nI c), .v (nI q), .v (nI w), .v (tupN r), .v (tupN x), .v (nI (fuC c w))]) ((setF_at ((op2_at ((cl_at (ds := [nI c, nI q, nI w]) rfl rfl).trans (faf_ev c q hw)) (y := .int 2) rfl).trans rfl)).trans rfl)).trans ?_
    exact retF_at (tupF_at (consA_at ((cl_at (ds := [tupN r, nI q, nI (fuC c w)]) rfl rfl).trans (joined_ev r q _ (by omega))) (consA_at ((cl_at (ds := [tupN x, nI q, nI (fuC c w)]) rfl rfl).trans (joined_ev x q _ (by omega))) rfl)) (by simp))
theorem Gd.tkn {c q w : Nat} (hc : c + 1 < n) (hq : q + 1 < n) (hw : w < 4) (h : isputB r x c q w = true) : Gd (n - 1) (joinL r q (fuC c w)) (joinL x q (fuC c w)) := by
  unfold isputB at h
  simp only [Bool.and_eq_true, decide_eq_true_eq, Bool.not_eq_true', decide_eq_false_iff_not] at h
  obtain ⟨⟨a1, a2⟩, a3, a4⟩ := h
  have d : w / 2 = 0 ∨ w / 2 = 1 := by omega
  have hf : fuC c w < n := by unfold fuC; omega
  have hf2 : frC c w < n := by unfold frC; omega
  have hne : fuC c w ≠ frC c w := by unfold fuC frC; omega
  refine ⟨G.R.join hq hf ?_, G.X.join hq hf ?_, ?_, by have := G.hi; omega⟩
  · rw [a1]; unfold fuR; rcases d with d | d <;> rw [d] <;> omega
  · rw [a2]; unfold frR; rcases d with d | d <;> rw [d] <;> omega
  · have h3 := G.lo
    refine Nat.le_sub_of_add_le ?_
    by_cases e : n = 2
    · exfalso
      subst e
      have g1 := G.R.get hf2
      have g2 : r.getD (frC c w) 0 ≠ r.getD (fuC c w) 0 := fun z => hne (G.R.inj hf2 hf z).symm
      apply a4
      rw [a1] at g2
      unfold fuR at g2
      unfold frR
      rcases d with d | d <;> rw [d] at g2 ⊢ <;> omega
    · omega
end
end L2
set_option Elab.async false
set_option linter.all false
set_option maxRecDepth 100000
set_option maxHeartbeats 4000000
namespace L2
open PySem PySem.Spec PyProof.Rows
/-- what a move may be -/
inductive Mo
  | cols (k : Int) | rows (k : Int) | tip | swap (c : Int) | cross (c : Int) | put (c w : Int) | take (c q : Int)
def Mo.d : Mo → D
  | .cols k => .tup [.str "columns", .int k]
  | .rows k => .tup [.str "rows", .int k]
  | .tip => .tup [.str "tip"]
  | .swap c => .tup [.str "swap", .int c]
  | .cross c => .tup [.str "cross", .int c]
  | .put c w => .tup [.str "put", .int c, .int w]
  | .take c q => .tup [.str "take", .int c, .int q]
def putE (n : Nat) (r x : List Nat) (c w : Int) : Except Ex D := if (decide (0 ≤ c) && decide (c < n)) = true ∧ (decide (0 ≤ w) && decide (w < 4)) = true then (if n < 6 then .ok (sqD (putL r (x.getD c.toNat 0) (frR (x.getD c.toNat 0) w.toNat) (fuC c.toNat w.toNat) (fuR (x.getD c.toNat 0) w.toNat)) (putL x (x.getD c.toNat 0) (fuR (x.getD c.toNat 0) w.toNat) (fuC c.toNat w.toNat) (frR (x.getD c.toNat 0) w.toNat))) else .error tooM) else .error noM
def chgE (r x : List Nat) (c : Int) : Except Ex D := if mayI r x c = true then .ok (sqD (exO r c.toNat (c.toNat + 1)) (exO x c.toNat (c.toNat + 1))) else .error noM
def rchE (r x : List Nat) (c : Int) : Except Ex D := if mayI (tipL r) (tipL x) c = true then .ok (sqD (tipL (exO (tipL r) c.toNat (c.toNat + 1))) (tipL (exO (tipL x) c.toNat (c.toNat + 1)))) else .error noM
def Mo.e (n : Nat) (r x : List Nat) : Mo → Except Ex D
  | .cols k => .ok (sqD (rotL r k) (rotL x k))
  | .rows k => .ok (sqD (raiL r k) (raiL x k))
  | .tip => .ok (sqD (tipL r) (tipL x))
  | .swap c => chgE r x c
  | .cross c => rchE r x c
  | .put c w => putE n r x c w
  | .take c q => tknE r x c q
theorem eqStr (s t : Str) : eqF (.str s) (.str t) = some (.bl (eqD (.str s) (.str t))) := eqF_ev (show dep (.str s) ≤ 32 by unfold dep; omega)
theorem moved_ev {n : Nat} {r x : List Nat} (G : Gd n r x) (m : Mo) : mC_moved [sqD r x, m.d] = some (m.e n r x) := by
  have no : ∀ (ρ : Rho) (s t : Str) (b : Bool), nmF 2 ρ = some (.str s) → eqD (.str s) (.str t) = b → toB (op2 eqF (nmF 2) (cst (.str t))) ρ = some b := fun ρ s t b h e => toB_at ((op2_at h (y := .str t) rfl).trans ((eqStr s t).trans (by rw [e])))
  have s1 : ∀ (s : Str) (d : D), ixD d (.int 0) = some (.str s) → lfX (setF 2 (op2 ixD (nmF 1) (cst (.int 0)))) (rho0 3 [sqD r x, d]) = .ok (.nx [.v (sqD r x), .v d, .v (.str s)]) := fun s d h => lfX_at ((setF_at ((op2_at (x := d) (y := .int 0) rfl rfl).trans h)).trans rfl)
  cases m with
  | cols k =>
    refine fnX_ok (kd := .s) (n := 3) (t := tC_moved) (ρ := [.v (sqD r x), .v (Mo.cols k).d, .v (.str "columns")]) ?_
    unfold tC_moved
    rw [seqX_nx (s1 "columns" _ rfl)]
    exact seqX_rt (lfX_at ((ifS_t (no _ "columns" _ true rfl rfl)).trans (retF_at ((cl_at (ds := [sqD r x, .int k]) rfl rfl).trans (colsM_ev G k)))))
  | rows k =>
    refine fnX_ok (kd := .s) (n := 3) (t := tC_moved) (ρ := [.v (sqD r x), .v (Mo.rows k).d, .v (.str "rows")]) ?_
    unfold tC_moved
    rw [seqX_nx (s1 "rows" _ rfl), seqX_nx (lfX_at (ifS_sk (no _ "rows" _ false rfl rfl)))]
    exact seqX_rt (lfX_at ((ifS_t (no _ "rows" _ true rfl rfl)).trans (retF_at ((cl_at (ds := [sqD r x, .int k]) rfl rfl).trans (rowsM_ev G k)))))
  | tip =>
    refine fnX_ok (kd := .s) (n := 3) (t := tC_moved) (ρ := [.v (sqD r x), .v (Mo.tip).d, .v (.str "tip")]) ?_
    unfold tC_moved
    rw [seqX_nx (s1 "tip" _ rfl), seqX_nx (lfX_at (ifS_sk (no _ "tip" _ false rfl rfl))), seqX_nx (lfX_at (ifS_sk (no _ "tip" _ false rfl rfl)))]
    exact seqX_rt (lfX_at ((ifS_t (no _ "tip" _ true rfl rfl)).trans (retF_at ((cl_at (ds := [sqD r x]) rfl rfl).trans (tipsM_ev G)))))
  | swap c =>
    have e1 : callR 2 mC_columns_changed (puRA (consA (nmF 0) (consA (op2 ixD (nmF 1) (cst (.int 1))) (nilA)))) [.v (sqD r x), .v (Mo.swap c).d, .v (.str "swap")] = some (chgE r x c) := (callR_at (ds := [sqD r x, .int c]) (puRA_at rfl) rfl).trans (chgM_ev G c)
    have e2 : tC_moved (rho0 3 [sqD r x, (Mo.swap c).d]) = seqX (retR (callR 2 mC_columns_changed (puRA (consA (nmF 0) (consA (op2 ixD (nmF 1) (cst (.int 1))) (nilA)))))) (fun _ => .ok .no) [.v (sqD r x), .v (Mo.swap c).d, .v (.str "swap")] := by
      unfold tC_moved
      rw [seqX_nx (s1 "swap" _ rfl), seqX_nx (lfX_at (ifS_sk (no _ "swap" _ false rfl rfl))), seqX_nx (lfX_at (ifS_sk (no _ "swap" _ false rfl rfl))), seqX_nx (lfX_at (ifS_sk (no _ "swap" _ false rfl rfl)))]
      show seqX _ _ _ = _
      cases e : chgE r x c with
      | ok d => rw [e] at e1; rw [seqX_rt ((ifX_t (no _ "swap" _ true rfl rfl)).trans (retR_ok e1)), seqX_rt (retR_ok e1)]
      | error z => rw [e] at e1; rw [seqX_er ((ifX_t (no _ "swap" _ true rfl rfl)).trans (retR_er e1)), seqX_er (retR_er e1)]
    show _ = some (chgE r x c)
    cases e : chgE r x c with
    | ok d => rw [e] at e1; exact fnX_ok (kd := .s) (n := 3) (t := tC_moved) (e2.trans (seqX_rt (retR_ok e1)))
    | error z => rw [e] at e1; exact fnX_er (kd := .s) (n := 3) (t := tC_moved) (e2.trans (seqX_er (retR_er e1)))
  | cross c =>
    have e1 : callR 2 mC_rows_changed (puRA (consA (nmF 0) (consA (op2 ixD (nmF 1) (cst (.int 1))) (nilA)))) [.v (sqD r x), .v (Mo.cross c).d, .v (.str "cross")] = some (rchE r x c) := (callR_at (ds := [sqD r x, .int c]) (puRA_at rfl) rfl).trans (rchgM_ev G c)
    have e2 : tC_moved (rho0 3 [sqD r x, (Mo.cross c).d]) = seqX (retR (callR 2 mC_rows_changed (puRA (consA (nmF 0) (consA (op2 ixD (nmF 1) (cst (.int 1))) (nilA)))))) (fun _ => .ok .no) [.v (sqD r x), .v (Mo.cross c).d, .v (.str "cross")] := by
      unfold tC_moved
      rw [seqX_nx (s1 "cross" _ rfl), seqX_nx (lfX_at (ifS_sk (no _ "cross" _ false rfl rfl))), seqX_nx (lfX_at (ifS_sk (no _ "cross" _ false rfl rfl))), seqX_nx (lfX_at (ifS_sk (no _ "cross" _ false rfl rfl))), seqX_nx (ifX_sk (no _ "cross" _ false rfl rfl))]
      cases e : rchE r x c with
      | ok d => rw [e] at e1; rw [seqX_rt ((ifX_t (no _ "cross" _ true rfl rfl)).trans (retR_ok e1)), seqX_rt (retR_ok e1)]
      | error z => rw [e] at e1; rw [seqX_er ((ifX_t (no _ "cross" _ true rfl rfl)).trans (retR_er e1)), seqX_er (retR_er e1)]
    show _ = some (rchE r x c)
    cases e : rchE r x c with
    | ok d => rw [e] at e1; exact fnX_ok (kd := .s) (n := 3) (t := tC_moved) (e2.trans (seqX_rt (retR_ok e1)))
    | error z => rw [e] at e1; exact fnX_er (kd := .s) (n := 3) (t := tC_moved) (e2.trans (seqX_er (retR_er e1)))
  | put c w =>
    have e1 : callR 3 mC_corner_put (puRA (consA (nmF 0) (consA (op2 ixD (nmF 1) (cst (.int 1))) (consA (op2 ixD (nmF 1) (cst (.int 2))) (nilA))))) [.v (sqD r x), .v (Mo.put c w).d, .v (.str "put")] = some (putE n r x c w) := (callR_at (ds := [sqD r x, .int c, .int w]) (puRA_at rfl) rfl).trans (putM_ev G c w)
    have e2 : tC_moved (rho0 3 [sqD r x, (Mo.put c w).d]) = seqX (retR (callR 3 mC_corner_put (puRA (consA (nmF 0) (consA (op2 ixD (nmF 1) (cst (.int 1))) (consA (op2 ixD (nmF 1) (cst (.int 2))) (nilA))))))) (fun _ => .ok .no) [.v (sqD r x), .v (Mo.put c w).d, .v (.str "put")] := by
      unfold tC_moved
      rw [seqX_nx (s1 "put" _ rfl), seqX_nx (lfX_at (ifS_sk (no _ "put" _ false rfl rfl))), seqX_nx (lfX_at (ifS_sk (no _ "put" _ false rfl rfl))), seqX_nx (lfX_at (ifS_sk (no _ "put" _ false rfl rfl))), seqX_nx (ifX_sk (no _ "put" _ false rfl rfl)), seqX_nx (ifX_sk (no _ "put" _ false rfl rfl))]
      cases e : putE n r x c w with
      | ok d => rw [e] at e1; rw [seqX_rt ((ifX_t (no _ "put" _ true rfl rfl)).trans (retR_ok e1)), seqX_rt (retR_ok e1)]
      | error z => rw [e] at e1; rw [seqX_er ((ifX_t (no _ "put" _ true rfl rfl)).trans (retR_er e1)), seqX_er (retR_er e1)]
    show _ = some (putE n r x c w)
    cases e : putE n r x c w with
    | ok d => rw [e] at e1; exact fnX_ok (kd := .s) (n := 3) (t := tC_moved) (e2.trans (seqX_rt (retR_ok e1)))
    | error z => rw [e] at e1; exact fnX_er (kd := .s) (n := 3) (t := tC_moved) (e2.trans (seqX_er (retR_er e1)))
  | take c q =>
    have e1 : callR 3 mC_corner_taken (puRA (consA (nmF 0) (consA (op2 ixD (nmF 1) (cst (.int 1))) (consA (op2 ixD (nmF 1) (cst (.int 2))) (nilA))))) [.v (sqD r x), .v (Mo.take c q).d, .v (.str "take")] = some (tknE r x c q) := (callR_at (ds := [sqD r x, .int c, .int q]) (puRA_at rfl) rfl).trans (tknM_ev G c q)
    refine fnX_r (kd := .s) (n := 3) (t := tC_moved) ?_ e1
    unfold tC_moved
    rw [seqX_nx (s1 "take" _ rfl), seqX_nx (lfX_at (ifS_sk (no _ "take" _ false rfl rfl))), seqX_nx (lfX_at (ifS_sk (no _ "take" _ false rfl rfl))), seqX_nx (lfX_at (ifS_sk (no _ "take" _ false rfl rfl))), seqX_nx (ifX_sk (no _ "take" _ false rfl rfl)), seqX_nx (ifX_sk (no _ "take" _ false rfl rfl)), seqX_nx (ifX_sk (no _ "take" _ false rfl rfl))]
theorem tryA_ok {i : Nat} {ns ys : List Str} {t : FX} {u : FS} {ρ : Rho} {o : Out} (h : t ρ = .ok o) : tryA i ns ys t u ρ = o := by unfold tryA; rw [h]
theorem tryA_er {i : Nat} {ns ys : List Str} {t : FX} {u : FS} {ρ ρ' ρ2 : Rho} {z : Ex} {d : D} (h : t ρ = .error (z, ρ')) (h1 : ns.contains z.x = true) (h2 : (ys.any fun y => subE z.x y) = true) (h3 : u (ρ'.set i (.ob (.exc z.x z.n))) = .rt d ρ2) : tryA i ns ys t u ρ = .rt d ρ2 := by
  unfold tryA; rw [h]; dsimp only; rw [if_pos ⟨h1, h2⟩, h3]
/-- what a move leads to -/
inductive Led (r : Except Ex D) : Prop
  | ok {n : Nat} {r' x' : List Nat} (G : Gd n r' x') (e : r = .ok (sqD r' x'))
  | no (e : r = .error noM)
  | too (e : r = .error tooM)
theorem ledM {n : Nat} {r x : List Nat} (G : Gd n r x) (m : Mo) : Led (m.e n r x) := by
  cases m with
  | cols k => exact .ok (G.rot k) rfl
  | rows k => exact .ok (G.rai k) rfl
  | tip => exact .ok G.tip rfl
  | swap c =>
    show Led (chgE r x c)
    unfold chgE
    by_cases h : mayI r x c = true
    · exact .ok (G.chg h) (if_pos h)
    · exact .no (if_neg h)
  | cross c =>
    show Led (rchE r x c)
    unfold rchE
    by_cases h : mayI (tipL r) (tipL x) c = true
    · exact .ok (G.tip.chg h).tip (if_pos h)
    · exact .no (if_neg h)
  | put c w =>
    show Led (putE n r x c w)
    unfold putE
    by_cases hg : (decide (0 ≤ c) && decide (c < n)) = true ∧ (decide (0 ≤ w) && decide (w < 4)) = true
    · rw [if_pos hg]
      rw [Bool.and_eq_true, Bool.and_eq_true, decide_eq_true_eq, decide_eq_true_eq, decide_eq_true_eq, decide_eq_true_eq] at hg
      by_cases h6 : n < 6
      · exact .ok (G.put (c := c.toNat) (w := w.toNat) (by omega) (by omega) h6) (if_pos h6)
      · exact .too (if_neg h6)
    · exact .no (if_neg hg)
  | take c q =>
    show Led (tknE r x c q)
    cases e : wayI r x c q with
    | none => exact .no (by unfold tknE; rw [e])
    | some w =>
      obtain ⟨c, q, rfl, rfl, hc, hq, hw, h⟩ := wayI_some G e
      exact .ok (G.tkn hc hq hw h) (by unfold tknE; rw [e]; rfl)
end L2
set_option Elab.async false
set_option linter.all false
set_option maxRecDepth 100000
set_option maxHeartbeats 1000000
namespace L2
open PySem PySem.Spec PyProof.Rows
/-! the law's square, where what is walked may be a list or a tuple -/
def tD_square : FS :=
  seqS (setE 2 (callE 0 1 mC_take (puA (consA (cst (.int 4)) (nilA)))))
  (seqS (setE 3 (op2E addF (pu (cst (.int 1))) (callE 0 1 mC_take (puA (consA (op2 subF (nmF 1) (cst (.int 1))) (nilA))))))
  (seqS (setE 4 (callE 0 1 mC_order (puA (consA (nmF 1) (nilA)))))
  (seqS (ownE 5 (callE 0 1 mC_order (puA (consA (nmF 1) (nilA)))))
  (seqS (ifS (toB (op2 eqF (nmF 2) (cst (.int 1)))) (seqS (setF 4 (lr1 (nmF 1)))
  (ownF 5 (compF 1 (seqA (nmF 4)) (gN 8) (yesT) (op2 modF (op2 addF (nmF 8) (nmF 3)) (nmF 1))))) (skip))
  (seqS (forS (puA (rngA1 (consA (nmF 1) (nilA)))) (gN 6) (seqS (setF 7 (op2 modF (op2 addF (nmF 6) (cst (.int 1))) (nmF 1)))
  (ifS (toB (op2 eqF (op2 ixD (nbF 5) (nmF 6)) (op2 ixD (nmF 4) (nmF 6)))) (asgE (gT 2 (gsC (setIx 5 (nmF 6)) (gsC (setIx 5 (nmF 7)) (gsN)))) (pu (tupF (consA (op2 ixD (nbF 5) (nmF 7)) (consA (op2 ixD (nbF 5) (nmF 6)) (nilA)))))) (skip))))
  (retF (tupF (consA (callF tupleD (consA (nmF 4) (nilA))) (consA (callF tupleD (consA (nbF 5) (nilA))) (nilA))))))))))
def mD_square : List D → List D → Option (D × List D) := fnE .s 8 tD_square
theorem squareD_ev {N : Nat} {a b : Int} (B : Bag N a b) {n : Nat} (h2 : 2 ≤ n) (h6 : n ≤ 6) (hN : N ≤ 800000000) : ∃ (r x : List Nat) (a' b' : Int), mD_square (bagD a b) [nI n] = some (sqD r x, bagD a' b') ∧ Sq n r x ∧ Bag (N + 2 * n + 2) a' b' := by
  obtain ⟨p, a1, b1, e1, B1, p0, p1⟩ := take_ev (m := 4) B (by omega) (by decide) (by decide)
  obtain ⟨q, a2, b2, e2, B2, q0, q1⟩ := take_ev (m := (n : Int) - 1) B1 (by omega) (by omega) (Nat.lt_of_lt_of_le (show ((n : Int) - 1).natAbs < 10 ^ 10 by omega) (by decide))
  obtain ⟨r, a3, b3, e3, or, B3⟩ := order_ev B2 (n := n) (by omega) (by omega)
  obtain ⟨x, a4, b4, e4, ox, B4⟩ := order_ev B3 (n := n) (by omega) (by omega)
  obtain ⟨q', rfl⟩ : ∃ j : Nat, q = (j : Int) := ⟨q.toNat, by omega⟩
  have r0 : rhoE 8 (bagD a b) [nI n] = [.arg (bagD a b), .v (nI n), .no, .no, .no, .no, .no, .no] := rfl
  have s1 : setE 2 (callE 0 1 mC_take (puA (consA (cst (.int 4)) (nilA)))) [.arg (bagD a b), .v (nI n), .no, .no, .no, .no, .no, .no] = .nx [.arg (bagD a1 b1), .v (nI n), .v (.int p), .no, .no, .no, .no, .no] :=
    (setE_at (callE_at (i := 0) (n := 1) (b0 := bagD a b) (ds := [.int 4]) rfl (puA_at rfl) rfl rfl e1)).trans rfl
  have s2 : setE 3 (op2E addF (pu (cst (.int 1))) (callE 0 1 mC_take (puA (consA (op2 subF (nmF 1) (cst (.int 1))) (nilA))))) [.arg (bagD a1 b1), .v (nI n), .v (.int p), .no, .no, .no, .no, .no] = .nx [.arg (bagD a2 b2), .v (nI n), .v (.int p), .v (nI (q' + 1)), .no, .no, .no, .no] :=
    (setE_at (op2E_at (pu_at rfl) (callE_at (i := 0) (n := 1) (b0 := bagD a1 b1) (ds := [.int ((n : Int) - 1)]) rfl (puA_at rfl) rfl rfl e2) (show addF (.int 1) (nI q') = some (nI (q' + 1)) by rw [addF_int]; simp; omega))).trans rfl
  have s3 : setE 4 (callE 0 1 mC_order (puA (consA (nmF 1) (nilA)))) [.arg (bagD a2 b2), .v (nI n), .v (.int p), .v (nI (q' + 1)), .no, .no, .no, .no] = .nx [.arg (bagD a3 b3), .v (nI n), .v (.int p), .v (nI (q' + 1)), .v (.lst (r.map nI)), .no, .no, .no] :=
    (setE_at (callE_at (i := 0) (n := 1) (b0 := bagD a2 b2) (ds := [nI n]) rfl (puA_at rfl) rfl rfl e3)).trans rfl
  have s4 : ownE 5 (callE 0 1 mC_order (puA (consA (nmF 1) (nilA)))) [.arg (bagD a3 b3), .v (nI n), .v (.int p), .v (nI (q' + 1)), .v (.lst (r.map nI)), .no, .no, .no] = .nx [.arg (bagD a4 b4), .v (nI n), .v (.int p), .v (nI (q' + 1)), .v (.lst (r.map nI)), .own (x.map nI), .no, .no] :=
    (ownE_at (callE_at (i := 0) (n := 1) (b0 := bagD a3 b3) (ds := [nI n]) rfl (puA_at rfl) rfl rfl e4)).trans rfl
  have s5 : ∃ (r' x' : List Nat), ifS (toB (op2 eqF (nmF 2) (cst (.int 1)))) (seqS (setF 4 (lr1 (nmF 1)))
      (ownF 5 (compF 1 (seqA (nmF 4)) (gN 8) (yesT) (op2 modF (op2 addF (nmF 8) (nmF 3)) (nmF 1))))) (skip) [.arg (bagD a4 b4), .v (nI n), .v (.int p), .v (nI (q' + 1)), .v (.lst (r.map nI)), .own (x.map nI), .no, .no] = .nx [.arg (bagD a4 b4), .v (nI n), .v (.int p), .v (nI (q' + 1)), .v (.lst (r'.map nI)), .own (x'.map nI), .no, .no] ∧ Ord n r' ∧ Ord n x' := by
    unfold ifS toB
    rw [op2_at (x := .int p) (y := .int 1) rfl rfl, eqF_ev (by rw [dep_int]; omega), eqD_int]
    by_cases hp : p = 1
    · refine ⟨List.range n, (List.range n).map fun i => (i + (q' + 1)) % n, ?_, ⟨.refl _⟩, rot_ord n h2 h6 (q' + 1) (by omega) (by omega)⟩
      rw [decide_eq_true hp]
      simp only [asB]
      rw [seq_at ((setF_at (lr_ev (n := n) (by omega) (nmF 1) _ rfl)).trans rfl)]
      refine (ownF_at (compF_at (ds := (List.range n).map nI) (ys := (List.range n).map fun i => nI ((i + (q' + 1)) % n)) rfl (by simp; omega) (compL_map _ fun i hi => ⟨_, rfl, ?_⟩))).trans ?_
      · exact (op2_at ((op2_at (x := nI i) (y := nI (q' + 1)) rfl rfl).trans (addN _ _)) (y := nI n) rfl).trans (modN (by omega))
      · rw [List.map_map]; rfl
    · refine ⟨r, x, ?_, or, ox⟩
      rw [decide_eq_false hp]
      simp only [asB, skip]
  obtain ⟨r', x', s5, or', ox'⟩ := s5
  obtain ⟨x2, t6, t7, lp, ox2, hne⟩ := loopQ (bagD a4 b4) (.int p) (nI (q' + 1)) or' h2 n 0 x' .no .no (by omega) ox' (fun i h => absurd h (Nat.not_lt_zero _))
  have s6 : forS (puA (rngA1 (consA (nmF 1) (nilA)))) (gN 6) turnQ [.arg (bagD a4 b4), .v (nI n), .v (.int p), .v (nI (q' + 1)), .v (.lst (r'.map nI)), .own (x'.map nI), .no, .no] = .nx [.arg (bagD a4 b4), .v (nI n), .v (.int p), .v (nI (q' + 1)), .v (.lst (r'.map nI)), .own (x2.map nI), t6, t7] := by
    unfold forS
    rw [puA_at (rngA1_at (n := n) rfl (by omega))]
    dsimp only
    rw [List.range_eq_range']
    exact lp
  refine ⟨r', x2, a4, b4, ?_, ⟨or', ox2, hne⟩, by rw [show N + 2 * n + 2 = N + 1 + 1 + n + n by omega]; exact B4⟩
  unfold mD_square fnE tD_square
  rw [r0, seq_at s1, seq_at s2, seq_at s3, seq_at s4, seq_at s5]
  rw [seq_at s6]
  have s7 : retF (tupF (consA (callF tupleD (consA (nmF 4) (nilA))) (consA (callF tupleD (consA (nbF 5) (nilA))) (nilA)))) [.arg (bagD a4 b4), .v (nI n), .v (.int p), .v (nI (q' + 1)), .v (.lst (r'.map nI)), .own (x2.map nI), t6, t7] = .rt (sqD r' x2) [.arg (bagD a4 b4), .v (nI n), .v (.int p), .v (nI (q' + 1)), .v (.lst (r'.map nI)), .own (x2.map nI), t6, t7] := by
    unfold retF
    rw [tupF_at (ds := [tupN r', tupN x2]) rfl (by simp)]
  rw [s7]
  rfl
theorem fnE_rt {kd : Kd} {n : Nat} {t : FS} {bs ds b' : List D} {d : D} {ρ : Rho} (h : t (rhoE n bs ds) = .rt d ρ) (h2 : arg0 ρ = some b') : fnE kd n t bs ds = some (d, b') := by unfold fnE; rw [h]; dsimp only; rw [h2]; rfl
theorem forL_cnt {g : FG} {b : FS} {P : Nat → Rho → Prop} : ∀ (l : List D) (j : Nat), (∀ d ∈ l, ∀ i ρ, i < j + l.length → P i ρ → ∃ ρ1 ρ2, g d ρ = some ρ1 ∧ b ρ1 = .nx ρ2 ∧ P (i + 1) ρ2) → ∀ ρ, P j ρ → ∃ ρ', forL g b l ρ = .nx ρ' ∧ P (j + l.length) ρ'
  | [], j, _, ρ, p => ⟨ρ, rfl, p⟩
  | d :: l, j, h, ρ, p => by
    obtain ⟨ρ1, ρ2, h1, h2, p2⟩ := h d (List.mem_cons_self ..) j ρ (by rw [List.length_cons]; omega) p
    obtain ⟨ρ', e, p'⟩ := forL_cnt l (j + 1) (fun d' hd i ρ hi => h d' (List.mem_cons_of_mem _ hd) i ρ (by rw [List.length_cons]; omega)) ρ2 p2
    exact ⟨ρ', (forL_cons h1 h2).trans e, by rw [List.length_cons, Nat.add_comm l.length 1, ← Nat.add_assoc]; exact p'⟩
theorem dep_sq (r x : List Nat) : dep (sqD r x) ≤ 32 := by
  show dep (.tup [.tup (r.map nI), .tup (x.map nI)]) ≤ 32
  have e : ∀ l : List Nat, dep (.tup (l.map nI)) = 1 := fun l => by unfold dep; rw [deps_N]
  unfold dep deps deps deps
  rw [e, e]
  omega
end L2
set_option Elab.async false
set_option linter.all false
set_option maxRecDepth 100000
set_option maxHeartbeats 4000000
namespace L2
open PySem PySem.Spec PyProof.Rows
theorem mv_eq : m_moved = mC_moved := rfl
theorem by_eq : m_law_by_itself = m_moved := rfl
theorem cls_no : m_law_class noM = some (.str "no move") := by kernel_rfl
theorem cls_too : m_law_class tooM = some (.str "too many") := by kernel_rfl
theorem told_ev {n : Nat} {r x : List Nat} (G : Gd n r x) (m : Mo) : ∃ d, m_law_told [sqD r x, m.d] = some d ∧ m_law_due [sqD r x, m.d] = some d ∧ ((∃ n' r' x', Gd n' r' x' ∧ d = sqD r' x') ∨ d = .str "no move" ∨ d = .str "too many") := by
  have e := moved_ev G m
  have key : ∀ (z : Ex) (s : Str), mC_moved [sqD r x, m.d] = some (.error z) → m_law_class z = some (.str s) → exN.contains z.x = true → ((["RookError"] : List Str).any fun y => subE z.x y) = true → ∀ M : List D → Option (Except Ex D), M = mC_moved → fnP .s 3 (tryA 2 exN ["RookError"] (retR (callR 2 M (puRA (consA (nmF 0) (consA (nmF 1) (nilA)))))) (retF (exS 2 m_law_class))) [sqD r x, m.d] = some (.str s) := fun z s h1 h2 h3 h4 M hM =>
    fnP_ex (kd := .s) (n := 3) ⟨[.v (sqD r x), .v m.d, .ob (.exc z.x z.n)], tryA_er (retR_er ((callR_at (ds := [sqD r x, m.d]) (puRA_at rfl) rfl).trans (hM ▸ h1))) h3 h4 (retF_at h2)⟩
  cases ledM G m with
  | @ok n' r' x' G' e' =>
    rw [e'] at e
    have k2 : ∀ M : List D → Option (Except Ex D), M = mC_moved → fnP .s 3 (tryA 2 exN ["RookError"] (retR (callR 2 M (puRA (consA (nmF 0) (consA (nmF 1) (nilA)))))) (retF (exS 2 m_law_class))) [sqD r x, m.d] = some (sqD r' x') := fun M hM => by
      exact fnP_ex (kd := .s) (n := 3) ⟨[.v (sqD r x), .v m.d, .no], tryA_ok (retR_ok ((callR_at (ds := [sqD r x, m.d]) (puRA_at rfl) rfl).trans (hM ▸ e)))⟩
    exact ⟨_, k2 _ mv_eq, k2 _ (by_eq.trans mv_eq), .inl ⟨_, _, _, G', rfl⟩⟩
  | no e' =>
    rw [e'] at e
    exact ⟨_, key _ _ e cls_no (by decide +kernel) (by decide +kernel) _ mv_eq, key _ _ e cls_no (by decide +kernel) (by decide +kernel) _ (by_eq.trans mv_eq), .inr (.inl rfl)⟩
  | too e' =>
    rw [e'] at e
    exact ⟨_, key _ _ e cls_too (by decide +kernel) (by decide +kernel) _ mv_eq, key _ _ e cls_too (by decide +kernel) (by decide +kernel) _ (by_eq.trans mv_eq), .inr (.inr rfl)⟩
theorem move_ev {N : Nat} {a b : Int} (B : Bag N a b) (hN : N ≤ 800000000) {n : Nat} (hn : n ≤ 6) : ∃ (m : Mo) (a' b' : Int), m_law_move (bagD a b) [nI n] = some (m.d, bagD a' b') ∧ Bag (N + 4) a' b' := by
  obtain ⟨w, a1, b1, e1, B1, w0, w1⟩ := take_ev (m := 13) B (by omega) (by decide) (by decide)
  obtain ⟨d1, a2, b2, e2, B2, d10, d11⟩ := take_ev (m := ((n + 2 : Nat) : Int)) B1 (by omega) (by omega) (Nat.lt_trans (show _ < 9 by omega) (by decide))
  obtain ⟨d2, a3, b3, e3, B3, d20, d21⟩ := take_ev (m := ((n + 2 : Nat) : Int)) B2 (by omega) (by omega) (Nat.lt_trans (show _ < 9 by omega) (by decide))
  obtain ⟨d3, a4, b4, e4, B4, d30, d31⟩ := take_ev (m := 2 * 10 ^ 11) B3 (by omega) (by decide) (by decide)
  have pw : ∀ ρ : Rho, op2 powF (cst (.int 10)) (cst (.int 11)) ρ = some (.int (10 ^ 11)) := fun ρ => (op2_at (x := .int 10) (y := .int 11) rfl rfl).trans (powF_int (by decide) (by decide) (by decide))
  have ml : ∀ ρ : Rho, op2 mulF (cst (.int 2)) (op2 powF (cst (.int 10)) (cst (.int 11))) ρ = some (.int (2 * 10 ^ 11)) := fun ρ => (op2_at (x := .int 2) rfl (pw ρ)).trans (mulF_int (by decide) (by decide))
  have ad : ∀ ρ : Rho, nmF 1 ρ = some (nI n) → op2 addF (nmF 1) (cst (.int 2)) ρ = some (.int ((n + 2 : Nat) : Int)) := fun ρ h => (op2_at h (y := .int 2) rfl).trans (addF_int _ _)
  let one : Int := d1 - 1
  let oth : Int := d2 - 1
  let far : Int := d3 - 10 ^ 11
  obtain ⟨wn, hwn, rfl⟩ : ∃ wn : Nat, wn < 13 ∧ w = wn := ⟨w.toNat, by omega, by omega⟩
  have wm : modF (nI wn) (.int 4) = some (nI (wn % 4)) := modN (n := 4) (by decide)
  let L6 : List D := [(Mo.cols one).d, (Mo.rows oth).d, Mo.tip.d, (Mo.swap one).d, (Mo.swap oth).d, (Mo.cross one).d]
  let L10 : List D := L6 ++ [(Mo.cross oth).d, (Mo.put one (wn % 4 : Nat)).d, (Mo.put oth one).d, (Mo.take one oth).d]
  let L12 : List D := L10 ++ [(Mo.cols far).d, (Mo.rows far).d]
  let L13 : List D := L12 ++ [(Mo.take oth one).d]
  obtain ⟨m, hm⟩ : ∃ m : Mo, ixD (.lst L13) (nI wn) = some m.d := by
    have : wn = 0 ∨ wn = 1 ∨ wn = 2 ∨ wn = 3 ∨ wn = 4 ∨ wn = 5 ∨ wn = 6 ∨ wn = 7 ∨ wn = 8 ∨ wn = 9 ∨ wn = 10 ∨ wn = 11 ∨ wn = 12 := by omega
    rcases this with h | h | h | h | h | h | h | h | h | h | h | h | h <;> subst h
    · exact ⟨Mo.cols one, rfl⟩
    · exact ⟨Mo.rows oth, rfl⟩
    · exact ⟨Mo.tip, rfl⟩
    · exact ⟨Mo.swap one, rfl⟩
    · exact ⟨Mo.swap oth, rfl⟩
    · exact ⟨Mo.cross one, rfl⟩
    · exact ⟨Mo.cross oth, rfl⟩
    · exact ⟨Mo.put one (7 % 4 : Nat), rfl⟩
    · exact ⟨Mo.put oth one, rfl⟩
    · exact ⟨Mo.take one oth, rfl⟩
    · exact ⟨Mo.cols far, rfl⟩
    · exact ⟨Mo.rows far, rfl⟩
    · exact ⟨Mo.take oth one, rfl⟩
  refine ⟨m, a4, b4, ?_, by rw [show N + 4 = N + 1 + 1 + 1 + 1 by omega]; exact B4⟩
  refine fnE_rt (kd := .s) (n := 7) (t := t_law_move) (ρ := [.arg (bagD a4 b4), .v (nI n), .v (nI wn), .v (.int one), .v (.int oth), .v (.int far), .v (.lst L12)]) ?_ rfl
  unfold t_law_move
  refine (seq_at (ρ' := [.arg (bagD a1 b1), .v (nI n), .v (nI wn), .no, .no, .no, .no]) ((setE_at (callE_at (i := 0) (n := 1) (b0 := bagD a b) (ds := [.int 13]) rfl (puA_at rfl) rfl rfl e1)).trans rfl)).trans ?_
  refine (seq_at (ρ' := [.arg (bagD a2 b2), .v (nI n), .v (nI wn), .v (.int one), .no, .no, .no]) ((setE_at (op2E_at (callE_at (i := 0) (n := 1) (b0 := bagD a1 b1) (ds := [.int ((n + 2 : Nat) : Int)]) rfl (puA_at (consA_at (ad _ rfl) rfl)) rfl rfl e2) (pu_at (d := .int 1) rfl) (subF_int _ _))).trans rfl)).trans ?_
  refine (seq_at (ρ' := [.arg (bagD a3 b3), .v (nI n), .v (nI wn), .v (.int one), .v (.int oth), .no, .no]) ((setE_at (op2E_at (callE_at (i := 0) (n := 1) (b0 := bagD a2 b2) (ds := [.int ((n + 2 : Nat) : Int)]) rfl (puA_at (consA_at (ad _ rfl) rfl)) rfl rfl e3) (pu_at (d := .int 1) rfl) (subF_int _ _))).trans rfl)).trans ?_
  refine (seq_at (ρ' := [.arg (bagD a4 b4), .v (nI n), .v (nI wn), .v (.int one), .v (.int oth), .v (.int far), .no]) ((setE_at (op2E_at (callE_at (i := 0) (n := 1) (b0 := bagD a3 b3) (ds := [.int (2 * 10 ^ 11)]) rfl (puA_at (consA_at (ml _) rfl)) rfl rfl e4) (pu_at (pw _)) (subF_int _ _))).trans rfl)).trans ?_
  have t2 : ∀ (s : Str) (i : Nat) (k : Int) (ρ : Rho), nmF i ρ = some (.int k) → tupF (consA (cst (.str s)) (consA (nmF i) (nilA))) ρ = some (.tup [.str s, .int k]) := fun s i k ρ h => tupF_at (consA_at rfl (consA_at h rfl)) (by simp)
  have t3 : ∀ (s : Str) (f g : FE) (k l : Int) (ρ : Rho), f ρ = some (.int k) → g ρ = some (.int l) → tupF (consA (cst (.str s)) (consA f (consA g (nilA)))) ρ = some (.tup [.str s, .int k, .int l]) := fun s f g k l ρ h h2 => tupF_at (consA_at rfl (consA_at h (consA_at h2 rfl))) (by simp)
  have cat : ∀ xs ys : List D, xs.length + ys.length ≤ 900 → catLF (.lst xs) (.lst ys) = some (.lst (xs ++ ys)) := fun xs ys h => if_pos (Nat.le_trans h (by decide))
  refine (seq_at (ρ' := [.arg (bagD a4 b4), .v (nI n), .v (nI wn), .v (.int one), .v (.int oth), .v (.int far), .v (.lst L6)]) ((setF_at (lstF_at (ds := L6) (consA_at (t2 _ _ _ _ rfl) (consA_at (t2 _ _ _ _ rfl) (consA_at rfl (consA_at (t2 _ _ _ _ rfl) (consA_at (t2 _ _ _ _ rfl) (consA_at (t2 _ _ _ _ rfl) rfl)))))) (by show 6 ≤ 1000; omega))).trans rfl)).trans ?_
  refine (seq_at (ρ' := [.arg (bagD a4 b4), .v (nI n), .v (nI wn), .v (.int one), .v (.int oth), .v (.int far), .v (.lst L10)]) ((setF_at ((op2_at (x := .lst L6) rfl (lstF_at (ds := [(Mo.cross oth).d, (Mo.put one (wn % 4 : Nat)).d, (Mo.put oth one).d, (Mo.take one oth).d]) (consA_at (t2 _ _ _ _ rfl) (consA_at (t3 _ _ _ _ _ _ rfl ((op2_at (x := nI wn) (y := .int 4) rfl rfl).trans wm)) (consA_at (t3 _ _ _ _ _ _ rfl rfl) (consA_at (t3 _ _ _ _ _ _ rfl rfl) rfl)))) (by show 4 ≤ 1000; omega))).trans (cat _ _ (by show 6 + 4 ≤ 900; omega)))).trans rfl)).trans ?_
  refine (seq_at (ρ' := [.arg (bagD a4 b4), .v (nI n), .v (nI wn), .v (.int one), .v (.int oth), .v (.int far), .v (.lst L12)]) ((setF_at ((op2_at (x := .lst L10) rfl (lstF_at (ds := [(Mo.cols far).d, (Mo.rows far).d]) (consA_at (t2 _ _ _ _ rfl) (consA_at (t2 _ _ _ _ rfl) rfl)) (by show 2 ≤ 1000; omega))).trans (cat _ _ (by show 10 + 2 ≤ 900; omega)))).trans rfl)).trans ?_
  exact retF_at ((op2_at ((op2_at (x := .lst L12) rfl (lstF_at (ds := [(Mo.take oth one).d]) (consA_at (t3 _ _ _ _ _ _ rfl rfl) rfl) (by show 1 ≤ 1000; omega))).trans (cat _ _ (by show 12 + 1 ≤ 900; omega))) (y := nI wn) rfl).trans hm)
theorem cellsK (ns : List Int) (k : Nat) (hk : 1 ≤ k) (ρ : Rho) (h : nmF 0 ρ = some (scD ns)) : ∃ m : Nat, m ≤ k ∧ callF max2D (consA (cst (.int 1)) (consA (callF min2D (consA (cst (.int k)) (consA (callF lenD (consA (nmF 0) (nilA))) (nilA)))) (nilA))) ρ = some (nI m) := by
  have e1 : callF lenD (consA (nmF 0) nilA) ρ = some (nI ns.length) := by
    rw [callF_at (consA_at h rfl)]
    show some (D.int ((ns.map D.int).length : Int)) = _
    rw [List.length_map]
  refine ⟨max 1 (min k ns.length), by omega, ?_⟩
  refine (callF_at (consA_at rfl (consA_at ((callF_at (consA_at rfl (consA_at e1 rfl))).trans rfl) rfl))).trans ?_
  show some (D.int _) = some (D.int _)
  congr 2
  split <;> split <;> omega
theorem law_ev (ns : List Int) (hn : ns.length ≤ 63) : m_law [scD ns] = some (.bl true) := by
  refine fnP_ex (kd := .s) (n := 7) (t := t_law) ?_
  unfold t_law
  obtain ⟨kk, hk1, hk2⟩ := cellsK ns 4 (by omega) (rho0 7 [scD ns]) rfl
  refine seq_ex (fun ρ => ∃ s1 s2 s3 s4 s5 s6, ρ = [.v (scD ns), s1, s2, s3, s4, s5, s6]) (forS_ex (ds := (List.range kk).map nI) (puA_at (rngA1_at (consA_at hk2 rfl) (by omega))) (forL_ex _ (fun d hd ρ hρ => ?_) _ ⟨_, _, _, _, _, _, rfl⟩)) fun ρ' _ => ⟨ρ', rfl⟩
  obtain ⟨k, hk, rfl⟩ := List.mem_map.mp hd
  rw [List.mem_range] at hk
  obtain ⟨s1, s2, s3, s4, s5, s6, rfl⟩ := hρ
  obtain ⟨a0, b0, eb, B⟩ := bag_ev ns k (by omega) hn
  obtain ⟨d1, a1, b1, e1, B1, d10, d11⟩ := take_ev (m := 5) B (by omega) (by decide) (by decide)
  obtain ⟨m, hm, hm1, hm2⟩ : ∃ m : Nat, addF (.int 2) (.int d1) = some (nI m) ∧ 2 ≤ m ∧ m ≤ 6 := ⟨(2 + d1).toNat, by rw [addF_int, toN (by omega)], by omega, by omega⟩
  obtain ⟨r, x, a5, b5, e5, S, B5⟩ := squareD_ev B1 (n := m) hm1 hm2 (by omega)
  have q1 : ownF 2 (callF (nF 2 m_law_bag) (consA (nmF 0) (consA (nmF 1) (nilA)))) [.v (scD ns), .v (nI k), s2, s3, s4, s5, s6] = .nx [.v (scD ns), .v (nI k), .own (bagD a0 b0), s3, s4, s5, s6] := (ownF_at ((cl_at (ds := [scD ns, nI k]) rfl rfl).trans eb)).trans rfl
  have q2 : setE 3 (callE 2 1 m_law_square (consG (op2E addF (pu (cst (.int 2))) (callE 2 1 m_law_take (puA (consA (cst (.int 5)) (nilA))))) (puA (nilA)))) [.v (scD ns), .v (nI k), .own (bagD a0 b0), s3, s4, s5, s6] = .nx [.v (scD ns), .v (nI k), .own (bagD a5 b5), .v (sqD r x), s4, s5, s6] :=
    (setE_at (callE_at (i := 2) (n := 1) (b0 := bagD a0 b0) (ds := [nI m]) rfl (consG_at (op2E_at (pu_at rfl) (callE_at (i := 2) (n := 1) (b0 := bagD a0 b0) (ds := [.int 5]) rfl (puA_at rfl) rfl rfl e1) hm) rfl) rfl rfl e5)).trans rfl
  obtain ⟨ρ', lp, n', r', x', a', b', t4, t5, t6, G', B', rfl⟩ := forS_ex (f := puA (rngA1 (consA (cst (.int 12)) (nilA)))) (g := gN 4) (b := seqS (setE 5 (callE 2 1 m_law_move (puA (consA (callF lenD (consA (op2 ixD (nmF 3) (cst (.int 0))) (nilA))) (nilA)))))
      (seqS (setF 6 (callF (nF 2 m_law_told) (consA (nmF 3) (consA (nmF 5) (nilA)))))
      (seqS (ifS (or2 (toB (op2 eqF (nmF 6) (cst (.str "another")))) (toB (op2 neF (nmF 6) (callF (nF 2 m_law_due) (consA (nmF 3) (consA (nmF 5) (nilA))))))) (retF (cst (.bl false))) (skip))
      (ifS (tru1 (isiF "tuple" (nmF 6))) (setF 3 (nmF 6)) (skip)))))
      (ρ := [.v (scD ns), .v (nI k), .own (bagD a5 b5), .v (sqD r x), s4, s5, s6]) (ds := (List.range 12).map nI) (P := fun ρ => ∃ n r x a b s4 s5 s6, Gd n r x ∧ Bag (1000 + 4 * 12) a b ∧ ρ = [.v (scD ns), .v (nI k), .own (bagD a b), .v (sqD r x), s4, s5, s6]) (puA_at (rngA1_at (n := 12) rfl (by omega))) (by
    obtain ⟨ρ', h1, h2⟩ := forL_cnt (g := gN 4) (b := seqS (setE 5 (callE 2 1 m_law_move (puA (consA (callF lenD (consA (op2 ixD (nmF 3) (cst (.int 0))) (nilA))) (nilA)))))
      (seqS (setF 6 (callF (nF 2 m_law_told) (consA (nmF 3) (consA (nmF 5) (nilA)))))
      (seqS (ifS (or2 (toB (op2 eqF (nmF 6) (cst (.str "another")))) (toB (op2 neF (nmF 6) (callF (nF 2 m_law_due) (consA (nmF 3) (consA (nmF 5) (nilA))))))) (retF (cst (.bl false))) (skip))
      (ifS (tru1 (isiF "tuple" (nmF 6))) (setF 3 (nmF 6)) (skip))))) (P := fun j ρ => ∃ n r x a b s4 s5 s6, Gd n r x ∧ Bag (1000 + 4 * j) a b ∧ ρ = [.v (scD ns), .v (nI k), .own (bagD a b), .v (sqD r x), s4, s5, s6]) ((List.range 12).map nI) 0 (by
        intro d hd j ρ hj hρ
        obtain ⟨t, ht, rfl⟩ := List.mem_map.mp hd
        have hj : j < 12 := by simpa using hj
        · obtain ⟨n, r, x, a, b, s4, s5, s6, G, B, rfl⟩ := hρ
          obtain ⟨mo, a', b', em, B'⟩ := move_ev B (by omega) G.hi
          obtain ⟨dd, f1, f2, f3⟩ := told_ev G mo
          have B'' : Bag (1000 + 4 * (j + 1)) a' b' := by rw [show 1000 + 4 * (j + 1) = 1000 + 4 * j + 4 by omega]; exact B'
          have g1 : setE 5 (callE 2 1 m_law_move (puA (consA (callF lenD (consA (op2 ixD (nmF 3) (cst (.int 0))) (nilA))) (nilA)))) [.v (scD ns), .v (nI k), .own (bagD a b), .v (sqD r x), .v (nI t), s5, s6] = .nx [.v (scD ns), .v (nI k), .own (bagD a' b'), .v (sqD r x), .v (nI t), .v mo.d, s6] := (setE_at (callE_at (i := 2) (n := 1) (b0 := bagD a b) (ds := [nI n]) rfl (puA_at (consA_at (by rw [← G.R.len]; exact len_tupN r _ _ rfl) rfl)) rfl rfl em)).trans rfl
          have g2 : setF 6 (callF (nF 2 m_law_told) (consA (nmF 3) (consA (nmF 5) (nilA)))) [.v (scD ns), .v (nI k), .own (bagD a' b'), .v (sqD r x), .v (nI t), .v mo.d, s6] = .nx [.v (scD ns), .v (nI k), .own (bagD a' b'), .v (sqD r x), .v (nI t), .v mo.d, .v dd] := (setF_at ((cl_at (ds := [sqD r x, mo.d]) rfl rfl).trans f1)).trans rfl
          have dp : dep dd ≤ 32 := by
            rcases f3 with ⟨n', r', x', _, rfl⟩ | rfl | rfl
            · exact dep_sq _ _
            · unfold dep; omega
            · unfold dep; omega
          have na : eqD dd (.str "another") = false := by
            rcases f3 with ⟨n', r', x', _, rfl⟩ | rfl | rfl
            · unfold eqD; rfl
            · rfl
            · rfl
          have g3 : or2 (toB (op2 eqF (nmF 6) (cst (.str "another")))) (toB (op2 neF (nmF 6) (callF (nF 2 m_law_due) (consA (nmF 3) (consA (nmF 5) (nilA)))))) [.v (scD ns), .v (nI k), .own (bagD a' b'), .v (sqD r x), .v (nI t), .v mo.d, .v dd] = some false := or2_bb (a := false) (b := false) (toB_at ((op2_at (x := dd) (y := .str "another") rfl rfl).trans (by rw [eqF_ev dp, na]))) (toB_at ((op2_at (x := dd) rfl ((cl_at (ds := [sqD r x, mo.d]) rfl rfl).trans f2)).trans (ne_same dp)))
          rcases f3 with ⟨n', r', x', G', rfl⟩ | h
          · refine ⟨[.v (scD ns), .v (nI k), .own (bagD a b), .v (sqD r x), .v (nI t), s5, s6], [.v (scD ns), .v (nI k), .own (bagD a' b'), .v (sqD r' x'), .v (nI t), .v mo.d, .v (sqD r' x')], rfl, ?_, ⟨_, _, _, _, _, _, _, _, G', B'', rfl⟩⟩
            refine (seq_at g1).trans ((seq_at g2).trans ((seq_at (ifS_sk g3)).trans ?_))
            exact (ifS_t (tru_bl (b := true) rfl)).trans ((setF_at rfl).trans rfl)
          · refine ⟨[.v (scD ns), .v (nI k), .own (bagD a b), .v (sqD r x), .v (nI t), s5, s6], [.v (scD ns), .v (nI k), .own (bagD a' b'), .v (sqD r x), .v (nI t), .v mo.d, .v dd], rfl, ?_, ⟨_, _, _, _, _, _, _, _, G, B'', rfl⟩⟩
            refine (seq_at g1).trans ((seq_at g2).trans ((seq_at (ifS_sk g3)).trans ?_))
            rcases h with rfl | rfl
            · exact ifS_sk (tru_bl (b := false) rfl)
            · exact ifS_sk (tru_bl (b := false) rfl)) [.v (scD ns), .v (nI k), .own (bagD a5 b5), .v (sqD r x), s4, s5, s6] (⟨m, r, x, a5, b5, s4, s5, s6, ⟨S.hr, S.hx, hm1, hm2⟩, ⟨B5.a0, B5.a1, B5.b0, Int.le_trans B5.b1 (by omega), B5.lo⟩, rfl⟩)
    · exact ⟨ρ', h1, by simpa using h2⟩)
  refine ⟨_, [.v (scD ns), .v (nI k), .own (bagD a' b'), .v (sqD r' x'), t4, t5, t6], rfl, ?_, ⟨_, _, _, _, _, _, rfl⟩⟩
  exact (seq_at q1).trans ((seq_at q2).trans lp)
end L2
set_option Elab.async false
set_option linter.all false
set_option maxRecDepth 100000
set_option maxHeartbeats 4000000
namespace L2
open PySem PySem.Spec PyProof.Rows
theorem all_mk {l : PySem.W.OpenLaw} {w : World} {K : PySem.W.Frag} {h : Heap} {mg : Str → Option Value} {fa : Addr} {f0 : Addr} {od0 an0 : Option Addr} {sl0 : Array (Option Value)} {oc0 kV0 dc0 pm0 cd0 ct0 : Value} {f1 : Addr} {od1 an1 : Option Addr} {sl1 : Array (Option Value)} {oc1 kV1 dc1 pm1 cd1 ct1 : Value} {f2 : Addr} {od2 an2 : Option Addr} {sl2 : Array (Option Value)} {oc2 kV2 dc2 pm2 cd2 ct2 : Value} {f3 : Addr} {od3 an3 : Option Addr} {sl3 : Array (Option Value)} {oc3 kV3 dc3 pm3 cd3 ct3 : Value} {f4 : Addr} {od4 an4 : Option Addr} {sl4 : Array (Option Value)} {oc4 kV4 dc4 pm4 cd4 ct4 : Value} {f5 : Addr} {od5 an5 : Option Addr} {sl5 : Array (Option Value)} {oc5 kV5 dc5 pm5 cd5 ct5 : Value} {f6 : Addr} {od6 an6 : Option Addr} {sl6 : Array (Option Value)} {oc6 kV6 dc6 pm6 cd6 ct6 : Value} {f7 : Addr} {od7 an7 : Option Addr} {sl7 : Array (Option Value)} {oc7 kV7 dc7 pm7 cd7 ct7 : Value} {f8 : Addr} {od8 an8 : Option Addr} {sl8 : Array (Option Value)} {oc8 kV8 dc8 pm8 cd8 ct8 : Value} {f9 : Addr} {od9 an9 : Option Addr} {sl9 : Array (Option Value)} {oc9 kV9 dc9 pm9 cd9 ct9 : Value} {f10 : Addr} {od10 an10 : Option Addr} {sl10 : Array (Option Value)} {oc10 kV10 dc10 pm10 cd10 ct10 : Value} {f11 : Addr} {od11 an11 : Option Addr} {sl11 : Array (Option Value)} {oc11 kV11 dc11 pm11 cd11 ct11 : Value} {f12 : Addr} {od12 an12 : Option Addr} {sl12 : Array (Option Value)} {oc12 kV12 dc12 pm12 cd12 ct12 : Value} {f13 : Addr} {od13 an13 : Option Addr} {sl13 : Array (Option Value)} {oc13 kV13 dc13 pm13 cd13 ct13 : Value} {f14 : Addr} {od14 an14 : Option Addr} {sl14 : Array (Option Value)} {oc14 kV14 dc14 pm14 cd14 ct14 : Value} {f15 : Addr} {od15 an15 : Option Addr} {sl15 : Array (Option Value)} {oc15 kV15 dc15 pm15 cd15 ct15 : Value} {f16 : Addr} {od16 an16 : Option Addr} {sl16 : Array (Option Value)} {oc16 kV16 dc16 pm16 cd16 ct16 : Value} {f17 : Addr} {od17 an17 : Option Addr} {sl17 : Array (Option Value)} {oc17 kV17 dc17 pm17 cd17 ct17 : Value} {f18 : Addr} {od18 an18 : Option Addr} {sl18 : Array (Option Value)} {oc18 kV18 dc18 pm18 cd18 ct18 : Value} {f19 : Addr} {od19 an19 : Option Addr} {sl19 : Array (Option Value)} {oc19 kV19 dc19 pm19 cd19 ct19 : Value} {f20 : Addr} {od20 an20 : Option Addr} {sl20 : Array (Option Value)} {oc20 kV20 dc20 pm20 cd20 ct20 : Value} {f21 : Addr} {od21 an21 : Option Addr} {sl21 : Array (Option Value)} {oc21 kV21 dc21 pm21 cd21 ct21 : Value} {f22 : Addr} {od22 an22 : Option Addr} {sl22 : Array (Option Value)} {oc22 kV22 dc22 pm22 cd22 ct22 : Value} {f23 : Addr} {od23 an23 : Option Addr} {sl23 : Array (Option Value)} {oc23 kV23 dc23 pm23 cd23 ct23 : Value} {f24 : Addr} {od24 an24 : Option Addr} {sl24 : Array (Option Value)} {oc24 kV24 dc24 pm24 cd24 ct24 : Value} {f25 : Addr} {od25 an25 : Option Addr} {sl25 : Array (Option Value)} {oc25 kV25 dc25 pm25 cd25 ct25 : Value} {f26 : Addr} {od26 an26 : Option Addr} {sl26 : Array (Option Value)} {oc26 kV26 dc26 pm26 cd26 ct26 : Value} {f27 : Addr} {od27 an27 : Option Addr} {sl27 : Array (Option Value)} {oc27 kV27 dc27 pm27 cd27 ct27 : Value} {f28 : Addr} {od28 an28 : Option Addr} {sl28 : Array (Option Value)} {oc28 kV28 dc28 pm28 cd28 ct28 : Value} {f29 : Addr} {od29 an29 : Option Addr} {sl29 : Array (Option Value)} {oc29 kV29 dc29 pm29 cd29 ct29 : Value} {f30 : Addr} {od30 an30 : Option Addr} {sl30 : Array (Option Value)} {oc30 kV30 dc30 pm30 cd30 ct30 : Value} {tk_MANY_WAYS : Tok} {tk_MOST_SIZE : Tok} {kx0 kx1 kx2 kx3 kx4 kx5 kx6 kx7 kx8 kx9 : Addr} {xn0 xq0 : Str} {xb0 xu0 : List Value} {xs0 : Addr} {xd0 xl0 xe0 : Bool} {xv0 : List Str} {xc0 : Option Bool} {xn1 xq1 : Str} {xb1 xu1 : List Value} {xs1 : Addr} {xd1 xl1 xe1 : Bool} {xv1 : List Str} {xc1 : Option Bool} {xn2 xq2 : Str} {xb2 xu2 : List Value} {xs2 : Addr} {xd2 xl2 xe2 : Bool} {xv2 : List Str} {xc2 : Option Bool} {xn3 xq3 : Str} {xb3 xu3 : List Value} {xs3 : Addr} {xd3 xl3 xe3 : Bool} {xv3 : List Str} {xc3 : Option Bool} {xn4 xq4 : Str} {xb4 xu4 : List Value} {xs4 : Addr} {xd4 xl4 xe4 : Bool} {xv4 : List Str} {xc4 : Option Bool} {xn5 xq5 : Str} {xb5 xu5 : List Value} {xs5 : Addr} {xd5 xl5 xe5 : Bool} {xv5 : List Str} {xc5 : Option Bool} {xn6 xq6 : Str} {xb6 xu6 : List Value} {xs6 : Addr} {xd6 xl6 xe6 : Bool} {xv6 : List Str} {xc6 : Option Bool} {xn7 xq7 : Str} {xb7 xu7 : List Value} {xs7 : Addr} {xd7 xl7 xe7 : Bool} {xv7 : List Str} {xc7 : Option Bool} {xn8 xq8 : Str} {xb8 xu8 : List Value} {xs8 : Addr} {xd8 xl8 xe8 : Bool} {xv8 : List Str} {xc8 : Option Bool} {xn9 xq9 : Str} {xb9 xu9 : List Value} {xs9 : Addr} {xd9 xl9 xe9 : Bool} {xv9 : List Str} {xc9 : Option Bool} (X : K.In h) (G : h.Ns mainGlobals mg) (hfa : mg "law" = some (.ref fa))
    (a0 : PySem.W.nsIn K mainGlobals "order_turned" = some (some (.ref f0))) (l0 : K.lookup f0 = some ⟨oc0, od0, .func (PySem.W.fnOf "order_turned" "order_turned" (defArgs s_order_turned) (defBody s_order_turned) (defScope s_order_turned) .none kV0 dc0 pm0 an0 cd0 ct0), sl0⟩) (c0 : PySem.W.codeIn K cd0 "order_turned" = true) (k0 : PySem.W.keepIn K (.ref f0) = true)
    (a1 : PySem.W.nsIn K mainGlobals "order_raised" = some (some (.ref f1))) (l1 : K.lookup f1 = some ⟨oc1, od1, .func (PySem.W.fnOf "order_raised" "order_raised" (defArgs s_order_raised) (defBody s_order_raised) (defScope s_order_raised) .none kV1 dc1 pm1 an1 cd1 ct1), sl1⟩) (c1 : PySem.W.codeIn K cd1 "order_raised" = true) (k1 : PySem.W.keepIn K (.ref f1) = true)
    (a2 : PySem.W.nsIn K mainGlobals "order_tipped" = some (some (.ref f2))) (l2 : K.lookup f2 = some ⟨oc2, od2, .func (PySem.W.fnOf "order_tipped" "order_tipped" (defArgs s_order_tipped) (defBody s_order_tipped) (defScope s_order_tipped) .none kV2 dc2 pm2 an2 cd2 ct2), sl2⟩) (c2 : PySem.W.codeIn K cd2 "order_tipped" = true) (k2 : PySem.W.keepIn K (.ref f2) = true)
    (a3 : PySem.W.nsIn K mainGlobals "order_exchanged" = some (some (.ref f3))) (l3 : K.lookup f3 = some ⟨oc3, od3, .func (PySem.W.fnOf "order_exchanged" "order_exchanged" (defArgs s_order_exchanged) (defBody s_order_exchanged) (defScope s_order_exchanged) .none kV3 dc3 pm3 an3 cd3 ct3), sl3⟩) (c3 : PySem.W.codeIn K cd3 "order_exchanged" = true) (k3 : PySem.W.keepIn K (.ref f3) = true)
    (a4 : PySem.W.nsIn K mainGlobals "lies_between" = some (some (.ref f4))) (l4 : K.lookup f4 = some ⟨oc4, od4, .func (PySem.W.fnOf "lies_between" "lies_between" (defArgs s_lies_between) (defBody s_lies_between) (defScope s_lies_between) .none kV4 dc4 pm4 an4 cd4 ct4), sl4⟩) (c4 : PySem.W.codeIn K cd4 "lies_between" = true) (k4 : PySem.W.keepIn K (.ref f4) = true)
    (a5 : PySem.W.nsIn K mainGlobals "columns_turned" = some (some (.ref f5))) (l5 : K.lookup f5 = some ⟨oc5, od5, .func (PySem.W.fnOf "columns_turned" "columns_turned" (defArgs s_columns_turned) (defBody s_columns_turned) (defScope s_columns_turned) .none kV5 dc5 pm5 an5 cd5 ct5), sl5⟩) (c5 : PySem.W.codeIn K cd5 "columns_turned" = true) (k5 : PySem.W.keepIn K (.ref f5) = true)
    (a6 : PySem.W.nsIn K mainGlobals "rows_turned" = some (some (.ref f6))) (l6 : K.lookup f6 = some ⟨oc6, od6, .func (PySem.W.fnOf "rows_turned" "rows_turned" (defArgs s_rows_turned) (defBody s_rows_turned) (defScope s_rows_turned) .none kV6 dc6 pm6 an6 cd6 ct6), sl6⟩) (c6 : PySem.W.codeIn K cd6 "rows_turned" = true) (k6 : PySem.W.keepIn K (.ref f6) = true)
    (a7 : PySem.W.nsIn K mainGlobals "tipped" = some (some (.ref f7))) (l7 : K.lookup f7 = some ⟨oc7, od7, .func (PySem.W.fnOf "tipped" "tipped" (defArgs s_tipped) (defBody s_tipped) (defScope s_tipped) .none kV7 dc7 pm7 an7 cd7 ct7), sl7⟩) (c7 : PySem.W.codeIn K cd7 "tipped" = true) (k7 : PySem.W.keepIn K (.ref f7) = true)
    (a8 : PySem.W.nsIn K mainGlobals "may_change" = some (some (.ref f8))) (l8 : K.lookup f8 = some ⟨oc8, od8, .func (PySem.W.fnOf "may_change" "may_change" (defArgs s_may_change) (defBody s_may_change) (defScope s_may_change) .none kV8 dc8 pm8 an8 cd8 ct8), sl8⟩) (c8 : PySem.W.codeIn K cd8 "may_change" = true) (k8 : PySem.W.keepIn K (.ref f8) = true)
    (a9 : PySem.W.nsIn K mainGlobals "columns_changed" = some (some (.ref f9))) (l9 : K.lookup f9 = some ⟨oc9, od9, .func (PySem.W.fnOf "columns_changed" "columns_changed" (defArgs s_columns_changed) (defBody s_columns_changed) (defScope s_columns_changed) .none kV9 dc9 pm9 an9 cd9 ct9), sl9⟩) (c9 : PySem.W.codeIn K cd9 "columns_changed" = true) (k9 : PySem.W.keepIn K (.ref f9) = true)
    (a10 : PySem.W.nsIn K mainGlobals "rows_changed" = some (some (.ref f10))) (l10 : K.lookup f10 = some ⟨oc10, od10, .func (PySem.W.fnOf "rows_changed" "rows_changed" (defArgs s_rows_changed) (defBody s_rows_changed) (defScope s_rows_changed) .none kV10 dc10 pm10 an10 cd10 ct10), sl10⟩) (c10 : PySem.W.codeIn K cd10 "rows_changed" = true) (k10 : PySem.W.keepIn K (.ref f10) = true)
    (a11 : PySem.W.nsIn K mainGlobals "is_way" = some (some (.ref f11))) (l11 : K.lookup f11 = some ⟨oc11, od11, .func (PySem.W.fnOf "is_way" "is_way" (defArgs s_is_way) (defBody s_is_way) (defScope s_is_way) .none kV11 dc11 pm11 an11 cd11 ct11), sl11⟩) (c11 : PySem.W.codeIn K cd11 "is_way" = true) (k11 : PySem.W.keepIn K (.ref f11) = true)
    (a12 : PySem.W.nsIn K mainGlobals "free_and_full" = some (some (.ref f12))) (l12 : K.lookup f12 = some ⟨oc12, od12, .func (PySem.W.fnOf "free_and_full" "free_and_full" (defArgs s_free_and_full) (defBody s_free_and_full) (defScope s_free_and_full) .none kV12 dc12 pm12 an12 cd12 ct12), sl12⟩) (c12 : PySem.W.codeIn K cd12 "free_and_full" = true) (k12 : PySem.W.keepIn K (.ref f12) = true)
    (a13 : PySem.W.nsIn K mainGlobals "row_parted" = some (some (.ref f13))) (l13 : K.lookup f13 = some ⟨oc13, od13, .func (PySem.W.fnOf "row_parted" "row_parted" (defArgs s_row_parted) (defBody s_row_parted) (defScope s_row_parted) .none kV13 dc13 pm13 an13 cd13 ct13), sl13⟩) (c13 : PySem.W.codeIn K cd13 "row_parted" = true) (k13 : PySem.W.keepIn K (.ref f13) = true)
    (a14 : PySem.W.nsIn K mainGlobals "corner_put" = some (some (.ref f14))) (l14 : K.lookup f14 = some ⟨oc14, od14, .func (PySem.W.fnOf "corner_put" "corner_put" (defArgs s_corner_put) (defBody s_corner_put) (defScope s_corner_put) .none kV14 dc14 pm14 an14 cd14 ct14), sl14⟩) (c14 : PySem.W.codeIn K cd14 "corner_put" = true) (k14 : PySem.W.keepIn K (.ref f14) = true)
    (a15 : PySem.W.nsIn K mainGlobals "is_put" = some (some (.ref f15))) (l15 : K.lookup f15 = some ⟨oc15, od15, .func (PySem.W.fnOf "is_put" "is_put" (defArgs s_is_put) (defBody s_is_put) (defScope s_is_put) .none kV15 dc15 pm15 an15 cd15 ct15), sl15⟩) (c15 : PySem.W.codeIn K cd15 "is_put" = true) (k15 : PySem.W.keepIn K (.ref f15) = true)
    (a16 : PySem.W.nsIn K mainGlobals "way_put" = some (some (.ref f16))) (l16 : K.lookup f16 = some ⟨oc16, od16, .func (PySem.W.fnOf "way_put" "way_put" (defArgs s_way_put) (defBody s_way_put) (defScope s_way_put) .none kV16 dc16 pm16 an16 cd16 ct16), sl16⟩) (c16 : PySem.W.codeIn K cd16 "way_put" = true) (k16 : PySem.W.keepIn K (.ref f16) = true)
    (a17 : PySem.W.nsIn K mainGlobals "rows_joined" = some (some (.ref f17))) (l17 : K.lookup f17 = some ⟨oc17, od17, .func (PySem.W.fnOf "rows_joined" "rows_joined" (defArgs s_rows_joined) (defBody s_rows_joined) (defScope s_rows_joined) .none kV17 dc17 pm17 an17 cd17 ct17), sl17⟩) (c17 : PySem.W.codeIn K cd17 "rows_joined" = true) (k17 : PySem.W.keepIn K (.ref f17) = true)
    (a18 : PySem.W.nsIn K mainGlobals "corner_taken" = some (some (.ref f18))) (l18 : K.lookup f18 = some ⟨oc18, od18, .func (PySem.W.fnOf "corner_taken" "corner_taken" (defArgs s_corner_taken) (defBody s_corner_taken) (defScope s_corner_taken) .none kV18 dc18 pm18 an18 cd18 ct18), sl18⟩) (c18 : PySem.W.codeIn K cd18 "corner_taken" = true) (k18 : PySem.W.keepIn K (.ref f18) = true)
    (a19 : PySem.W.nsIn K mainGlobals "moved" = some (some (.ref f19))) (l19 : K.lookup f19 = some ⟨oc19, od19, .func (PySem.W.fnOf "moved" "moved" (defArgs s_moved) (defBody s_moved) (defScope s_moved) .none kV19 dc19 pm19 an19 cd19 ct19), sl19⟩) (c19 : PySem.W.codeIn K cd19 "moved" = true) (k19 : PySem.W.keepIn K (.ref f19) = true)
    (a20 : PySem.W.nsIn K mainGlobals "_law_cell" = some (some (.ref f20))) (l20 : K.lookup f20 = some ⟨oc20, od20, .func (PySem.W.fnOf "_law_cell" "_law_cell" (defArgs s_law_cell) (defBody s_law_cell) (defScope s_law_cell) .none kV20 dc20 pm20 an20 cd20 ct20), sl20⟩) (c20 : PySem.W.codeIn K cd20 "_law_cell" = true) (k20 : PySem.W.keepIn K (.ref f20) = true)
    (a21 : PySem.W.nsIn K mainGlobals "_law_bag" = some (some (.ref f21))) (l21 : K.lookup f21 = some ⟨oc21, od21, .func (PySem.W.fnOf "_law_bag" "_law_bag" (defArgs s_law_bag) (defBody s_law_bag) (defScope s_law_bag) .none kV21 dc21 pm21 an21 cd21 ct21), sl21⟩) (c21 : PySem.W.codeIn K cd21 "_law_bag" = true) (k21 : PySem.W.keepIn K (.ref f21) = true)
    (a22 : PySem.W.nsIn K mainGlobals "_law_take" = some (some (.ref f22))) (l22 : K.lookup f22 = some ⟨oc22, od22, .func (PySem.W.fnOf "_law_take" "_law_take" (defArgs s_law_take) (defBody s_law_take) (defScope s_law_take) .none kV22 dc22 pm22 an22 cd22 ct22), sl22⟩) (c22 : PySem.W.codeIn K cd22 "_law_take" = true) (k22 : PySem.W.keepIn K (.ref f22) = true)
    (a23 : PySem.W.nsIn K mainGlobals "_law_order" = some (some (.ref f23))) (l23 : K.lookup f23 = some ⟨oc23, od23, .func (PySem.W.fnOf "_law_order" "_law_order" (defArgs s_law_order) (defBody s_law_order) (defScope s_law_order) .none kV23 dc23 pm23 an23 cd23 ct23), sl23⟩) (c23 : PySem.W.codeIn K cd23 "_law_order" = true) (k23 : PySem.W.keepIn K (.ref f23) = true)
    (a24 : PySem.W.nsIn K mainGlobals "_law_square" = some (some (.ref f24))) (l24 : K.lookup f24 = some ⟨oc24, od24, .func (PySem.W.fnOf "_law_square" "_law_square" (defArgs s_law_square) (defBody s_law_square) (defScope s_law_square) .none kV24 dc24 pm24 an24 cd24 ct24), sl24⟩) (c24 : PySem.W.codeIn K cd24 "_law_square" = true) (k24 : PySem.W.keepIn K (.ref f24) = true)
    (a25 : PySem.W.nsIn K mainGlobals "_law_move" = some (some (.ref f25))) (l25 : K.lookup f25 = some ⟨oc25, od25, .func (PySem.W.fnOf "_law_move" "_law_move" (defArgs s_law_move) (defBody s_law_move) (defScope s_law_move) .none kV25 dc25 pm25 an25 cd25 ct25), sl25⟩) (c25 : PySem.W.codeIn K cd25 "_law_move" = true) (k25 : PySem.W.keepIn K (.ref f25) = true)
    (a26 : PySem.W.nsIn K mainGlobals "_law_by_itself" = some (some (.ref f26))) (l26 : K.lookup f26 = some ⟨oc26, od26, .func (PySem.W.fnOf "_law_by_itself" "_law_by_itself" (defArgs s_law_by_itself) (defBody s_law_by_itself) (defScope s_law_by_itself) .none kV26 dc26 pm26 an26 cd26 ct26), sl26⟩) (c26 : PySem.W.codeIn K cd26 "_law_by_itself" = true) (k26 : PySem.W.keepIn K (.ref f26) = true)
    (a27 : PySem.W.nsIn K mainGlobals "_law_class" = some (some (.ref f27))) (l27 : K.lookup f27 = some ⟨oc27, od27, .func (PySem.W.fnOf "_law_class" "_law_class" (defArgs s_law_class) (defBody s_law_class) (defScope s_law_class) .none kV27 dc27 pm27 an27 cd27 ct27), sl27⟩) (c27 : PySem.W.codeIn K cd27 "_law_class" = true) (k27 : PySem.W.keepIn K (.ref f27) = true)
    (a28 : PySem.W.nsIn K mainGlobals "_law_told" = some (some (.ref f28))) (l28 : K.lookup f28 = some ⟨oc28, od28, .func (PySem.W.fnOf "_law_told" "_law_told" (defArgs s_law_told) (defBody s_law_told) (defScope s_law_told) .none kV28 dc28 pm28 an28 cd28 ct28), sl28⟩) (c28 : PySem.W.codeIn K cd28 "_law_told" = true) (k28 : PySem.W.keepIn K (.ref f28) = true)
    (a29 : PySem.W.nsIn K mainGlobals "_law_due" = some (some (.ref f29))) (l29 : K.lookup f29 = some ⟨oc29, od29, .func (PySem.W.fnOf "_law_due" "_law_due" (defArgs s_law_due) (defBody s_law_due) (defScope s_law_due) .none kV29 dc29 pm29 an29 cd29 ct29), sl29⟩) (c29 : PySem.W.codeIn K cd29 "_law_due" = true) (k29 : PySem.W.keepIn K (.ref f29) = true)
    (a30 : PySem.W.nsIn K mainGlobals "law" = some (some (.ref f30))) (l30 : K.lookup f30 = some ⟨oc30, od30, .func (PySem.W.fnOf "law" "law" (defArgs s_law) (defBody s_law) (defScope s_law) .none kV30 dc30 pm30 an30 cd30 ct30), sl30⟩) (c30 : PySem.W.codeIn K cd30 "law" = true) (k30 : PySem.W.keepIn K (.ref f30) = true)
    (z_ValueError : PySem.W.nsIn K mainGlobals "ValueError" = some none)
    (z_abs : PySem.W.nsIn K mainGlobals "abs" = some none)
    (z_enumerate : PySem.W.nsIn K mainGlobals "enumerate" = some none)
    (z_int : PySem.W.nsIn K mainGlobals "int" = some none)
    (z_isinstance : PySem.W.nsIn K mainGlobals "isinstance" = some none)
    (z_len : PySem.W.nsIn K mainGlobals "len" = some none)
    (z_list : PySem.W.nsIn K mainGlobals "list" = some none)
    (z_max : PySem.W.nsIn K mainGlobals "max" = some none)
    (z_min : PySem.W.nsIn K mainGlobals "min" = some none)
    (z_range : PySem.W.nsIn K mainGlobals "range" = some none)
    (z_tuple : PySem.W.nsIn K mainGlobals "tuple" = some none)
    (g_MANY_WAYS : PySem.W.nsIn K mainGlobals "MANY_WAYS" = some (some (.int 4 tk_MANY_WAYS)))
    (g_MOST_SIZE : PySem.W.nsIn K mainGlobals "MOST_SIZE" = some (some (.int 6 tk_MOST_SIZE)))
    (ya0 : PySem.W.nsIn K mainGlobals "RookError" = some (some (.ref kx0)))
    (yb0 : PySem.W.findIn K (.ref kx0) "__getattribute__" = some (some (.builtin "BaseException.__getattribute__")))
    (yc0 : PySem.W.findIn K (.ref kx0) "__getattr__" = some none)
    (yd0 : PySem.W.findIn K (.ref kx0) "__class__" = some (some (.builtin "object.__class__")))
    (yg0 : PySem.W.mroIn K kx0 (.type "object") = some true)
    (yh0 : PySem.W.mroIn K kx0 (.type "BaseException") = some true)
    (yt0 : PySem.W.typeIn K (.ref kx0) = some (.type "type"))
    (ym0 : PySem.W.clsIn K kx0 = some ⟨xn0, xb0, .ref kx0 :: bmV, xs0, xq0, xd0, xv0, xu0, xl0, xc0, xe0⟩)
    (ya1 : PySem.W.nsIn K mainGlobals "NoSquare" = some (some (.ref kx1)))
    (yb1 : PySem.W.findIn K (.ref kx1) "__getattribute__" = some (some (.builtin "BaseException.__getattribute__")))
    (yc1 : PySem.W.findIn K (.ref kx1) "__getattr__" = some none)
    (yd1 : PySem.W.findIn K (.ref kx1) "__class__" = some (some (.builtin "object.__class__")))
    (yg1 : PySem.W.mroIn K kx1 (.type "object") = some true)
    (yh1 : PySem.W.mroIn K kx1 (.type "BaseException") = some true)
    (yt1 : PySem.W.typeIn K (.ref kx1) = some (.type "type"))
    (ym1 : PySem.W.clsIn K kx1 = some ⟨xn1, xb1, .ref kx1 :: .ref kx0 :: bmV, xs1, xq1, xd1, xv1, xu1, xl1, xc1, xe1⟩)
    (ya2 : PySem.W.nsIn K mainGlobals "NoMove" = some (some (.ref kx2)))
    (yb2 : PySem.W.findIn K (.ref kx2) "__getattribute__" = some (some (.builtin "BaseException.__getattribute__")))
    (yc2 : PySem.W.findIn K (.ref kx2) "__getattr__" = some none)
    (yd2 : PySem.W.findIn K (.ref kx2) "__class__" = some (some (.builtin "object.__class__")))
    (yg2 : PySem.W.mroIn K kx2 (.type "object") = some true)
    (yh2 : PySem.W.mroIn K kx2 (.type "BaseException") = some true)
    (yt2 : PySem.W.typeIn K (.ref kx2) = some (.type "type"))
    (ym2 : PySem.W.clsIn K kx2 = some ⟨xn2, xb2, .ref kx2 :: .ref kx0 :: bmV, xs2, xq2, xd2, xv2, xu2, xl2, xc2, xe2⟩)
    (ya3 : PySem.W.nsIn K mainGlobals "TooMany" = some (some (.ref kx3)))
    (yb3 : PySem.W.findIn K (.ref kx3) "__getattribute__" = some (some (.builtin "BaseException.__getattribute__")))
    (yc3 : PySem.W.findIn K (.ref kx3) "__getattr__" = some none)
    (yd3 : PySem.W.findIn K (.ref kx3) "__class__" = some (some (.builtin "object.__class__")))
    (yg3 : PySem.W.mroIn K kx3 (.type "object") = some true)
    (yh3 : PySem.W.mroIn K kx3 (.type "BaseException") = some true)
    (yt3 : PySem.W.typeIn K (.ref kx3) = some (.type "type"))
    (ym3 : PySem.W.clsIn K kx3 = some ⟨xn3, xb3, .ref kx3 :: .ref kx0 :: bmV, xs3, xq3, xd3, xv3, xu3, xl3, xc3, xe3⟩)
    (ya4 : PySem.W.nsIn K mainGlobals "NoPart" = some (some (.ref kx4)))
    (yb4 : PySem.W.findIn K (.ref kx4) "__getattribute__" = some (some (.builtin "BaseException.__getattribute__")))
    (yc4 : PySem.W.findIn K (.ref kx4) "__getattr__" = some none)
    (yd4 : PySem.W.findIn K (.ref kx4) "__class__" = some (some (.builtin "object.__class__")))
    (yg4 : PySem.W.mroIn K kx4 (.type "object") = some true)
    (yh4 : PySem.W.mroIn K kx4 (.type "BaseException") = some true)
    (yt4 : PySem.W.typeIn K (.ref kx4) = some (.type "type"))
    (ym4 : PySem.W.clsIn K kx4 = some ⟨xn4, xb4, .ref kx4 :: .ref kx0 :: bmV, xs4, xq4, xd4, xv4, xu4, xl4, xc4, xe4⟩)
    (ya5 : PySem.W.nsIn K mainGlobals "NotOne" = some (some (.ref kx5)))
    (yb5 : PySem.W.findIn K (.ref kx5) "__getattribute__" = some (some (.builtin "BaseException.__getattribute__")))
    (yc5 : PySem.W.findIn K (.ref kx5) "__getattr__" = some none)
    (yd5 : PySem.W.findIn K (.ref kx5) "__class__" = some (some (.builtin "object.__class__")))
    (yg5 : PySem.W.mroIn K kx5 (.type "object") = some true)
    (yh5 : PySem.W.mroIn K kx5 (.type "BaseException") = some true)
    (yt5 : PySem.W.typeIn K (.ref kx5) = some (.type "type"))
    (ym5 : PySem.W.clsIn K kx5 = some ⟨xn5, xb5, .ref kx5 :: .ref kx0 :: bmV, xs5, xq5, xd5, xv5, xu5, xl5, xc5, xe5⟩)
    (ya6 : PySem.W.nsIn K mainGlobals "NoPaper" = some (some (.ref kx6)))
    (yb6 : PySem.W.findIn K (.ref kx6) "__getattribute__" = some (some (.builtin "BaseException.__getattribute__")))
    (yc6 : PySem.W.findIn K (.ref kx6) "__getattr__" = some none)
    (yd6 : PySem.W.findIn K (.ref kx6) "__class__" = some (some (.builtin "object.__class__")))
    (yg6 : PySem.W.mroIn K kx6 (.type "object") = some true)
    (yh6 : PySem.W.mroIn K kx6 (.type "BaseException") = some true)
    (yt6 : PySem.W.typeIn K (.ref kx6) = some (.type "type"))
    (ym6 : PySem.W.clsIn K kx6 = some ⟨xn6, xb6, .ref kx6 :: .ref kx0 :: bmV, xs6, xq6, xd6, xv6, xu6, xl6, xc6, xe6⟩)
    (ya7 : PySem.W.nsIn K mainGlobals "NoText" = some (some (.ref kx7)))
    (yb7 : PySem.W.findIn K (.ref kx7) "__getattribute__" = some (some (.builtin "BaseException.__getattribute__")))
    (yc7 : PySem.W.findIn K (.ref kx7) "__getattr__" = some none)
    (yd7 : PySem.W.findIn K (.ref kx7) "__class__" = some (some (.builtin "object.__class__")))
    (yg7 : PySem.W.mroIn K kx7 (.type "object") = some true)
    (yh7 : PySem.W.mroIn K kx7 (.type "BaseException") = some true)
    (yt7 : PySem.W.typeIn K (.ref kx7) = some (.type "type"))
    (ym7 : PySem.W.clsIn K kx7 = some ⟨xn7, xb7, .ref kx7 :: .ref kx0 :: bmV, xs7, xq7, xd7, xv7, xu7, xl7, xc7, xe7⟩)
    (ya8 : PySem.W.nsIn K mainGlobals "NoRow" = some (some (.ref kx8)))
    (yb8 : PySem.W.findIn K (.ref kx8) "__getattribute__" = some (some (.builtin "BaseException.__getattribute__")))
    (yc8 : PySem.W.findIn K (.ref kx8) "__getattr__" = some none)
    (yd8 : PySem.W.findIn K (.ref kx8) "__class__" = some (some (.builtin "object.__class__")))
    (yg8 : PySem.W.mroIn K kx8 (.type "object") = some true)
    (yh8 : PySem.W.mroIn K kx8 (.type "BaseException") = some true)
    (yt8 : PySem.W.typeIn K (.ref kx8) = some (.type "type"))
    (ym8 : PySem.W.clsIn K kx8 = some ⟨xn8, xb8, .ref kx8 :: .ref kx0 :: bmV, xs8, xq8, xd8, xv8, xu8, xl8, xc8, xe8⟩)
    (ya9 : PySem.W.nsIn K mainGlobals "NoStep" = some (some (.ref kx9)))
    (yb9 : PySem.W.findIn K (.ref kx9) "__getattribute__" = some (some (.builtin "BaseException.__getattribute__")))
    (yc9 : PySem.W.findIn K (.ref kx9) "__getattr__" = some none)
    (yd9 : PySem.W.findIn K (.ref kx9) "__class__" = some (some (.builtin "object.__class__")))
    (yg9 : PySem.W.mroIn K kx9 (.type "object") = some true)
    (yh9 : PySem.W.mroIn K kx9 (.type "BaseException") = some true)
    (yt9 : PySem.W.typeIn K (.ref kx9) = some (.type "type"))
    (ym9 : PySem.W.clsIn K kx9 = some ⟨xn9, xb9, .ref kx9 :: .ref kx0 :: bmV, xs9, xq9, xd9, xv9, xu9, xl9, xc9, xe9⟩)
    (ye : PySem.W.specialIn K (.builtin "object.__class__") "__get__" = some (some (.builtin "getset_descriptor.__get__")))
    (yf : PySem.W.takesIn K (.builtin "object.__class__") = some true)
    (yo_NoMove : PySem.W.excIn K kx2 bmV "ValueError.__new__" = true)
    (yo_TooMany : PySem.W.excIn K kx3 bmV "ValueError.__new__" = true)
    (yn : [kx0, kx1, kx2, kx3, kx4, kx5, kx6, kx7, kx8, kx9].Nodup) :
    ∃ fd : FuncData, (∀ (s : Shared) (v : Value), BindsTo s fd ⟨[v], []⟩ [("_law_script", v)]) ∧ ∀ base : Heap, K.In base → base.Ns mainGlobals mg → FnOk l.prog w K mg base CX0 7 fa fd ["_law_script"] (spLaw K) := by
  have e := hfa.symm.trans (PySem.W.mg_of X G a30)
  cases e
  have F0 := fun_mk (st := s_order_turned) l0 c0 k0
  have b0 := F0.binds (ps := ["order", "k"]) fun _ _ _ _ _ _ us hl => ar2 us hl (fun _ _ => rfl)
  have d0 : Df K mg "order_turned" s_order_turned ["order", "k"] := ⟨_, _, F0, PySem.W.mg_of X G a0, b0⟩
  have F1 := fun_mk (st := s_order_raised) l1 c1 k1
  have b1 := F1.binds (ps := ["order", "k"]) fun _ _ _ _ _ _ us hl => ar2 us hl (fun _ _ => rfl)
  have d1 : Df K mg "order_raised" s_order_raised ["order", "k"] := ⟨_, _, F1, PySem.W.mg_of X G a1, b1⟩
  have F2 := fun_mk (st := s_order_tipped) l2 c2 k2
  have b2 := F2.binds (ps := ["order"]) fun _ _ _ _ _ _ us hl => ar1 us hl (fun _ => rfl)
  have d2 : Df K mg "order_tipped" s_order_tipped ["order"] := ⟨_, _, F2, PySem.W.mg_of X G a2, b2⟩
  have F3 := fun_mk (st := s_order_exchanged) l3 c3 k3
  have b3 := F3.binds (ps := ["order", "one", "other"]) fun _ _ _ _ _ _ us hl => ar3 us hl (fun _ _ _ => rfl)
  have d3 : Df K mg "order_exchanged" s_order_exchanged ["order", "one", "other"] := ⟨_, _, F3, PySem.W.mg_of X G a3, b3⟩
  have F4 := fun_mk (st := s_lies_between) l4 c4 k4
  have b4 := F4.binds (ps := ["at", "one", "other"]) fun _ _ _ _ _ _ us hl => ar3 us hl (fun _ _ _ => rfl)
  have d4 : Df K mg "lies_between" s_lies_between ["at", "one", "other"] := ⟨_, _, F4, PySem.W.mg_of X G a4, b4⟩
  have F5 := fun_mk (st := s_columns_turned) l5 c5 k5
  have b5 := F5.binds (ps := ["square", "k"]) fun _ _ _ _ _ _ us hl => ar2 us hl (fun _ _ => rfl)
  have d5 : Df K mg "columns_turned" s_columns_turned ["square", "k"] := ⟨_, _, F5, PySem.W.mg_of X G a5, b5⟩
  have F6 := fun_mk (st := s_rows_turned) l6 c6 k6
  have b6 := F6.binds (ps := ["square", "k"]) fun _ _ _ _ _ _ us hl => ar2 us hl (fun _ _ => rfl)
  have d6 : Df K mg "rows_turned" s_rows_turned ["square", "k"] := ⟨_, _, F6, PySem.W.mg_of X G a6, b6⟩
  have F7 := fun_mk (st := s_tipped) l7 c7 k7
  have b7 := F7.binds (ps := ["square"]) fun _ _ _ _ _ _ us hl => ar1 us hl (fun _ => rfl)
  have d7 : Df K mg "tipped" s_tipped ["square"] := ⟨_, _, F7, PySem.W.mg_of X G a7, b7⟩
  have F8 := fun_mk (st := s_may_change) l8 c8 k8
  have b8 := F8.binds (ps := ["square", "c"]) fun _ _ _ _ _ _ us hl => ar2 us hl (fun _ _ => rfl)
  have d8 : Df K mg "may_change" s_may_change ["square", "c"] := ⟨_, _, F8, PySem.W.mg_of X G a8, b8⟩
  have F9 := fun_mk (st := s_columns_changed) l9 c9 k9
  have b9 := F9.binds (ps := ["square", "c"]) fun _ _ _ _ _ _ us hl => ar2 us hl (fun _ _ => rfl)
  have d9 : Df K mg "columns_changed" s_columns_changed ["square", "c"] := ⟨_, _, F9, PySem.W.mg_of X G a9, b9⟩
  have F10 := fun_mk (st := s_rows_changed) l10 c10 k10
  have b10 := F10.binds (ps := ["square", "r"]) fun _ _ _ _ _ _ us hl => ar2 us hl (fun _ _ => rfl)
  have d10 : Df K mg "rows_changed" s_rows_changed ["square", "r"] := ⟨_, _, F10, PySem.W.mg_of X G a10, b10⟩
  have F11 := fun_mk (st := s_is_way) l11 c11 k11
  have b11 := F11.binds (ps := ["way"]) fun _ _ _ _ _ _ us hl => ar1 us hl (fun _ => rfl)
  have d11 : Df K mg "is_way" s_is_way ["way"] := ⟨_, _, F11, PySem.W.mg_of X G a11, b11⟩
  have F12 := fun_mk (st := s_free_and_full) l12 c12 k12
  have b12 := F12.binds (ps := ["c", "r", "way"]) fun _ _ _ _ _ _ us hl => ar3 us hl (fun _ _ _ => rfl)
  have d12 : Df K mg "free_and_full" s_free_and_full ["c", "r", "way"] := ⟨_, _, F12, PySem.W.mg_of X G a12, b12⟩
  have F13 := fun_mk (st := s_row_parted) l13 c13 k13
  have b13 := F13.binds (ps := ["mark", "row", "to"]) fun _ _ _ _ _ _ us hl => ar3 us hl (fun _ _ _ => rfl)
  have d13 : Df K mg "row_parted" s_row_parted ["mark", "row", "to"] := ⟨_, _, F13, PySem.W.mg_of X G a13, b13⟩
  have F14 := fun_mk (st := s_corner_put) l14 c14 k14
  have b14 := F14.binds (ps := ["square", "c", "way"]) fun _ _ _ _ _ _ us hl => ar3 us hl (fun _ _ _ => rfl)
  have d14 : Df K mg "corner_put" s_corner_put ["square", "c", "way"] := ⟨_, _, F14, PySem.W.mg_of X G a14, b14⟩
  have F15 := fun_mk (st := s_is_put) l15 c15 k15
  have b15 := F15.binds (ps := ["square", "c", "r", "way"]) fun _ _ _ _ _ _ us hl => ar4 us hl (fun _ _ _ _ => rfl)
  have d15 : Df K mg "is_put" s_is_put ["square", "c", "r", "way"] := ⟨_, _, F15, PySem.W.mg_of X G a15, b15⟩
  have F16 := fun_mk (st := s_way_put) l16 c16 k16
  have b16 := F16.binds (ps := ["square", "c", "r"]) fun _ _ _ _ _ _ us hl => ar3 us hl (fun _ _ _ => rfl)
  have d16 : Df K mg "way_put" s_way_put ["square", "c", "r"] := ⟨_, _, F16, PySem.W.mg_of X G a16, b16⟩
  have F17 := fun_mk (st := s_rows_joined) l17 c17 k17
  have b17 := F17.binds (ps := ["marks", "row", "column"]) fun _ _ _ _ _ _ us hl => ar3 us hl (fun _ _ _ => rfl)
  have d17 : Df K mg "rows_joined" s_rows_joined ["marks", "row", "column"] := ⟨_, _, F17, PySem.W.mg_of X G a17, b17⟩
  have F18 := fun_mk (st := s_corner_taken) l18 c18 k18
  have b18 := F18.binds (ps := ["square", "c", "r"]) fun _ _ _ _ _ _ us hl => ar3 us hl (fun _ _ _ => rfl)
  have d18 : Df K mg "corner_taken" s_corner_taken ["square", "c", "r"] := ⟨_, _, F18, PySem.W.mg_of X G a18, b18⟩
  have F19 := fun_mk (st := s_moved) l19 c19 k19
  have b19 := F19.binds (ps := ["square", "move"]) fun _ _ _ _ _ _ us hl => ar2 us hl (fun _ _ => rfl)
  have d19 : Df K mg "moved" s_moved ["square", "move"] := ⟨_, _, F19, PySem.W.mg_of X G a19, b19⟩
  have F20 := fun_mk (st := s_law_cell) l20 c20 k20
  have b20 := F20.binds (ps := ["_law_script", "_law_k"]) fun _ _ _ _ _ _ us hl => ar2 us hl (fun _ _ => rfl)
  have d20 : Df K mg "_law_cell" s_law_cell ["_law_script", "_law_k"] := ⟨_, _, F20, PySem.W.mg_of X G a20, b20⟩
  have F21 := fun_mk (st := s_law_bag) l21 c21 k21
  have b21 := F21.binds (ps := ["_law_script", "_law_at"]) fun _ _ _ _ _ _ us hl => ar2 us hl (fun _ _ => rfl)
  have d21 : Df K mg "_law_bag" s_law_bag ["_law_script", "_law_at"] := ⟨_, _, F21, PySem.W.mg_of X G a21, b21⟩
  have F22 := fun_mk (st := s_law_take) l22 c22 k22
  have b22 := F22.binds (ps := ["_law_bag_here", "_law_many"]) fun _ _ _ _ _ _ us hl => ar2 us hl (fun _ _ => rfl)
  have d22 : Df K mg "_law_take" s_law_take ["_law_bag_here", "_law_many"] := ⟨_, _, F22, PySem.W.mg_of X G a22, b22⟩
  have F23 := fun_mk (st := s_law_order) l23 c23 k23
  have b23 := F23.binds (ps := ["_law_bag_here", "_law_n"]) fun _ _ _ _ _ _ us hl => ar2 us hl (fun _ _ => rfl)
  have d23 : Df K mg "_law_order" s_law_order ["_law_bag_here", "_law_n"] := ⟨_, _, F23, PySem.W.mg_of X G a23, b23⟩
  have F24 := fun_mk (st := s_law_square) l24 c24 k24
  have b24 := F24.binds (ps := ["_law_bag_here", "_law_n"]) fun _ _ _ _ _ _ us hl => ar2 us hl (fun _ _ => rfl)
  have d24 : Df K mg "_law_square" s_law_square ["_law_bag_here", "_law_n"] := ⟨_, _, F24, PySem.W.mg_of X G a24, b24⟩
  have F25 := fun_mk (st := s_law_move) l25 c25 k25
  have b25 := F25.binds (ps := ["_law_bag_here", "_law_n"]) fun _ _ _ _ _ _ us hl => ar2 us hl (fun _ _ => rfl)
  have d25 : Df K mg "_law_move" s_law_move ["_law_bag_here", "_law_n"] := ⟨_, _, F25, PySem.W.mg_of X G a25, b25⟩
  have F26 := fun_mk (st := s_law_by_itself) l26 c26 k26
  have b26 := F26.binds (ps := ["_law_square_here", "_law_move_here"]) fun _ _ _ _ _ _ us hl => ar2 us hl (fun _ _ => rfl)
  have d26 : Df K mg "_law_by_itself" s_law_by_itself ["_law_square_here", "_law_move_here"] := ⟨_, _, F26, PySem.W.mg_of X G a26, b26⟩
  have F27 := fun_mk (st := s_law_class) l27 c27 k27
  have b27 := F27.binds (ps := ["_law_e"]) fun _ _ _ _ _ _ us hl => ar1 us hl (fun _ => rfl)
  have d27 : Df K mg "_law_class" s_law_class ["_law_e"] := ⟨_, _, F27, PySem.W.mg_of X G a27, b27⟩
  have F28 := fun_mk (st := s_law_told) l28 c28 k28
  have b28 := F28.binds (ps := ["_law_square_here", "_law_move_here"]) fun _ _ _ _ _ _ us hl => ar2 us hl (fun _ _ => rfl)
  have d28 : Df K mg "_law_told" s_law_told ["_law_square_here", "_law_move_here"] := ⟨_, _, F28, PySem.W.mg_of X G a28, b28⟩
  have F29 := fun_mk (st := s_law_due) l29 c29 k29
  have b29 := F29.binds (ps := ["_law_square_here", "_law_move_here"]) fun _ _ _ _ _ _ us hl => ar2 us hl (fun _ _ => rfl)
  have d29 : Df K mg "_law_due" s_law_due ["_law_square_here", "_law_move_here"] := ⟨_, _, F29, PySem.W.mg_of X G a29, b29⟩
  have F30 := fun_mk (st := s_law) l30 c30 k30
  have b30 := F30.binds (ps := ["_law_script"]) fun _ _ _ _ _ _ us hl => ar1 us hl (fun _ => rfl)
  have d30 : Df K mg "law" s_law ["_law_script"] := ⟨_, _, F30, PySem.W.mg_of X G a30, b30⟩
  have B : Bt mg := ⟨PySem.W.mg_none_of X G z_ValueError, PySem.W.mg_none_of X G z_abs, PySem.W.mg_none_of X G z_enumerate, PySem.W.mg_none_of X G z_int, PySem.W.mg_none_of X G z_isinstance, PySem.W.mg_none_of X G z_len, PySem.W.mg_none_of X G z_list, PySem.W.mg_none_of X G z_max, PySem.W.mg_none_of X G z_min, PySem.W.mg_none_of X G z_range, PySem.W.mg_none_of X G z_tuple, ⟨_, PySem.W.mg_of X G g_MANY_WAYS⟩, ⟨_, PySem.W.mg_of X G g_MOST_SIZE⟩⟩
  have r0 : ExRow K mg kx0 "RookError" kx0 := ⟨PySem.W.mg_of X G ya0, ya0, ⟨yb0, yc0, yd0, ye, yf, yg0, yh0⟩, yt0, _, ym0, (if_pos rfl).symm⟩
  have r1 : ExRow K mg kx0 "NoSquare" kx1 := ⟨PySem.W.mg_of X G ya1, ya1, ⟨yb1, yc1, yd1, ye, yf, yg1, yh1⟩, yt1, _, ym1, (if_neg (exc_ne yn (List.Mem.head _))).symm⟩
  have r2 : ExRow K mg kx0 "NoMove" kx2 := ⟨PySem.W.mg_of X G ya2, ya2, ⟨yb2, yc2, yd2, ye, yf, yg2, yh2⟩, yt2, _, ym2, (if_neg (exc_ne yn (List.Mem.tail _ (List.Mem.head _)))).symm⟩
  have r3 : ExRow K mg kx0 "TooMany" kx3 := ⟨PySem.W.mg_of X G ya3, ya3, ⟨yb3, yc3, yd3, ye, yf, yg3, yh3⟩, yt3, _, ym3, (if_neg (exc_ne yn (List.Mem.tail _ (List.Mem.tail _ (List.Mem.head _))))).symm⟩
  have r4 : ExRow K mg kx0 "NoPart" kx4 := ⟨PySem.W.mg_of X G ya4, ya4, ⟨yb4, yc4, yd4, ye, yf, yg4, yh4⟩, yt4, _, ym4, (if_neg (exc_ne yn (List.Mem.tail _ (List.Mem.tail _ (List.Mem.tail _ (List.Mem.head _)))))).symm⟩
  have r5 : ExRow K mg kx0 "NotOne" kx5 := ⟨PySem.W.mg_of X G ya5, ya5, ⟨yb5, yc5, yd5, ye, yf, yg5, yh5⟩, yt5, _, ym5, (if_neg (exc_ne yn (List.Mem.tail _ (List.Mem.tail _ (List.Mem.tail _ (List.Mem.tail _ (List.Mem.head _))))))).symm⟩
  have r6 : ExRow K mg kx0 "NoPaper" kx6 := ⟨PySem.W.mg_of X G ya6, ya6, ⟨yb6, yc6, yd6, ye, yf, yg6, yh6⟩, yt6, _, ym6, (if_neg (exc_ne yn (List.Mem.tail _ (List.Mem.tail _ (List.Mem.tail _ (List.Mem.tail _ (List.Mem.tail _ (List.Mem.head _)))))))).symm⟩
  have r7 : ExRow K mg kx0 "NoText" kx7 := ⟨PySem.W.mg_of X G ya7, ya7, ⟨yb7, yc7, yd7, ye, yf, yg7, yh7⟩, yt7, _, ym7, (if_neg (exc_ne yn (List.Mem.tail _ (List.Mem.tail _ (List.Mem.tail _ (List.Mem.tail _ (List.Mem.tail _ (List.Mem.tail _ (List.Mem.head _))))))))).symm⟩
  have r8 : ExRow K mg kx0 "NoRow" kx8 := ⟨PySem.W.mg_of X G ya8, ya8, ⟨yb8, yc8, yd8, ye, yf, yg8, yh8⟩, yt8, _, ym8, (if_neg (exc_ne yn (List.Mem.tail _ (List.Mem.tail _ (List.Mem.tail _ (List.Mem.tail _ (List.Mem.tail _ (List.Mem.tail _ (List.Mem.tail _ (List.Mem.head _)))))))))).symm⟩
  have r9 : ExRow K mg kx0 "NoStep" kx9 := ⟨PySem.W.mg_of X G ya9, ya9, ⟨yb9, yc9, yd9, ye, yf, yg9, yh9⟩, yt9, _, ym9, (if_neg (exc_ne yn (List.Mem.tail _ (List.Mem.tail _ (List.Mem.tail _ (List.Mem.tail _ (List.Mem.tail _ (List.Mem.tail _ (List.Mem.tail _ (List.Mem.tail _ (List.Mem.head _))))))))))).symm⟩
  have ET : Et K mg kx0 kx1 kx2 kx3 kx4 kx5 kx6 kx7 kx8 kx9 := ⟨⟨(mem_cons2 r0 (mem_cons2 r1 (mem_cons2 r2 (mem_cons2 r3 (mem_cons2 r4 (mem_cons2 r5 (mem_cons2 r6 (mem_cons2 r7 (mem_cons2 r8 (mem_cons2 r9 mem_nil2)))))))))), List.Mem.head _, yn⟩, yo_NoMove, yo_TooMany⟩
  refine ⟨PySem.W.fnOf "law" "law" (defArgs s_law) (defBody s_law) (defScope s_law) .none kV30 dc30 pm30 an30 cd30 ct30, fun s v => .of_eq rfl, fun base _ _ => ?_⟩
  have c_order_turned := k_order_turned (P := l.prog) (w := w) (base := base) B d0 ET 
  have c_order_raised := k_order_raised (P := l.prog) (w := w) (base := base) B d1 ET 
  have c_order_tipped := k_order_tipped (P := l.prog) (w := w) (base := base) B d2 ET 
  have c_order_exchanged := k_order_exchanged (P := l.prog) (w := w) (base := base) B d3 ET 
  have c_lies_between := k_lies_between (P := l.prog) (w := w) (base := base) B d4 ET 
  have c_columns_turned := k_columns_turned (P := l.prog) (w := w) (base := base) B d5 ET c_order_turned
  have c_rows_turned := k_rows_turned (P := l.prog) (w := w) (base := base) B d6 ET c_order_raised
  have c_tipped := k_tipped (P := l.prog) (w := w) (base := base) B d7 ET c_order_tipped
  have c_may_change := k_may_change (P := l.prog) (w := w) (base := base) B d8 ET c_lies_between
  have c_columns_changed := k_columns_changed (P := l.prog) (w := w) (base := base) B d9 ET c_may_change c_order_exchanged
  have c_rows_changed := k_rows_changed (P := l.prog) (w := w) (base := base) B d10 ET c_tipped c_columns_changed
  have c_is_way := k_is_way (P := l.prog) (w := w) (base := base) B d11 ET 
  have c_free_and_full := k_free_and_full (P := l.prog) (w := w) (base := base) B d12 ET 
  have c_row_parted := k_row_parted (P := l.prog) (w := w) (base := base) B d13 ET 
  have c_corner_put := k_corner_put (P := l.prog) (w := w) (base := base) B d14 ET c_free_and_full c_row_parted c_is_way
  have c_is_put := k_is_put (P := l.prog) (w := w) (base := base) B d15 ET c_free_and_full
  have c_way_put := k_way_put (P := l.prog) (w := w) (base := base) B d16 ET c_is_put
  have c_rows_joined := k_rows_joined (P := l.prog) (w := w) (base := base) B d17 ET 
  have c_corner_taken := k_corner_taken (P := l.prog) (w := w) (base := base) B d18 ET c_way_put c_free_and_full c_rows_joined
  have c_moved := k_moved (P := l.prog) (w := w) (base := base) B d19 ET c_corner_taken c_columns_turned c_rows_turned c_tipped c_columns_changed c_rows_changed c_corner_put
  have c_law_cell := k_law_cell (P := l.prog) (w := w) (base := base) B d20 ET 
  have c_law_bag := k_law_bag (P := l.prog) (w := w) (base := base) B d21 ET c_law_cell
  have c_law_take := k_law_take (P := l.prog) (w := w) (base := base) B d22 ET 
  have c_law_order := k_law_order (P := l.prog) (w := w) (base := base) B d23 ET c_law_take
  have c_law_square := k_law_square (P := l.prog) (w := w) (base := base) B d24 ET c_law_take c_law_order
  have c_law_move := k_law_move (P := l.prog) (w := w) (base := base) B d25 ET c_law_take
  have c_law_by_itself := k_law_by_itself (P := l.prog) (w := w) (base := base) B d26 ET c_corner_taken c_columns_turned c_rows_turned c_tipped c_columns_changed c_rows_changed c_corner_put
  have c_law_class := k_law_class (P := l.prog) (w := w) (base := base) B d27 ET 
  have c_law_told := k_law_told (P := l.prog) (w := w) (base := base) B d28 ET c_moved c_law_class
  have c_law_due := k_law_due (P := l.prog) (w := w) (base := base) B d29 ET c_law_by_itself c_law_class
  exact fn_law (kf_law (P := l.prog) (w := w) (base := base) B F30 ET c_law_bag c_law_square c_law_move c_law_told c_law_take c_law_due) law_ev
end L2
theorem PySem.W.Fast.tw6169300165705609663 : True := trivial
theorem PySem.W.Fast.tw7652514268092375839 : True := trivial
theorem PySem.W.Fast.tw13980788922604895635 : True := trivial
theorem PySem.W.Fast.tw2470543844369325323 : True := trivial
theorem PySem.W.Fast.tw6096645351510371130 : True := trivial
theorem PySem.W.Fast.tw17749822242088177050 : True := trivial
theorem PySem.W.Fast.tw4615914382244135634 : True := trivial
theorem PySem.W.Fast.tw1539181614474345086 : True := trivial
theorem PySem.W.Fast.tw1791445929491475106 : True := trivial
theorem PySem.W.Fast.tw17448684094998084203 : True := trivial
theorem PySem.W.Fast.tw13902933532407075466 : True := trivial
theorem PySem.W.Fast.tw15690740619432091281 : True := trivial
theorem PySem.W.Fast.tw11323996286739677486 : True := trivial
theorem PySem.W.Fast.tw14296367672193745918 : True := trivial
theorem PySem.W.Fast.tw16333934205254345412 : True := trivial
theorem PySem.W.Fast.tw17846614259562570425 : True := trivial
theorem PySem.W.Fast.tw17919393471739259211 : True := trivial
theorem PySem.W.Fast.tw5487165028107058256 : True := trivial
theorem PySem.W.Fast.tw8537980819150798346 : True := trivial
theorem PySem.W.Fast.tw3471695290604718863 : True := trivial
theorem PySem.W.Fast.tw12569087688869529573 : True := trivial
theorem PySem.W.Fast.tw6986549630715680919 : True := trivial
theorem PySem.W.Fast.tw4988556792324168322 : True := trivial
theorem PySem.W.Fast.tw16923745960566763280 : True := trivial
theorem PySem.W.Fast.tw7147855701808718220 : True := trivial
theorem PySem.W.Fast.tw15584819891291969272 : True := trivial
theorem PySem.W.Fast.tw12327104732062429417 : True := trivial
theorem PySem.W.Fast.tw11140833376656499061 : True := trivial
theorem PySem.W.Fast.tw2169766346367289865 : True := trivial
theorem PySem.W.Fast.tw13436715634526874949 : True := trivial
theorem PySem.W.Fast.tw16855871108785198391 : True := trivial
theorem PySem.W.Fast.tw7699400884392908854 : True := trivial
theorem PySem.W.Fast.tw17714702013134809335 : True := trivial
theorem PySem.W.Fast.tw9404684404445100396 : True := trivial
theorem PySem.W.Fast.tw1328887753412107492 : True := trivial
theorem PySem.W.Fast.tw5446087271312809886 : True := trivial
theorem PySem.W.Fast.tw6843993045531309257 : True := trivial
theorem PySem.W.Fast.tw10375434401576306529 : True := trivial
theorem PySem.W.Fast.tw17814609245121366793 : True := trivial
theorem PySem.W.Fast.tw846917867224140847 : True := trivial
theorem PySem.W.Fast.tw16785845237309107268 : True := trivial
theorem PySem.W.Fast.tw12619252058630382730 : True := trivial
theorem PySem.W.Fast.tw4165704908020232930 : True := trivial
theorem PySem.W.Fast.tw5554636292253018883 : True := trivial
theorem PySem.W.Fast.tw3244753953001839342 : True := trivial
theorem PySem.W.Fast.tw5412280959112614987 : True := trivial
theorem PySem.W.Fast.tw17513201472414379867 : True := trivial
theorem PySem.W.Fast.tw10983827239261506172 : True := trivial
theorem PySem.W.Fast.tw8989996614081144033 : True := trivial
theorem PySem.W.Fast.tw12630863929169872061 : True := trivial
theorem PySem.W.Fast.tw15842159185994815219 : True := trivial
theorem PySem.W.Fast.tw1095378561483040926 : True := trivial
theorem PySem.W.Fast.tw7463820062993388715 : True := trivial
theorem PySem.W.Fast.tw1300731326828176002 : True := trivial
theorem PySem.W.Fast.tw3981529922511594066 : True := trivial
theorem PySem.W.Fast.tw17380277381589660586 : True := trivial
theorem PySem.W.Fast.tw7448092342094134291 : True := trivial
theorem PySem.W.Fast.tw5175748863890445771 : True := trivial
theorem PySem.W.Fast.tw6515400124513212248 : True := trivial
theorem PySem.W.Fast.tw4472655465488283132 : True := trivial
theorem PySem.W.Fast.tw5201646756389966968 : True := trivial
theorem PySem.W.Fast.tw13653443413693764205 : True := trivial
theorem PySem.W.Fast.tw18107056793033483442 : True := trivial
theorem PySem.W.Fast.tw4642818082848614424 : True := trivial
theorem PySem.W.Fast.tw8380314206254033514 : True := trivial
theorem PySem.W.Fast.tw5238951702287241924 : True := trivial
theorem PySem.W.Fast.tw1259874455171908456 : True := trivial
theorem PySem.W.Fast.tw8114962877455173360 : True := trivial
open PySem PySem.W PyProof.Rows
set_option maxRecDepth 100000 in
set_option maxHeartbeats 0 in
theorem PySem.Challenge.cw_rookborders_k13_moved_holds : PySem.Challenge.rw_rookborders_k13_moved.Holds := by
  w_on; o_law; k_head; (case hw => w_witness2)
  k_fill
  refine L2.walkD (l := PySem.Challenge.rw_rookborders_k13_moved) (k := 7) (x := "_law_script") rfl rfl ⟨rfl, by decide, by decide⟩ (fun w h Y => PySem.W.kIn_of Y) ?F
  case F =>
    intro w mg fa h KX G hmg
    refine' L2.all_mk KX G hmg ?a0 ?l0 ?c0 ?k0 ?a1 ?l1 ?c1 ?k1 ?a2 ?l2 ?c2 ?k2 ?a3 ?l3 ?c3 ?k3 ?a4 ?l4 ?c4 ?k4 ?a5 ?l5 ?c5 ?k5 ?a6 ?l6 ?c6 ?k6 ?a7 ?l7 ?c7 ?k7 ?a8 ?l8 ?c8 ?k8 ?a9 ?l9 ?c9 ?k9 ?a10 ?l10 ?c10 ?k10 ?a11 ?l11 ?c11 ?k11 ?a12 ?l12 ?c12 ?k12 ?a13 ?l13 ?c13 ?k13 ?a14 ?l14 ?c14 ?k14 ?a15 ?l15 ?c15 ?k15 ?a16 ?l16 ?c16 ?k16 ?a17 ?l17 ?c17 ?k17 ?a18 ?l18 ?c18 ?k18 ?a19 ?l19 ?c19 ?k19 ?a20 ?l20 ?c20 ?k20 ?a21 ?l21 ?c21 ?k21 ?a22 ?l22 ?c22 ?k22 ?a23 ?l23 ?c23 ?k23 ?a24 ?l24 ?c24 ?k24 ?a25 ?l25 ?c25 ?k25 ?a26 ?l26 ?c26 ?k26 ?a27 ?l27 ?c27 ?k27 ?a28 ?l28 ?c28 ?k28 ?a29 ?l29 ?c29 ?k29 ?a30 ?l30 ?c30 ?k30 ?z_ValueError ?z_abs ?z_enumerate ?z_int ?z_isinstance ?z_len ?z_list ?z_max ?z_min ?z_range ?z_tuple ?g_MANY_WAYS ?g_MOST_SIZE ?ya0 ?yb0 ?yc0 ?yd0 ?yg0 ?yh0 ?yt0 ?ym0 ?ya1 ?yb1 ?yc1 ?yd1 ?yg1 ?yh1 ?yt1 ?ym1 ?ya2 ?yb2 ?yc2 ?yd2 ?yg2 ?yh2 ?yt2 ?ym2 ?ya3 ?yb3 ?yc3 ?yd3 ?yg3 ?yh3 ?yt3 ?ym3 ?ya4 ?yb4 ?yc4 ?yd4 ?yg4 ?yh4 ?yt4 ?ym4 ?ya5 ?yb5 ?yc5 ?yd5 ?yg5 ?yh5 ?yt5 ?ym5 ?ya6 ?yb6 ?yc6 ?yd6 ?yg6 ?yh6 ?yt6 ?ym6 ?ya7 ?yb7 ?yc7 ?yd7 ?yg7 ?yh7 ?yt7 ?ym7 ?ya8 ?yb8 ?yc8 ?yd8 ?yg8 ?yh8 ?yt8 ?ym8 ?ya9 ?yb9 ?yc9 ?yd9 ?yg9 ?yh9 ?yt9 ?ym9 ?ye ?yf ?yo_NoMove ?yo_TooMany ?yn
    (case a0 => k_is)
    (case l0 => k_is)
    (case c0 => k_is)
    (case k0 => k_is)
    (case a1 => k_is)
    (case l1 => k_is)
    (case c1 => k_is)
    (case k1 => k_is)
    (case a2 => k_is)
    (case l2 => k_is)
    (case c2 => k_is)
    (case k2 => k_is)
    (case a3 => k_is)
    (case l3 => k_is)
    (case c3 => k_is)
    (case k3 => k_is)
    (case a4 => k_is)
    (case l4 => k_is)
    (case c4 => k_is)
    (case k4 => k_is)
    (case a5 => k_is)
    (case l5 => k_is)
    (case c5 => k_is)
    (case k5 => k_is)
    (case a6 => k_is)
    (case l6 => k_is)
    (case c6 => k_is)
    (case k6 => k_is)
    (case a7 => k_is)
    (case l7 => k_is)
    (case c7 => k_is)
    (case k7 => k_is)
    (case a8 => k_is)
    (case l8 => k_is)
    (case c8 => k_is)
    (case k8 => k_is)
    (case a9 => k_is)
    (case l9 => k_is)
    (case c9 => k_is)
    (case k9 => k_is)
    (case a10 => k_is)
    (case l10 => k_is)
    (case c10 => k_is)
    (case k10 => k_is)
    (case a11 => k_is)
    (case l11 => k_is)
    (case c11 => k_is)
    (case k11 => k_is)
    (case a12 => k_is)
    (case l12 => k_is)
    (case c12 => k_is)
    (case k12 => k_is)
    (case a13 => k_is)
    (case l13 => k_is)
    (case c13 => k_is)
    (case k13 => k_is)
    (case a14 => k_is)
    (case l14 => k_is)
    (case c14 => k_is)
    (case k14 => k_is)
    (case a15 => k_is)
    (case l15 => k_is)
    (case c15 => k_is)
    (case k15 => k_is)
    (case a16 => k_is)
    (case l16 => k_is)
    (case c16 => k_is)
    (case k16 => k_is)
    (case a17 => k_is)
    (case l17 => k_is)
    (case c17 => k_is)
    (case k17 => k_is)
    (case a18 => k_is)
    (case l18 => k_is)
    (case c18 => k_is)
    (case k18 => k_is)
    (case a19 => k_is)
    (case l19 => k_is)
    (case c19 => k_is)
    (case k19 => k_is)
    (case a20 => k_is)
    (case l20 => k_is)
    (case c20 => k_is)
    (case k20 => k_is)
    (case a21 => k_is)
    (case l21 => k_is)
    (case c21 => k_is)
    (case k21 => k_is)
    (case a22 => k_is)
    (case l22 => k_is)
    (case c22 => k_is)
    (case k22 => k_is)
    (case a23 => k_is)
    (case l23 => k_is)
    (case c23 => k_is)
    (case k23 => k_is)
    (case a24 => k_is)
    (case l24 => k_is)
    (case c24 => k_is)
    (case k24 => k_is)
    (case a25 => k_is)
    (case l25 => k_is)
    (case c25 => k_is)
    (case k25 => k_is)
    (case a26 => k_is)
    (case l26 => k_is)
    (case c26 => k_is)
    (case k26 => k_is)
    (case a27 => k_is)
    (case l27 => k_is)
    (case c27 => k_is)
    (case k27 => k_is)
    (case a28 => k_is)
    (case l28 => k_is)
    (case c28 => k_is)
    (case k28 => k_is)
    (case a29 => k_is)
    (case l29 => k_is)
    (case c29 => k_is)
    (case k29 => k_is)
    (case a30 => k_is)
    (case l30 => k_is)
    (case c30 => k_is)
    (case k30 => k_is)
    (case z_ValueError => k_is)
    (case z_abs => k_is)
    (case z_enumerate => k_is)
    (case z_int => k_is)
    (case z_isinstance => k_is)
    (case z_len => k_is)
    (case z_list => k_is)
    (case z_max => k_is)
    (case z_min => k_is)
    (case z_range => k_is)
    (case z_tuple => k_is)
    (case g_MANY_WAYS => k_is)
    (case g_MOST_SIZE => k_is)
    (case ya0 => k_is)
    (case yb0 => k_is)
    (case yc0 => k_is)
    (case yd0 => k_is)
    (case yg0 => k_is)
    (case yh0 => k_is)
    (case yt0 => k_is)
    (case ym0 => k_is)
    (case ya1 => k_is)
    (case yb1 => k_is)
    (case yc1 => k_is)
    (case yd1 => k_is)
    (case yg1 => k_is)
    (case yh1 => k_is)
    (case yt1 => k_is)
    (case ym1 => k_is)
    (case ya2 => k_is)
    (case yb2 => k_is)
    (case yc2 => k_is)
    (case yd2 => k_is)
    (case yg2 => k_is)
    (case yh2 => k_is)
    (case yt2 => k_is)
    (case ym2 => k_is)
    (case ya3 => k_is)
    (case yb3 => k_is)
    (case yc3 => k_is)
    (case yd3 => k_is)
    (case yg3 => k_is)
    (case yh3 => k_is)
    (case yt3 => k_is)
    (case ym3 => k_is)
    (case ya4 => k_is)
    (case yb4 => k_is)
    (case yc4 => k_is)
    (case yd4 => k_is)
    (case yg4 => k_is)
    (case yh4 => k_is)
    (case yt4 => k_is)
    (case ym4 => k_is)
    (case ya5 => k_is)
    (case yb5 => k_is)
    (case yc5 => k_is)
    (case yd5 => k_is)
    (case yg5 => k_is)
    (case yh5 => k_is)
    (case yt5 => k_is)
    (case ym5 => k_is)
    (case ya6 => k_is)
    (case yb6 => k_is)
    (case yc6 => k_is)
    (case yd6 => k_is)
    (case yg6 => k_is)
    (case yh6 => k_is)
    (case yt6 => k_is)
    (case ym6 => k_is)
    (case ya7 => k_is)
    (case yb7 => k_is)
    (case yc7 => k_is)
    (case yd7 => k_is)
    (case yg7 => k_is)
    (case yh7 => k_is)
    (case yt7 => k_is)
    (case ym7 => k_is)
    (case ya8 => k_is)
    (case yb8 => k_is)
    (case yc8 => k_is)
    (case yd8 => k_is)
    (case yg8 => k_is)
    (case yh8 => k_is)
    (case yt8 => k_is)
    (case ym8 => k_is)
    (case ya9 => k_is)
    (case yb9 => k_is)
    (case yc9 => k_is)
    (case yd9 => k_is)
    (case yg9 => k_is)
    (case yh9 => k_is)
    (case yt9 => k_is)
    (case ym9 => k_is)
    (case ye => k_is)
    (case yf => k_is)
    (case yo_NoMove => k_exc)
    (case yo_TooMany => k_exc)
    (case yn => decide)
