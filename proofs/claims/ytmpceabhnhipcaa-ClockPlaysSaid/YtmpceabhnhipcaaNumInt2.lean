/- Plain mathematics: what num.Int reckons with, by a number's bits. -/
import Derived.Test.YtmpceabhnhipcaaNumInt
import Derived.Test.YtmpceabhnhipcaaNumWalk4
namespace Go.Proofs.Ytmpceabhnhipcaa.NumP
open NumW
theorem mul_pow_sub (m k c : Nat) (h : c ≤ k) : m * 2 ^ (k - c) * 2 ^ c = m * 2 ^ k := by
  rw [Nat.mul_assoc, ← Nat.pow_add, Nat.sub_add_cancel h]
theorem small_lt (n c : Nat) (h : n < 4503599627370496) (hc : 53 ≤ c) : 2 * n < 2 ^ c :=
  Nat.lt_of_lt_of_le (show 2 * n < 2 ^ 53 by omega) (Nat.pow_le_pow_right (by decide) hc)
theorem zero_eq (c : Nat) : val 0 = 0 * 2 ^ c := by rw [Nat.zero_mul]; rfl
/-- The nearest whole number's magnitude. -/
def wm (r : Nat) : Nat := near (val r) 1074
theorem near_scale (m d j : Nat) : near (m * 2 ^ j) (d + j) = near m d := by
  have hj : 0 < 2 ^ j := Nat.two_pow_pos _
  unfold near
  rw [Nat.pow_add, Nat.mul_div_mul_right _ _ hj, Nat.mul_mod_mul_right]
  have e1 : (2 ^ d * 2 ^ j < 2 * (m % 2 ^ d * 2 ^ j)) ↔ (2 ^ d < 2 * (m % 2 ^ d)) := by
    rw [← Nat.mul_assoc]; exact Nat.mul_lt_mul_right hj
  have e2 : (2 ^ d * 2 ^ j = 2 * (m % 2 ^ d * 2 ^ j)) ↔ (2 ^ d = 2 * (m % 2 ^ d)) := by
    rw [← Nat.mul_assoc]; exact Nat.mul_left_inj (by omega)
  simp only [e1, e2]
theorem whole_even (s : Bool) (m k r : Nat) (h : m * 2 ^ k = val r) : Ieee.Toward.even.cut s (m <<< (-1074 + (k : Int)).toNat) (-(-1074 + (k : Int))).toNat = wm r := by
  rw [cut_even, Nat.shiftLeft_eq]
  unfold wm
  rw [← h]
  by_cases hk : k ≤ 1074
  · have e1 : (-1074 + (k : Int)).toNat = 0 := by omega
    have e2 : (-(-1074 + (k : Int))).toNat = 1074 - k := by omega
    rw [e1, e2, Nat.pow_zero, Nat.mul_one]
    have := near_scale m (1074 - k) k
    rw [show 1074 - k + k = 1074 by omega] at this
    exact this.symm
  · have e1 : (-1074 + (k : Int)).toNat = k - 1074 := by omega
    have e2 : (-(-1074 + (k : Int))).toNat = 0 := by omega
    rw [e1, e2, near_zero]
    have := near_exact (m * 2 ^ (k - 1074)) 1074
    rw [mul_pow_sub m k 1074 (by omega)] at this
    exact this.symm
theorem whole_zero (s : Bool) (m k W : Nat) (h : m * 2 ^ k = W * 2 ^ 1074) : Ieee.Toward.zero.cut s (m <<< (-1074 + (k : Int)).toNat) (-(-1074 + (k : Int))).toNat = W := by
  rw [Nat.shiftLeft_eq]
  by_cases hk : k ≤ 1074
  · have e1 : (-1074 + (k : Int)).toNat = 0 := by omega
    have e2 : (-(-1074 + (k : Int))).toNat = 1074 - k := by omega
    have e3 : m = W * 2 ^ (1074 - k) := by
      apply Nat.eq_of_mul_eq_mul_right (Nat.two_pow_pos k)
      rw [h, Nat.mul_assoc, ← Nat.pow_add, show 1074 - k + k = 1074 by omega]
    rw [e1, e2, Nat.pow_zero, Nat.mul_one, e3, cut_zero_exact]
  · have e1 : (-1074 + (k : Int)).toNat = k - 1074 := by omega
    have e2 : (-(-1074 + (k : Int))).toNat = 0 := by omega
    have e3 : m * 2 ^ (k - 1074) = W := by
      apply Nat.eq_of_mul_eq_mul_right (Nat.two_pow_pos 1074)
      rw [← h]; exact mul_pow_sub m k 1074 (by omega)
    rw [e1, e2, e3]
    have := cut_zero_exact s W 0
    rwa [Nat.pow_zero, Nat.mul_one] at this
theorem val_form (r : Nat) (h : 4503599627370496 ≤ r) : val r = (4503599627370496 + r % 4503599627370496) * 2 ^ (r / 4503599627370496 - 1) := by
  unfold val; rw [if_neg (by omega)]
theorem near_le (m d : Nat) (h : 1 ≤ d) : near m d ≤ m / 2 + 1 := by
  unfold near
  have : m / 2 ^ d ≤ m / 2 := Nat.div_le_div_left (by have := Nat.pow_le_pow_right (n := 2) (by decide) h; simpa using this) (by decide)
  split <;> omega
/-- A whole number that comes of a rung can be written. -/
theorem wm_fits (r : Nat) (h : r < 9218868437227405312) (hW : wm r ≠ 0) : 2 ^ ((wm r).log2 - 52) ∣ wm r ∧ 1074 + (wm r).log2 ≤ 2097 := by
  have p53 : (9007199254740992 : Nat) = 2 ^ 53 := by decide
  have small : ∀ W, W ≠ 0 → W < 9007199254740992 → 2 ^ (W.log2 - 52) ∣ W ∧ 1074 + W.log2 ≤ 2097 := by
    intro W h0 hlt
    have : W.log2 < 53 := (Nat.log2_lt h0).2 (by rw [← p53]; exact hlt)
    rw [show W.log2 - 52 = 0 by omega]
    exact ⟨by rw [Nat.pow_zero]; exact Nat.one_dvd _, by omega⟩
  by_cases hr : r < 4503599627370496
  · refine small _ hW ?_
    have : wm r = 0 := by
      unfold wm
      apply near_small
      have : val r = r := by unfold val; rw [if_pos hr]
      rw [this]
      exact small_lt r 1074 hr (by decide)
    exact absurd this hW
  · have hv := val_form r (by omega)
    have he : r / 4503599627370496 - 1 ≤ 2045 := by omega
    have hm : 4503599627370496 + r % 4503599627370496 < 9007199254740992 := by omega
    have hm2 : 4503599627370496 ≤ 4503599627370496 + r % 4503599627370496 := by omega
    generalize 4503599627370496 + r % 4503599627370496 = m at *
    generalize r / 4503599627370496 - 1 = e at *
    by_cases h1 : 1074 ≤ e
    · have hw : wm r = m * 2 ^ (e - 1074) := by
        unfold wm
        have := near_exact (m * 2 ^ (e - 1074)) 1074
        rwa [mul_pow_sub m e 1074 h1, ← hv] at this
      have hlog : (wm r).log2 = 52 + (e - 1074) := by
        rw [hw]
        have h0 : m * 2 ^ (e - 1074) ≠ 0 := by rw [← hw]; exact hW
        apply Nat.le_antisymm
        · have : (m * 2 ^ (e - 1074)).log2 < 53 + (e - 1074) := (Nat.log2_lt h0).2 (by rw [Nat.pow_add]; exact Nat.mul_lt_mul_of_pos_right (by rw [← p53]; exact hm) (Nat.two_pow_pos _))
          omega
        · exact (Nat.le_log2 h0).2 (by rw [Nat.pow_add]; exact Nat.mul_le_mul_right _ hm2)
      rw [hlog, show 52 + (e - 1074) - 52 = e - 1074 by omega]
      exact ⟨by rw [hw]; exact Nat.dvd_mul_left _ _, by omega⟩
    · refine small _ hW ?_
      have hw : wm r = near m (1074 - e) := by
        unfold wm
        have := near_scale m (1074 - e) e
        rw [show 1074 - e + e = 1074 by omega, ← hv] at this
        exact this
      have := near_le m (1074 - e) (by omega)
      omega
theorem word_parts (s : Bool) (r : Nat) (h : r < 9218868437227405312) : mag (Ieee.double.word s r) = r ∧ sgn (Ieee.double.word s r) = s ∧ Ieee.double.word s r < 18446744073709551616 := by
  have e1 : Ieee.double.signWeight = 9223372036854775808 := by decide
  unfold Ieee.Format.word
  rw [e1]
  unfold mag sgn
  cases s
  · rw [if_neg (by decide)]
    refine ⟨by omega, ?_, by omega⟩
    rw [Nat.div_eq_of_lt (by omega)]; rfl
  · rw [if_pos rfl]
    refine ⟨by omega, ?_, by omega⟩
    rw [show (9223372036854775808 + r) / 9223372036854775808 = 1 by omega]; rfl
/-- The nearest whole number of a finite one, as a word. -/
theorem rte_parts (x : Nat) (h : mag x < 9218868437227405312) : sgn (rte x) = sgn x ∧ val (mag (rte x)) = wm (mag x) * 2 ^ 1074 ∧ mag (rte x) < 9218868437227405312 ∧ rte x < 18446744073709551616 := by
  obtain ⟨m, k, hr, hv⟩ := read_number x h
  have hd : FloatKind.f64.decode x = .number (sgn x) m (-1074 + (k : Int)) := hr
  have hw : rte x = Ieee.double.nearest (sgn x) (wm (mag x)) 0 := by
    unfold rte
    rw [hd]
    show Ieee.double.nearest (sgn x) (Ieee.Toward.even.cut (sgn x) (m <<< (-1074 + (k : Int)).toNat) (-(-1074 + (k : Int))).toNat) 0 = _
    rw [whole_even _ m k (mag x) hv]
  by_cases h0 : wm (mag x) = 0
  · have e : rte x = Ieee.double.word (sgn x) 0 := by rw [hw]; unfold Ieee.Format.nearest; rw [if_pos h0]
    obtain ⟨p1, p2, p3⟩ := word_parts (sgn x) 0 (by decide)
    rw [e, p1, p2, h0]
    exact ⟨rfl, zero_eq 1074, by decide, p3⟩
  · obtain ⟨f1, f2⟩ := wm_fits _ h h0
    obtain ⟨r, hn, hvr, hlt⟩ := nearest_exact (sgn x) (wm (mag x)) 1074 h0 f1 f2
    have e : rte x = Ieee.double.word (sgn x) r := by rw [hw, ← hn]; rfl
    obtain ⟨p1, p2, p3⟩ := word_parts (sgn x) r hlt
    rw [e, p1, p2]
    exact ⟨rfl, hvr, hlt, p3⟩
/-- The nearest whole number. -/
def intN (x : Nat) : Int := if sgn x then -(wm (mag x) : Int) else (wm (mag x) : Int)
theorem fval_rte (x : Nat) (h : mag x < 9218868437227405312) : fval (rte x) = intN x * ((2 ^ 1074 : Nat) : Int) := by
  obtain ⟨h1, h2, _, _⟩ := rte_parts x h
  unfold fval intN
  rw [h1, h2]
  cases sgn x
  · simp only [Bool.false_eq_true, if_false]; rw [Int.natCast_mul]
  · simp only [if_true]; rw [Int.natCast_mul, Int.neg_mul]
theorem fval_low : fval 14114281232179134464 = -9223372036854775808 * ((2 ^ 1074 : Nat) : Int) := by decide +kernel
theorem fval_high : fval 4890909195324358656 = 9223372036854775808 * ((2 ^ 1074 : Nat) : Int) := by decide +kernel
theorem low_iff (x : Nat) (h : mag x < 9218868437227405312) : low x = decide (intN x < -9223372036854775808) := by
  obtain ⟨_, _, h3, _⟩ := rte_parts x h
  unfold low
  rw [show FloatKind.f64.format.order (rte x) 14114281232179134464 = _ from order_fval _ _ (Nat.le_of_lt h3) (by decide), fval_rte x h, fval_low, ← cmp_scale _ _ _ (Nat.two_pow_pos 1074), cmp_int]
  by_cases h1 : intN x < -9223372036854775808
  · rw [if_pos h1, decide_eq_true h1]; rfl
  · rw [if_neg h1, decide_eq_false h1]; split <;> rfl
theorem high_iff (x : Nat) (h : mag x < 9218868437227405312) : high x = decide (9223372036854775808 ≤ intN x) := by
  obtain ⟨_, _, h3, _⟩ := rte_parts x h
  unfold high
  rw [show FloatKind.f64.format.order (rte x) 4890909195324358656 = _ from order_fval _ _ (Nat.le_of_lt h3) (by decide), fval_rte x h, fval_high, ← cmp_scale _ _ _ (Nat.two_pow_pos 1074), cmp_int]
  by_cases h1 : intN x < 9223372036854775808
  · rw [if_pos h1, decide_eq_false (by omega)]; rfl
  · rw [if_neg h1, decide_eq_true (by omega)]; split <;> rfl
theorem toInt_rte (x : Nat) (h : mag x < 9218868437227405312) (h1 : -9223372036854775808 ≤ intN x) (h2 : intN x < 9223372036854775808) : floatToIntVal .f64 (rte x) .i64 = some (intN x) := by
  obtain ⟨h3, h4, h5, _⟩ := rte_parts x h
  obtain ⟨m, k, hr, hv⟩ := read_number (rte x) h5
  have hd : FloatKind.f64.decode (rte x) = .number (sgn (rte x)) m (-1074 + (k : Int)) := hr
  have ht : (FloatKind.f64.decode (rte x)).toInt .zero = some (intN x) := by
    rw [hd]
    show some (Ieee.signed (sgn (rte x)) (Ieee.Toward.zero.cut (sgn (rte x)) (m <<< (-1074 + (k : Int)).toNat) (-(-1074 + (k : Int))).toNat) 0) = _
    rw [whole_zero _ m k (wm (mag x)) (by rw [hv, h4]), h3]
    unfold Ieee.signed intN
    rw [Nat.shiftLeft_zero]
  unfold floatToIntVal
  rw [ht]
  simp only
  rw [if_pos ⟨by show (-9223372036854775808 : Int) ≤ _; exact h1, by show intN x ≤ (9223372036854775807 : Int); omega⟩]
theorem wm_high (r : Nat) (h : 1075 ≤ r / 4503599627370496) : wm r = (4503599627370496 + r % 4503599627370496) * 2 ^ (r / 4503599627370496 - 1075) := by
  have hv := val_form r (by omega)
  generalize 4503599627370496 + r % 4503599627370496 = m at *
  generalize r / 4503599627370496 = E at *
  unfold wm
  have := near_exact (m * 2 ^ (E - 1 - 1074)) 1074
  rw [mul_pow_sub m (E - 1) 1074 (by omega), ← hv] at this
  rw [this, show E - 1 - 1074 = E - 1075 by omega]
theorem wm_low (r : Nat) (h1 : 1 ≤ r / 4503599627370496) (h2 : r / 4503599627370496 ≤ 1074) : wm r = near (4503599627370496 + r % 4503599627370496) (1075 - r / 4503599627370496) := by
  have hv := val_form r (by omega)
  generalize 4503599627370496 + r % 4503599627370496 = m at *
  generalize r / 4503599627370496 = E at *
  unfold wm
  have := near_scale m (1075 - E) (E - 1)
  rw [show 1075 - E + (E - 1) = 1074 by omega, ← hv] at this
  exact this
theorem wm_tiny (r : Nat) (h : r / 4503599627370496 ≤ 1021) : wm r = 0 := by
  by_cases h0 : r < 4503599627370496
  · have : val r = r := by unfold val; rw [if_pos h0]
    unfold wm
    rw [this]
    exact near_small _ _ (small_lt r 1074 h0 (by decide))
  · rw [wm_low r (by omega) (by omega)]
    apply near_small
    exact Nat.lt_of_lt_of_le (show 2 * (4503599627370496 + r % 4503599627370496) < 2 ^ 54 by omega) (Nat.pow_le_pow_right (by decide) (by omega))
end Go.Proofs.Ytmpceabhnhipcaa.NumP

