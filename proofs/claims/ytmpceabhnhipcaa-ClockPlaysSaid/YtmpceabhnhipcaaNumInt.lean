/- Plain mathematics: the nearest whole number of a float64, by its bits. -/
import Derived.Test.YtmpceabhnhipcaaNumOrd
import Derived.Laws.FloatArith
import Derived.Deep.Draws
import Derived.Below
namespace Go.Proofs.Ytmpceabhnhipcaa.NumP
/-- A number over a power of two, to the nearest, the even one of two. -/
def near (n d : Nat) : Nat := n / 2 ^ d + (if 2 ^ d < 2 * (n % 2 ^ d) ∨ (2 ^ d = 2 * (n % 2 ^ d) ∧ n / 2 ^ d % 2 = 1) then 1 else 0)
theorem lt_gap (n : Nat) : 2 * n < 2 ^ (n.log2 + 2) := by
  have := @Nat.lt_log2_self n
  rw [Nat.pow_succ]
  omega
theorem near_small (n d : Nat) (h : 2 * n < 2 ^ d) : near n d = 0 := by
  unfold near
  have h1 : n / 2 ^ d = 0 := Nat.div_eq_of_lt (by omega)
  have h2 : n % 2 ^ d = n := Nat.mod_eq_of_lt (by omega)
  rw [h1, h2, if_neg (by omega)]
theorem cut_gap (n g : Nat) : n / 2 ^ g + (2 ^ g < 2 * (n % 2 ^ g) || (2 ^ g == 2 * (n % 2 ^ g) && n / 2 ^ g % 2 == 1)).toNat = near n g := by
  unfold near
  congr 1
  by_cases h : 2 ^ g < 2 * (n % 2 ^ g) ∨ (2 ^ g = 2 * (n % 2 ^ g) ∧ n / 2 ^ g % 2 = 1)
  · rw [if_pos h]
    have : (decide (2 ^ g < 2 * (n % 2 ^ g)) || (2 ^ g == 2 * (n % 2 ^ g) && n / 2 ^ g % 2 == 1)) = true := by simpa using h
    rw [this]; rfl
  · rw [if_neg h]
    have : (decide (2 ^ g < 2 * (n % 2 ^ g)) || (2 ^ g == 2 * (n % 2 ^ g) && n / 2 ^ g % 2 == 1)) = false := by
      rw [Bool.eq_false_iff]; intro z; exact h (by simpa using z)
    rw [this]; rfl
theorem cut_even (neg : Bool) (n drop : Nat) : Ieee.Toward.even.cut neg n drop = near n drop := by
  by_cases h : drop ≤ n.log2 + 2
  · show n / (1 <<< min drop (n.log2 + 2)) + _ = _
    rw [Nat.min_eq_left h, Nat.one_shiftLeft]
    exact cut_gap n drop
  · have hg := lt_gap n
    rw [near_small n drop (Nat.lt_of_lt_of_le hg (Nat.pow_le_pow_right (by decide) (by omega)))]
    show n / (1 <<< min drop (n.log2 + 2)) + _ = _
    rw [Nat.min_eq_right (by omega), Nat.one_shiftLeft]
    exact (cut_gap n (n.log2 + 2)).trans (near_small n _ hg)
theorem cut_zero_exact (neg : Bool) (W d : Nat) : Ieee.Toward.zero.cut neg (W * 2 ^ d) d = W := by
  show W * 2 ^ d / (1 <<< min d ((W * 2 ^ d).log2 + 2)) + 0 = W
  rw [Nat.one_shiftLeft, Nat.add_zero]
  by_cases hW : W = 0
  · subst hW; rw [Nat.zero_mul, Nat.zero_div]
  · have : d ≤ (W * 2 ^ d).log2 := (Nat.le_log2 (Nat.mul_ne_zero hW (Nat.ne_of_gt (Nat.two_pow_pos _)))).2 (Nat.le_mul_of_pos_left _ (by omega))
    rw [Nat.min_eq_left (by omega), Nat.mul_div_cancel _ (Nat.two_pow_pos _)]
theorem near_exact (W d : Nat) : near (W * 2 ^ d) d = W := by
  have hp : 0 < 2 ^ d := Nat.two_pow_pos _
  unfold near
  rw [Nat.mul_div_cancel _ hp, Nat.mul_mod_left, if_neg (by omega), Nat.add_zero]
theorem near_zero (n : Nat) : near n 0 = n := by
  have := near_exact n 0
  rwa [Nat.pow_zero, Nat.mul_one] at this
theorem val_norm (e k : Nat) (h1 : 4503599627370496 ≤ k) (h2 : k < 9007199254740992) : val (e * 4503599627370496 + k) = k * 2 ^ e := by
  have d1 : (e * 4503599627370496 + k) / 4503599627370496 = e + 1 := by omega
  have d2 : (e * 4503599627370496 + k) % 4503599627370496 = k - 4503599627370496 := by omega
  unfold val
  rw [if_neg (by omega), d1, d2, Nat.add_sub_cancel, show 4503599627370496 + (k - 4503599627370496) = k by omega]
/-- What a number's nearest word is, where the format has it just so. -/
theorem nearest_exact (neg : Bool) (n : Nat) (p : Nat) (hn : n ≠ 0) (hrep : 2 ^ (n.log2 - 52) ∣ n) (hfin : p + n.log2 ≤ 2097) :
    ∃ r, Ieee.double.nearest neg n (-1074 + (p : Int)) = Ieee.double.word neg r ∧ val r = n * 2 ^ p ∧ r < 9218868437227405312 := by
  have e4 : Ieee.double.leastPlace = -1074 := by decide
  have e2 : Ieee.double.binade = 4503599627370496 := by decide
  have e3 : Ieee.double.infRung = 9218868437227405312 := by decide
  have hlog : 2 ^ n.log2 ≤ n := Nat.log2_self_le hn
  have hlog2 : n < 2 ^ (n.log2 + 1) := Nat.lt_log2_self
  have p52 : (4503599627370496 : Nat) = 2 ^ 52 := by decide
  unfold Ieee.Format.nearest
  rw [if_neg hn]
  simp only [e4, e2, e3]
  show ∃ r, Ieee.double.word neg (min ((max (-1074 + (p : Int) + (n.log2 : Int) - ((52 : Nat) : Int)) (-1074) - -1074).toNat * 4503599627370496 + Ieee.Toward.even.cut neg (n <<< (-1074 + (p : Int) - max (-1074 + (p : Int) + (n.log2 : Int) - ((52 : Nat) : Int)) (-1074)).toNat) (max (-1074 + (p : Int) + (n.log2 : Int) - ((52 : Nat) : Int)) (-1074) - (-1074 + (p : Int))).toNat) 9218868437227405312) = _ ∧ _
  rw [cut_even, Nat.shiftLeft_eq]
  generalize hl : n.log2 = l at *
  by_cases hB : p + l < 52
  · have a1 : (max (-1074 + (p : Int) + (l : Int) - ((52 : Nat) : Int)) (-1074) - -1074).toNat = 0 := by omega
    have a2 : (-1074 + (p : Int) - max (-1074 + (p : Int) + (l : Int) - ((52 : Nat) : Int)) (-1074)).toNat = p := by omega
    have a3 : (max (-1074 + (p : Int) + (l : Int) - ((52 : Nat) : Int)) (-1074) - (-1074 + (p : Int))).toNat = 0 := by omega
    rw [a1, a2, a3, near_zero, Nat.zero_mul, Nat.zero_add]
    have hk : n * 2 ^ p < 4503599627370496 := by
      rw [p52]
      calc n * 2 ^ p < 2 ^ (l + 1) * 2 ^ p := Nat.mul_lt_mul_of_pos_right hlog2 (Nat.two_pow_pos _)
        _ = 2 ^ (l + 1 + p) := (Nat.pow_add 2 (l + 1) p).symm
        _ ≤ 2 ^ 52 := Nat.pow_le_pow_right (by decide) (by omega)
    rw [Nat.min_eq_left (by omega)]
    exact ⟨_, rfl, by unfold val; rw [if_pos hk], by omega⟩
  · have a1 : (max (-1074 + (p : Int) + (l : Int) - ((52 : Nat) : Int)) (-1074) - -1074).toNat = p + l - 52 := by omega
    have a2 : (-1074 + (p : Int) - max (-1074 + (p : Int) + (l : Int) - ((52 : Nat) : Int)) (-1074)).toNat = 52 - l := by omega
    have a3 : (max (-1074 + (p : Int) + (l : Int) - ((52 : Nat) : Int)) (-1074) - (-1074 + (p : Int))).toNat = l - 52 := by omega
    rw [a1, a2, a3]
    have key : ∃ k, near (n * 2 ^ (52 - l)) (l - 52) = k ∧ 4503599627370496 ≤ k ∧ k < 9007199254740992 ∧ k * 2 ^ (p + l - 52) = n * 2 ^ p := by
      by_cases h52 : 52 ≤ l
      · obtain ⟨k, hk⟩ := hrep
        have e : n * 2 ^ (52 - l) = k * 2 ^ (l - 52) := by rw [show 52 - l = 0 by omega, Nat.pow_zero, Nat.mul_one, hk, Nat.mul_comm]
        refine ⟨k, by rw [e, near_exact], ?_, ?_, ?_⟩
        · have : 2 ^ (l - 52) * 2 ^ 52 ≤ 2 ^ (l - 52) * k := by rw [← Nat.pow_add, ← hk, show l - 52 + 52 = l by omega]; exact hlog
          rw [p52]; exact Nat.le_of_mul_le_mul_left this (Nat.two_pow_pos _)
        · have : 2 ^ (l - 52) * k < 2 ^ (l - 52) * 2 ^ 53 := by rw [← Nat.pow_add, ← hk, show l - 52 + 53 = l + 1 by omega]; exact hlog2
          exact Nat.lt_of_mul_lt_mul_left this
        · rw [hk, show p + l - 52 = (l - 52) + p by omega, Nat.pow_add, ← Nat.mul_assoc, Nat.mul_comm k]
      · refine ⟨n * 2 ^ (52 - l), by rw [show l - 52 = 0 by omega, near_zero], ?_, ?_, ?_⟩
        · rw [p52, show (2 : Nat) ^ 52 = 2 ^ l * 2 ^ (52 - l) by rw [← Nat.pow_add, show l + (52 - l) = 52 by omega]]
          exact Nat.mul_le_mul_right _ hlog
        · rw [show (9007199254740992 : Nat) = 2 ^ (l + 1) * 2 ^ (52 - l) by rw [← Nat.pow_add, show l + 1 + (52 - l) = 53 by omega]]
          exact Nat.mul_lt_mul_of_pos_right hlog2 (Nat.two_pow_pos _)
        · rw [Nat.mul_assoc, ← Nat.pow_add, show 52 - l + (p + l - 52) = p by omega]
    obtain ⟨k, hk, k1, k2, k3⟩ := key
    rw [hk, Nat.min_eq_left (by omega)]
    exact ⟨_, rfl, by rw [val_norm _ _ k1 k2, k3], by omega⟩
end Go.Proofs.Ytmpceabhnhipcaa.NumP

