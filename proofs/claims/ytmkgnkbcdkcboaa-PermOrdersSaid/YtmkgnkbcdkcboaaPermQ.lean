/- When a frame is permanent: the more is left, the later; how far it is off, as plain numbers. -/
import Derived.Test.YtmkgnkbcdkcboaaPermA
namespace Go.Proofs.Ytmkgnkbcdkcboaa.PermW
open ClockW
theorem wh_mono {m b r n n' : Int} (h0 : -1000000 ≤ r) (h : n ≤ n') : wh m b r n ≤ wh m b r n' := by
  by_cases h1 : n' ≤ b
  · rw [wh_low h1, wh_low (by omega)]
    exact Int.le_refl _
  · by_cases h2 : n ≤ b
    · rw [wh_low h2]
      exact Int.le_of_lt (wh_high h0 (by omega)).2.1
    · rw [(wh_high h0 (by omega : b < n)).1, (wh_high h0 (by omega : b < n')).1]
      have := Int.ediv_le_ediv (show (0 : Int) < 1000000000 + r by omega) (show (b - n') * 1000000000 ≤ (b - n) * 1000000000 by omega)
      omega
theorem wh_le {m b r n t : Int} (h0 : -1000000 ≤ r) (hm : m ≤ t) (h : n ≤ sh m b r t) : wh m b r n ≤ t := by
  by_cases h1 : n ≤ b
  · rw [wh_low h1]; exact hm
  · have g := (wh_high (m := m) h0 (by omega : b < n)).2.2.2
    rcases Int.lt_or_le t (wh m b r n) with h2 | h2
    · have := sh_mono (m := m) (b := b) h0 (show t ≤ wh m b r n - 1 by omega)
      omega
    · exact h2
theorem le_wh {m b r n t : Int} (h0 : -1000000 ≤ r) (h : sh m b r (t - 1) < n) : t ≤ wh m b r n ∨ n ≤ b := by
  by_cases h1 : n ≤ b
  · exact Or.inr h1
  · have g := (wh_high (m := m) h0 (by omega : b < n)).2.2.1
    rcases Int.lt_or_le (wh m b r n) t with h2 | h2
    · have := sh_mono (m := m) (b := b) h0 (show wh m b r n ≤ t - 1 by omega)
      omega
    · exact Or.inl h2
theorem wh_start {m b r n : Int} (h0 : -1000000 ≤ r) : m ≤ wh m b r n := by
  by_cases h1 : n ≤ b
  · rw [wh_low h1]; exact Int.le_refl _
  · exact Int.le_of_lt (wh_high h0 (by omega)).2.1
/-- A clock from the beginning on shows much more at the end than at any time in the first half. -/
theorem sh_room {r t e : Int} (h0 : -1000000 ≤ r) (ht : t ≤ 562949954469888) (he : e ≤ 1048576) : ¬ sh 0 0 r 1125899906842624 < sh 0 0 r t + e := by
  unfold sh
  have a := Int.mul_le_mul_of_nonneg_right (show t - 0 ≤ 562949954469888 by omega) (show (0 : Int) ≤ 1000000000 + r by omega)
  generalize (t - 0) * (1000000000 + r) = z at *
  omega
/-- What Due tells by a clock from the beginning on, in the first half. -/
theorem du_ok {r t cl d : Int} (h0 : -1000000 ≤ r) (t0 : 0 ≤ t) (t1 : t ≤ 562949954469888) (c0 : 0 ≤ cl) (c1 : cl ≤ d) (d1 : d ≤ 1048576) : du 0 0 r t cl d (tell 0 t) = (wh 0 0 r (sh 0 0 r t + (d - cl)), 0) := by
  have ht : tell 0 t = true := tell_iff.2 ⟨⟨t0, by omega⟩, t0⟩
  unfold du
  rw [if_pos ⟨⟨by omega, d1⟩, c0, c1, ht⟩, if_neg (by have := sh_room h0 t1 (show d - cl ≤ 1048576 by omega); omega)]
  rw [show sh 0 0 r t + d - cl = sh 0 0 r t + (d - cl) by omega]
theorem sh_right (t : Int) : sh 0 0 0 t = t := by unfold sh; omega
theorem wh_right {n : Int} (h : 0 ≤ n) : wh 0 0 0 n = n := by
  by_cases h1 : n ≤ 0
  · rw [wh_low h1]; omega
  · rw [(wh_high (by decide) (by omega : (0 : Int) < n)).1]
    omega
theorem du_right {t cl d : Int} (t0 : 0 ≤ t) (t1 : t ≤ 562949954469888) (c0 : 0 ≤ cl) (c1 : cl ≤ d) (d1 : d ≤ 1048576) : du 0 0 0 t cl d (tell 0 t) = (t + (d - cl), 0) := by
  rw [du_ok (by decide) t0 t1 c0 c1 d1, sh_right, wh_right (by omega)]
/-- How far it may be off. -/
def far (d r : Int) : Int := 2 * d * max r (-r) / 1000000000 + 2
theorem far_is {d r : Int} (d0 : 0 ≤ d) (h0 : -1000000 ≤ r) (h1 : r ≤ 1000000) : ∃ P : Int, far d r = 2 * P / 1000000000 + 2 ∧ d * r ≤ P ∧ -P ≤ d * r ∧ 0 ≤ P ∧ P ≤ 1000000 * d ∧ (∀ x : Int, 0 ≤ x → x ≤ d → -P ≤ x * r ∧ x * r ≤ P) := by
  refine ⟨d * max r (-r), by unfold far; rw [Int.mul_assoc], ?_⟩
  have hr : 0 ≤ max r (-r) ∧ r ≤ max r (-r) ∧ -r ≤ max r (-r) := by omega
  have hm : max r (-r) ≤ 1000000 := by omega
  generalize max r (-r) = R at *
  have z : ∀ x : Int, 0 ≤ x → x ≤ d → -(d * R) ≤ x * r ∧ x * r ≤ d * R := by
    intro x x0 x1
    have a := Int.mul_le_mul_of_nonneg_left hr.2.1 x0
    have b := Int.mul_le_mul_of_nonneg_left hr.2.2 x0
    have c := Int.mul_le_mul_of_nonneg_right x1 hr.1
    rw [Int.mul_neg] at b
    omega
  exact ⟨(z d d0 (Int.le_refl _)).2, (z d d0 (Int.le_refl _)).1, Int.mul_nonneg d0 hr.1, by have := Int.mul_le_mul_of_nonneg_left hm d0; omega, z⟩
theorem drift_bound {r t d e : Int} (h0 : -1000000 ≤ r) (h1 : r ≤ 1000000) (t0 : 0 ≤ t) (e0 : 0 ≤ e) (e1 : e ≤ d) (d1 : d ≤ 1048576) :
    t + e - far d r ≤ wh 0 0 r (sh 0 0 r t + e) ∧ wh 0 0 r (sh 0 0 r t + e) ≤ t + e + far d r := by
  obtain ⟨P, hf, -, -, p0, pd, hx⟩ := far_is (show 0 ≤ d by omega) h0 h1
  have he := hx e e0 e1
  have hp : P ≤ 1048576000000 := by omega
  rw [hf]
  have f0 : 0 ≤ 2 * P / 1000000000 + 2 := by omega
  have f1 : 2 * P / 1000000000 + 2 ≤ 2100 := by omega
  have fP : 2 * P < (2 * P / 1000000000 + 2) * 1000000000 - 1000000000 + 1 := by omega
  generalize 2 * P / 1000000000 + 2 = F at *
  have hF : -(1000000 * F) ≤ F * r ∧ F * r ≤ 1000000 * F := by
    have a := Int.mul_le_mul_of_nonneg_left h0 f0
    have b := Int.mul_le_mul_of_nonneg_left h1 f0
    omega
  constructor
  · by_cases hs : t + e - F ≤ 0
    · have := wh_start (m := 0) (b := 0) (n := sh 0 0 r t + e) h0
      omega
    · have key : sh 0 0 r (t + e - F - 1) < sh 0 0 r t + e := by
        unfold sh
        rw [show (t + e - F - 1 - 0) * (1000000000 + r) = t * 1000000000 + t * r + (e * 1000000000 + e * r) - (F * 1000000000 + F * r) - (1000000000 + r) by
          rw [Int.sub_zero, Int.sub_mul, Int.sub_mul, Int.add_mul, Int.mul_add, Int.mul_add, Int.mul_add, Int.one_mul], show (t - 0) * (1000000000 + r) = t * 1000000000 + t * r by rw [Int.sub_zero, Int.mul_add]]
        generalize t * r = U at *
        generalize e * r = V at *
        generalize F * r = W at *
        omega
      rcases le_wh h0 key with g | g
      · exact g
      · have := sh_mono (m := 0) (b := 0) h0 t0
        rw [sh_start] at this
        have : e = 0 := by omega
        have := wh_start (m := 0) (b := 0) (n := sh 0 0 r t + e) h0
        have h9 : sh 0 0 r t = 0 := by omega
        have : t ≤ 1 := by
          unfold sh at h9
          rcases Int.lt_or_le 1 t with h8 | h8
          · have := Int.mul_le_mul_of_nonneg_right (show (2 : Int) ≤ t - 0 by omega) (show (0 : Int) ≤ 1000000000 + r by omega)
            generalize (t - 0) * (1000000000 + r) = z at *
            omega
          · exact h8
        omega
  · refine wh_le h0 (by omega) ?_
    unfold sh
    rw [show (t + e + F - 0) * (1000000000 + r) = t * 1000000000 + t * r + (e * 1000000000 + e * r) + (F * 1000000000 + F * r) by
      rw [Int.sub_zero, Int.add_mul, Int.add_mul, Int.mul_add, Int.mul_add, Int.mul_add], show (t - 0) * (1000000000 + r) = t * 1000000000 + t * r by rw [Int.sub_zero, Int.mul_add]]
    generalize t * r = U at *
    generalize e * r = V at *
    generalize F * r = W at *
    omega
end Go.Proofs.Ytmkgnkbcdkcboaa.PermW
