/- What a clock shows, as plain numbers: it goes on, by how much, and when it shows a number first. -/
import Derived.WalkKit
namespace Go.Proofs.YtmagjekmlnpfpaaGreat.ClockW
/-- What a clock (mark m, base b, rate r) shows at t. -/
def sh (m b r t : Int) : Int := b + (t - m) * (1000000000 + r) / 1000000000
/-- A clock that may be. -/
structure CI (m b r : Int) : Prop where
  m0 : 0 ≤ m
  m1 : m ≤ 1125899906842624
  b0 : -1125899906842624 ≤ b
  b1 : 1000 * b ≤ 1125899906842624000 + 1001 * m
  r0 : -1000000 ≤ r
  r1 : r ≤ 1000000
theorem gone_bounds (d r : Int) (hd : 0 ≤ d) (h0 : -1000000 ≤ r) (h1 : r ≤ 1000000) : 999 * d ≤ 1000 * (d * (1000000000 + r) / 1000000000) + 999 ∧ 1000 * (d * (1000000000 + r) / 1000000000) ≤ 1001 * d ∧ 0 ≤ d * (1000000000 + r) / 1000000000 := by
  have a := Int.mul_le_mul_of_nonneg_left (show (1000000000 : Int) + r ≤ 1001000000 by omega) hd
  have b := Int.mul_le_mul_of_nonneg_left (show (999000000 : Int) ≤ 1000000000 + r by omega) hd
  generalize d * (1000000000 + r) = z at *
  omega
theorem sh_bounds {m b r t : Int} (h : CI m b r) (h0 : m ≤ t) : b ≤ sh m b r t ∧ 1000 * sh m b r t ≤ 1125899906842624000 + 1001 * t := by
  have g := gone_bounds (t - m) r (by omega) h.r0 h.r1
  have := h.b1
  unfold sh
  omega
theorem CI.next {m b r t r' : Int} (h : CI m b r) (h0 : m ≤ t) (h1 : t ≤ 1125899906842624) (q0 : -1000000 ≤ r') (q1 : r' ≤ 1000000) : CI t (sh m b r t) r' := by
  have g := sh_bounds h h0
  exact ⟨Int.le_trans h.m0 h0, h1, Int.le_trans h.b0 g.1, g.2, q0, q1⟩
theorem sh_range {m b r t : Int} (h : CI m b r) (h0 : m ≤ t) (h1 : t ≤ 1125899906842624) : -1125899906842624 ≤ sh m b r t ∧ sh m b r t ≤ 2252925713592090 := by
  have g := sh_bounds h h0
  have := h.b0
  omega
theorem CI.base {m b r : Int} (h : CI m b r) : b ≤ 2252925713592090 := by
  have := h.b1
  have := h.m1
  omega
theorem gone_range {m b r t : Int} (h : CI m b r) (h0 : m ≤ t) (h1 : t ≤ 1125899906842624) : 0 ≤ (t - m) * (1000000000 + r) / 1000000000 ∧ (t - m) * (1000000000 + r) / 1000000000 ≤ 1127025806749467 := by
  have g := gone_bounds (t - m) r (by omega) h.r0 h.r1
  have := h.m0
  omega
theorem sh_mono {m b r t t' : Int} (h0 : -1000000 ≤ r) (ht : t ≤ t') : sh m b r t ≤ sh m b r t' := by
  unfold sh
  have := Int.mul_le_mul_of_nonneg_right (show t - m ≤ t' - m by omega) (show (0 : Int) ≤ 1000000000 + r by omega)
  omega
/-- The first time at which a clock shows n, or more. -/
def wh (m b r n : Int) : Int := if n ≤ b then m else m - (b - n) * 1000000000 / (1000000000 + r)
theorem wh_low {m b r n : Int} (h : n ≤ b) : wh m b r n = m := if_pos h
theorem wh_high {m b r n : Int} (h0 : -1000000 ≤ r) (h : b < n) : wh m b r n = m - (b - n) * 1000000000 / (1000000000 + r) ∧ m < wh m b r n ∧ n ≤ sh m b r (wh m b r n) ∧ sh m b r (wh m b r n - 1) < n := by
  have e : wh m b r n = m - (b - n) * 1000000000 / (1000000000 + r) := if_neg (by omega)
  refine ⟨e, ?_⟩
  rw [e]
  have k0 : 0 < 1000000000 + r := by omega
  have d := Int.mul_ediv_add_emod ((b - n) * 1000000000) (1000000000 + r)
  have r0 := Int.emod_nonneg ((b - n) * 1000000000) (show 1000000000 + r ≠ 0 by omega)
  have r1 := Int.emod_lt_of_pos ((b - n) * 1000000000) k0
  generalize ((b - n) * 1000000000) % (1000000000 + r) = s at *
  generalize hq : ((b - n) * 1000000000) / (1000000000 + r) = q at *
  have q0 : q < 0 := by
    rcases (show q < 0 ∨ 0 ≤ q by omega) with h2 | h2
    · exact h2
    · have := Int.mul_nonneg (Int.le_of_lt k0) h2
      omega
  unfold sh
  have e1 : (m - q - m) * (1000000000 + r) = -((1000000000 + r) * q) := by
    rw [show m - q - m = -q by omega, Int.neg_mul, Int.mul_comm]
  have e2 : (m - q - 1 - m) * (1000000000 + r) = -((1000000000 + r) * q) - (1000000000 + r) := by
    rw [show m - q - 1 - m = -q - 1 by omega, Int.sub_mul, Int.neg_mul, Int.mul_comm, Int.one_mul]
  rw [e1, e2]
  generalize (1000000000 + r) * q = z at *
  omega
theorem wh_last {m b r n : Int} (h0 : -1000000 ≤ r) (h : b < n) (hs : n ≤ sh m b r 1125899906842624) : wh m b r n ≤ 1125899906842624 := by
  obtain ⟨-, -, -, h3⟩ := wh_high (m := m) h0 h
  rcases (show 1125899906842624 < wh m b r n ∨ wh m b r n ≤ 1125899906842624 by omega) with h4 | h4
  · have := sh_mono (m := m) (b := b) h0 (show 1125899906842624 ≤ wh m b r n - 1 by omega)
    omega
  · exact h4
end Go.Proofs.YtmagjekmlnpfpaaGreat.ClockW


